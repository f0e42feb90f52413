import Derived.Test.YtiojcfffhcipnaaCb
namespace Go.Proofs.Ytiojcfffhcipnaa
open Go.RowKit

/-- One thing changes; what it lies in anew may be no one's memory. -/
theorem SepI.stepF {W w w' : World} {D : Nat × Nat → Prop} {R : Nat × Nat → Rsc} {ks : List Nat} {r : Rsc} (h : SepI W w D R) (i : Nat × Nat) (hi : D i) (hk : Kept ks w w') (hks : ∀ x ∈ ks, x ∈ (R i).F ∨ w.heap.size ≤ x) (hr : r.P w')
    (hF : ∀ x ∈ r.F, x ∈ (R i).F ∨ w.heap.size ≤ x ∨ (W.heap.size ≤ x ∧ ∀ j, D j → x ∉ (R j).F)) : SepI W w' D (updI R i r) := by
  have hs := h.old.size
  have far : ∀ j, D j → j ≠ i → ∀ x ∈ (R j).F, x ∉ (R i).F ∧ ¬ w.heap.size ≤ x := fun j hj hji x hx => ⟨h.apart j i hj hi hji x hx, by have := (R j).lt (h.P j hj) hx; omega⟩
  have farF : ∀ j, D j → j ≠ i → ∀ x ∈ (R j).F, x ∉ r.F := fun j hj hji x hx hm => by
    rcases hF x hm with q | q | q
    · exact (far j hj hji x hx).1 q
    · exact (far j hj hji x hx).2 q
    · exact q.2 j hj hx
  refine ⟨h.old.step hk (fun x hx => .inr ?_), fun j hj => ?_, fun j hj x hx => ?_, fun j k hj hk' hjk x hx hx2 => ?_⟩
  · rcases hks x hx with q | q
    · exact h.new i hi x q
    · omega
  · by_cases e : j = i
    · subst e; rw [updI_at]; exact hr
    · rw [updI_far _ _ _ _ e]
      exact (R j).keep (h.P j hj) hk (fun x hx hx2 => by
        rcases hks x hx2 with q | q
        · exact (far j hj e x hx).1 q
        · exact (far j hj e x hx).2 q)
  · by_cases e : j = i
    · subst e
      rw [updI_at] at hx
      rcases hF x hx with q | q | q
      · exact h.new j hj x q
      · omega
      · exact q.1
    · rw [updI_far _ _ _ _ e] at hx; exact h.new j hj x hx
  · by_cases e : j = i
    · subst e
      rw [updI_at] at hx
      rw [updI_far _ _ _ _ (Ne.symm hjk)] at hx2
      exact farF k hk' (Ne.symm hjk) x hx2 hx
    · rw [updI_far _ _ _ _ e] at hx
      by_cases e2 : k = i
      · subst e2
        rw [updI_at] at hx2
        exact farF j hj e x hx hx2
      · rw [updI_far _ _ _ _ e2] at hx2
        exact h.apart j k hj hk' hjk x hx hx2

/-- What a play has: media of both sides, two pairs, pieces, the Book, and a step's own things. -/
structure Sta where
  C : Nat
  P : Nat → Nat
  D : Nat → Nat
  V : Nat → Value
  L : Nat → Value
  U : Nat → Value
  M : Nat → Value
  s : Nat → Md
  t : Nat → Md
  X : Nat → Nat
  mu : Nat → Nat
  S : Nat → Value
  T : Nat → Value
  n : Nat → Nat
  rp : Nat → Nat → Nat
  dp : Nat → Nat → Nat
  pi : Nat → Nat → Nat
  pa : Nat → Nat → Int
  pl : Nat → Nat → Int
  b : Bk
  ne : Nat
  e : Nat → Rsc

def ifs (rp : Nat → Nat) (n : Nat) : List Value := (List.range n).map (fun i => .iface 99 (.pointer (some ⟨rp i, 0, none⟩)))
def pts (dp : Nat → Nat) (n : Nat) : List Value := (List.range n).map (fun i => .pointer (some ⟨dp i, 0, none⟩))

/-- The things, by their names. -/
def Sta.R (a : Sta) (i : Nat × Nat) : Rsc :=
  match i.1 with
  | 0 => medR (a.P i.2) (a.V i.2) (a.L i.2) (a.s i.2)
  | 1 => docR (a.D i.2) (a.U i.2) (a.M i.2) (a.t i.2)
  | 2 => obj (a.X i.2) (.cells #[.pointer (some ⟨a.P (a.mu i.2), 0, none⟩), .pointer (some ⟨a.D (a.mu i.2), 0, none⟩), a.S i.2, a.T i.2] 41 (0, 0))
  | 3 => lstR 59 1 (a.S i.2) (a.n i.2) (ifs (a.rp i.2) (a.n i.2))
  | 4 => lstR 85 1 (a.T i.2) (a.n i.2) (pts (a.dp i.2) (a.n i.2))
  | 5 => bkR a.b
  | 6 => obj (a.rp 0 i.2) (.cells #[.pointer (some ⟨a.P (a.pi 0 i.2), 0, none⟩), .int .i64 (a.pa 0 i.2), .int .i64 (a.pl 0 i.2)] 101 (0, 0))
  | 7 => obj (a.rp 1 i.2) (.cells #[.pointer (some ⟨a.P (a.pi 1 i.2), 0, none⟩), .int .i64 (a.pa 1 i.2), .int .i64 (a.pl 1 i.2)] 101 (0, 0))
  | 8 => obj (a.dp 0 i.2) (.cells #[.pointer (some ⟨a.D (a.pi 0 i.2), 0, none⟩), .int .i64 (a.pa 0 i.2), .int .i64 (a.pl 0 i.2)] 104 (0, 0))
  | 9 => obj (a.dp 1 i.2) (.cells #[.pointer (some ⟨a.D (a.pi 1 i.2), 0, none⟩), .int .i64 (a.pa 1 i.2), .int .i64 (a.pl 1 i.2)] 104 (0, 0))
  | _ => a.e i.2
def Sta.Dm (a : Sta) (i : Nat × Nat) : Prop :=
  match i.1 with
  | 0 => i.2 < a.C
  | 1 => i.2 < a.C
  | 2 => i.2 < 2
  | 3 => i.2 < 2
  | 4 => i.2 < 2
  | 5 => i.2 = 0
  | 6 => i.2 < a.n 0
  | 7 => i.2 < a.n 1
  | 8 => i.2 < a.n 0
  | 9 => i.2 < a.n 1
  | 10 => i.2 < a.ne
  | _ => False

/-- What is known of it: k steps were done, z bytes were handed in. -/
structure Sta.Ok (a : Sta) (k z : Nat) : Prop where
  alk : ∀ c, c < a.C → Alk (a.s c) (a.t c)
  mok : ∀ c, c < a.C → Mok (a.s c)
  mokt : ∀ c, c < a.C → Mok (a.t c)
  len : ∀ c, c < a.C → (a.s c).b.length ≤ z
  log : ∀ c, c < a.C → (a.s c).g.length ≤ k
  mu : ∀ i, i < 2 → a.mu i < a.C
  pi : ∀ i, i < 2 → ∀ j, j < a.n i → a.pi i j < a.C ∧ 0 ≤ a.pa i j ∧ a.pa i j ≤ 268435456 ∧ 0 ≤ a.pl i j ∧ a.pl i j ≤ 268435456
  pn : ∀ i, i < 2 → a.n i ≤ k
  bok : BkOk a.b
  bn : a.b.n + a.b.p ≤ 2 * k ∧ a.b.q + a.b.r ≤ 2 * k
  z : z ≤ 268435456
  k : k ≤ 2600000000000

/-- The play's state in memory. -/
structure StA (W w : World) (a : Sta) (k z : Nat) : Prop where
  sep : SepI W w a.Dm a.R
  ok : a.Ok k z

def Sta.setP (a : Sta) (c : Nat) (V L : Value) (s : Md) : Sta := { a with V := updI a.V c V, L := updI a.L c L, s := updI a.s c s }
def Sta.setD (a : Sta) (c : Nat) (U M : Value) (t : Md) : Sta := { a with U := updI a.U c U, M := updI a.M c M, t := updI a.t c t }
theorem Sta.setP_R (a : Sta) (c : Nat) (V L : Value) (s : Md) : (a.setP c V L s).R = updI a.R (0, c) (medR (a.P c) V L s) := by
  funext ⟨k, j⟩
  by_cases e : (k, j) = (0, c)
  · cases e
    rw [updI_at]
    simp [Sta.R, Sta.setP, updI]
  · rw [updI_far _ _ _ _ e]
    match k, e with
    | 0, e =>
      have hj : j ≠ c := fun q => e (by rw [q])
      simp [Sta.R, Sta.setP, updI, hj]
    | 1, _ => rfl
    | 2, _ => rfl
    | 3, _ => rfl
    | 4, _ => rfl
    | 5, _ => rfl
    | 6, _ => rfl
    | 7, _ => rfl
    | 8, _ => rfl
    | 9, _ => rfl
    | k + 10, _ => rfl
theorem Sta.setD_R (a : Sta) (c : Nat) (V L : Value) (s : Md) : (a.setD c V L s).R = updI a.R (1, c) (docR (a.D c) V L s) := by
  funext ⟨k, j⟩
  by_cases e : (k, j) = (1, c)
  · cases e
    rw [updI_at]
    simp [Sta.R, Sta.setD, updI]
  · rw [updI_far _ _ _ _ e]
    match k, e with
    | 0, _ => rfl
    | 1, e =>
      have hj : j ≠ c := fun q => e (by rw [q])
      simp [Sta.R, Sta.setD, updI, hj]
    | 2, _ => rfl
    | 3, _ => rfl
    | 4, _ => rfl
    | 5, _ => rfl
    | 6, _ => rfl
    | 7, _ => rfl
    | 8, _ => rfl
    | 9, _ => rfl
    | k + 10, _ => rfl
theorem Sta.setB_R (a : Sta) (b : Bk) : ∀ i, ({ a with b := b } : Sta).R i = if i.1 = 5 then bkR b else a.R i := by
  rintro ⟨k, j⟩
  match k with
  | 0 => rfl
  | 1 => rfl
  | 2 => rfl
  | 3 => rfl
  | 4 => rfl
  | 5 => rfl
  | 6 => rfl
  | 7 => rfl
  | 8 => rfl
  | 9 => rfl
  | k + 10 => simp [Sta.R]
end Go.Proofs.Ytiojcfffhcipnaa
