import Derived.Test.YthihennifigchaaXhZ
import Derived.Test.YthihennifigchaaQc
import Derived.Test.YthihennifigchaaQe
namespace Go.Proofs.Ythihennifigchaa.Bx
open Go.RowKit Bk

/-- Things that lie in memory new to w, beside those that lay there. -/
theorem SepI.join {W w w' : World} {D D' : Nat × Nat → Prop} {R R' : Nat × Nat → Rsc} (h : SepI W w D R) (h' : SepI w w' D' R') (hd : ∀ i, D' i → ¬ D i) [DecidablePred D'] : SepI W w' (fun i => D i ∨ D' i) (fun i => if D' i then R' i else R i) := by
  have hs := h.old.size
  have hv : ∀ i, D i → (if D' i then R' i else R i) = R i := fun i hi => by rw [if_neg (fun hx => hd i hx hi)]
  have hlt : ∀ i, D i → ∀ x ∈ (R i).F, x < w.heap.size := fun i hi x hx => (R i).lt (h.P i hi) hx
  refine ⟨h.old.trans h'.old, fun i hi => ?_, fun i hi x hx => ?_, fun i j hi hj hij x hx hx2 => ?_⟩
  · rcases hi with hi | hi
    · show (if D' i then R' i else R i).P w'
      rw [hv i hi]; exact (R i).keep (h.P i hi) h'.old (by simp)
    · show (if D' i then R' i else R i).P w'
      rw [if_pos hi]; exact h'.P i hi
  · rcases hi with hi | hi
    · have hx : x ∈ (if D' i then R' i else R i).F := hx
      rw [hv i hi] at hx; exact h.new i hi x hx
    · have hx : x ∈ (if D' i then R' i else R i).F := hx
      rw [if_pos hi] at hx; have := h'.new i hi x hx; omega
  · have hx : x ∈ (if D' i then R' i else R i).F := hx
    have hx2 : x ∈ (if D' j then R' j else R j).F := hx2
    rcases hi with hi | hi <;> rcases hj with hj | hj
    · rw [hv i hi] at hx; rw [hv j hj] at hx2; exact h.apart i j hi hj hij x hx hx2
    · rw [hv i hi] at hx; rw [if_pos hj] at hx2; have := hlt i hi x hx; have := h'.new j hj x hx2; omega
    · rw [if_pos hi] at hx; rw [hv j hj] at hx2; have := hlt j hj x hx2; have := h'.new i hi x hx; omega
    · rw [if_pos hi] at hx; rw [if_pos hj] at hx2; exact h'.apart i j hi hj hij x hx hx2

/-- An answer more: a row of m lists. -/
def Bo.ans (s : Bo) (Rn : Value) (m : Nat) (V : Nat → Value) (X : Nat → Rsc) : Bo :=
  { s with n := s.n + 1, kn := fun t => if t = s.n then m else s.kn t, rl := fun t => if t = s.n then m else s.rl t, RV := fun t => if t = s.n then Rn else s.RV t, LV := fun t => if t = s.n then V else s.LV t, LX := fun t => if t = s.n then X else s.LX t }
section
variable {W w w' : World} {A : Nat} {s : Bo}
theorem BAt.ans {Rn : Value} {m : Nat} {V : Nat → Value} {X : Nat → Rsc} (h : BAt W w A s) (hk : Kept [] w w') (hrow : w'.ownsRow w.heap.size 52 1 Rn m (vals V m)) (hX : ∀ k, k < m → (X k).P w') (hn : ∀ k, k < m → ∀ x ∈ (X k).F, w.heap.size ≤ x) (ha : ∀ k j, k < m → j < m → k ≠ j → ∀ x ∈ (X k).F, x ∉ (X j).F) (hr : ∀ k, k < m → ∀ x ∈ (X k).F, x ∉ Rn.ownBlock.toList) : BAt W w' A (s.ans Rn m V X) := by
  have h' : SepI w w' (fun i => (i.1 = 0 ∧ i.2 = s.n) ∨ (i.1 = 10 + s.n ∧ i.2 < m)) (fun i => if i.1 = 0 then vrw 52 Rn m V else X i.2) := by
    refine ⟨hk, fun i hi => ?_, fun i hi x hx => ?_, fun i j hi hj hij x hx hx2 => ?_⟩
    · rcases hi with ⟨e1, e2⟩ | ⟨e1, e2⟩
      · show (if i.1 = 0 then vrw 52 Rn m V else X i.2).P w'
        rw [if_pos e1]; exact own_base hrow (Nat.zero_le _)
      · show (if i.1 = 0 then vrw 52 Rn m V else X i.2).P w'
        rw [if_neg (by omega)]; exact hX _ e2
    · have hx : x ∈ (if i.1 = 0 then vrw 52 Rn m V else X i.2).F := hx
      rcases hi with ⟨e1, e2⟩ | ⟨e1, e2⟩
      · rw [if_pos e1] at hx; exact (hrow.lt x (mem_own.1 hx)).1
      · rw [if_neg (by omega)] at hx; exact hn _ e2 x hx
    · have hx : x ∈ (if i.1 = 0 then vrw 52 Rn m V else X i.2).F := hx
      have hx2 : x ∈ (if j.1 = 0 then vrw 52 Rn m V else X j.2).F := hx2
      rcases hi with ⟨e1, e2⟩ | ⟨e1, e2⟩ <;> rcases hj with ⟨f1, f2⟩ | ⟨f1, f2⟩
      · exact hij (Prod.ext (by omega) (by omega))
      · rw [if_pos e1] at hx; rw [if_neg (by omega)] at hx2; exact hr _ f2 x hx2 hx
      · rw [if_neg (by omega)] at hx; rw [if_pos f1] at hx2; exact hr _ e2 x hx hx2
      · rw [if_neg (by omega)] at hx hx2; exact ha _ _ e2 f2 (fun e => hij (Prod.ext (by omega) e)) x hx hx2
  have nD : ∀ i : Nat × Nat, ((i.1 = 0 ∧ i.2 = s.n) ∨ (i.1 = 10 + s.n ∧ i.2 < m)) → ¬ s.D i := fun i hi hD => by
    rcases s.cases_D i hD with ⟨a, rfl, ha⟩ | rfl | rfl | rfl | rfl | ⟨a, c, rfl, ha, -⟩
    · rcases hi with ⟨-, e⟩ | ⟨e, -⟩
      · simp at e; omega
      · simp at e; omega
    · rcases hi with ⟨e, -⟩ | ⟨e, -⟩ <;> simp at e <;> omega
    · rcases hi with ⟨e, -⟩ | ⟨e, -⟩ <;> simp at e <;> omega
    · rcases hi with ⟨e, -⟩ | ⟨e, -⟩ <;> simp at e <;> omega
    · rcases hi with ⟨e, -⟩ | ⟨e, -⟩ <;> simp at e <;> omega
    · rcases hi with ⟨e, -⟩ | ⟨e, -⟩ <;> simp at e <;> omega
  refine (SepI.join h h' nD).congr (fun i hi => ?_) (fun i hi => ?_)
  · rcases (s.ans Rn m V X).cases_D i hi with ⟨a, rfl, ha⟩ | rfl | rfl | rfl | rfl | ⟨a, c, rfl, ha, hc⟩
    · have ha : a < s.n + 1 := ha
      by_cases e : a = s.n
      · exact .inr (.inl ⟨rfl, e⟩)
      · exact .inl (s.D0 a (by omega))
    · exact .inl s.D1
    · exact .inl s.D2
    · exact .inl s.D3
    · exact .inl s.D4
    · have ha : a < s.n + 1 := ha
      have hc : c < if a = s.n then m else s.kn a := hc
      by_cases e : a = s.n
      · rw [if_pos e] at hc
        exact .inr (.inr ⟨by show 10 + a = 10 + s.n; omega, hc⟩)
      · rw [if_neg e] at hc
        exact .inl (s.DL a c (by omega) hc)
  · rcases (s.ans Rn m V X).cases_D i hi with ⟨a, rfl, ha⟩ | rfl | rfl | rfl | rfl | ⟨a, c, rfl, ha, hc⟩
    · by_cases e : a = s.n
      · rw [if_pos (.inl ⟨rfl, e⟩)]
        show vrw 52 (if a = s.n then Rn else s.RV a) (if a = s.n then m else s.rl a) (if a = s.n then V else s.LV a) = vrw 52 Rn m V
        rw [if_pos e, if_pos e, if_pos e]
      · rw [if_neg (by rintro (⟨-, e2⟩ | ⟨e2, -⟩); exact e e2; simp at e2; omega)]
        show vrw 52 (if a = s.n then Rn else s.RV a) (if a = s.n then m else s.rl a) (if a = s.n then V else s.LV a) = vrw 52 (s.RV a) (s.rl a) (s.LV a)
        rw [if_neg e, if_neg e, if_neg e]
    · rw [if_neg (by rintro (⟨e2, -⟩ | ⟨e2, -⟩) <;> simp at e2 <;> omega)]; rfl
    · rw [if_neg (by rintro (⟨e2, -⟩ | ⟨e2, -⟩) <;> simp at e2 <;> omega)]; rfl
    · rw [if_neg (by rintro (⟨e2, -⟩ | ⟨e2, -⟩) <;> simp at e2 <;> omega)]; rfl
    · rw [if_neg (by rintro (⟨e2, -⟩ | ⟨e2, -⟩) <;> simp at e2 <;> omega)]; rfl
    · have hc : c < if a = s.n then m else s.kn a := hc
      rw [(s.ans Rn m V X).RL]
      by_cases e : a = s.n
      · rw [if_pos e] at hc
        rw [if_pos (.inr ⟨by show 10 + a = 10 + s.n; omega, hc⟩), if_neg (by show ¬ 10 + a = 0; omega)]
        show (if a = s.n then X else s.LX a) c = X c
        rw [if_pos e]
      · rw [if_neg (by rintro (⟨e2, -⟩ | ⟨e2, -⟩) <;> simp at e2 <;> omega), s.RL]
        show (if a = s.n then X else s.LX a) c = s.LX a c
        rw [if_neg e]
end
end Go.Proofs.Ythihennifigchaa.Bx

namespace Go.Proofs.Ythihennifigchaa.Bx
open Go.RowKit Bk
/-- A Book with d answers that are not taken yet; K: how many lists an answer has at most. -/
structure Rq (s : Bo) (d K : Nat) : Prop where
  r : s.r + d = s.n
  rl : ∀ i, i < s.n → s.rl i = s.kn i
  ov : ∀ i, i < s.r → s.OV i = s.RV i
  k8 : ∀ i, s.kn i ≤ K
  J : ∀ j, s.J j ↔ j < s.h
  ls : ∀ i k, i < s.n → k < s.kn i → ∃ ao m f, s.LV i k = .slice ao m m ∧ s.LX i k = zlf .u16 65 ao m f ∧ m ≤ 100000000
theorem Rq.rk {s : Bo} {K : Nat} (h : Rq s 0 K) (hK : K ≤ 8) (hn : s.n ≤ 8) : Rk s :=
  ⟨h.r, h.rl, fun i hi => h.ov i (by have := h.r; omega), hn, fun i => by have := h.k8 i; omega, h.J, h.ls⟩
theorem Rq.of_dn {s s' : Bo} {K : Nat} (h : Rq s 0 K) (hd : Dn s s') : Rq s' 0 (K + 2) :=
  ⟨hd.r, hd.rl, fun i hi => hd.ov i (by have := hd.r; omega), fun i => by have := hd.kn i; have := h.k8 i; omega, hd.J, hd.ls⟩
theorem Rq.more {s : Bo} {d K K' : Nat} (h : Rq s d K) (hK : K ≤ K') : Rq s d K' := ⟨h.r, h.rl, h.ov, fun i => by have := h.k8 i; omega, h.J, h.ls⟩
theorem Rq.ans {s : Bo} {d K m : Nat} (h : Rq s d K) {Rn : Value} {V : Nat → Value} {X : Nat → Rsc} (hm : m ≤ K) (hl : ∀ k, k < m → ∃ ao m f, V k = .slice ao m m ∧ X k = zlf .u16 65 ao m f ∧ m ≤ 100000000) : Rq (s.ans Rn m V X) (d + 1) K := by
  refine ⟨by have := h.r; show s.r + (d + 1) = s.n + 1; omega, fun i hi => ?_, fun i hi => ?_, fun i => ?_, h.J, fun i k hi hk => ?_⟩
  · show (if i = s.n then m else s.rl i) = (if i = s.n then m else s.kn i)
    by_cases e : i = s.n
    · rw [if_pos e, if_pos e]
    · rw [if_neg e, if_neg e]; exact h.rl i (by have : i < s.n + 1 := hi; omega)
  · show s.OV i = (if i = s.n then Rn else s.RV i)
    have hi : i < s.r := hi
    rw [if_neg (by have := h.r; omega)]
    exact h.ov i hi
  · show (if i = s.n then m else s.kn i) ≤ K
    split
    · exact hm
    · exact h.k8 i
  · have hk : k < (if i = s.n then m else s.kn i) := hk
    by_cases e : i = s.n
    · rw [if_pos e] at hk
      obtain ⟨ao, m', f, q1, q2, q3⟩ := hl k hk
      refine ⟨ao, m', f, ?_, ?_, q3⟩
      · show (if i = s.n then V else s.LV i) k = _
        rw [if_pos e]; exact q1
      · show (if i = s.n then X else s.LX i) k = _
        rw [if_pos e]; exact q2
    · rw [if_neg e] at hk
      obtain ⟨ao, m', f, q1, q2, q3⟩ := h.ls i k (by have : i < s.n + 1 := hi; omega) hk
      refine ⟨ao, m', f, ?_, ?_, q3⟩
      · show (if i = s.n then V else s.LV i) k = _
        rw [if_neg e]; exact q1
      · show (if i = s.n then X else s.LX i) k = _
        rw [if_neg e]; exact q2
theorem Rq.take {s : Bo} {d K : Nat} (h : Rq s (d + 1) K) {v : Value} (Sn : Value) (hv : s.RV s.r = v) : Rq (s.appo v Sn) d K := by
  refine ⟨by have := h.r; show s.r + 1 + d = s.n; omega, h.rl, fun i hi => ?_, h.k8, h.J, h.ls⟩
  show (if i = s.r then v else s.OV i) = s.RV i
  by_cases e : i = s.r
  · rw [if_pos e, e, hv]
  · rw [if_neg e]; exact h.ov i (by have : i < s.r + 1 := hi; omega)

/-- Nothing beside it. -/
def nul : Rsc where
  P := fun _ => True
  F := []
  lt := fun _ hx => by simp at hx
  keep := fun h _ _ => h
def bo0 : Bo := ⟨0, 0, fun _ => 0, fun _ => 0, fun _ => .slice none 0 0, fun _ => .slice none 0 0, fun _ _ => .slice none 0 0, fun _ _ => obj 0 (.cells #[] 0 (0, 0)), .slice none 0 0, 0, fun _ => .slice none 0 0, fun _ => 0, .slice none 0 0, fun _ => False, [], 0, nul⟩
theorem bo0_rq (K : Nat) : Rq bo0 0 K := ⟨rfl, fun _ h => absurd h (by show ¬ _ < 0; omega), fun _ h => absurd h (by show ¬ _ < 0; omega), fun _ => Nat.zero_le _, fun j => ⟨fun h => h.elim, fun h => absurd h (by show ¬ j < 0; omega)⟩, fun _ _ h => absurd h (by show ¬ _ < 0; omega)⟩
theorem bo0_at {W w : World} {A : Nat} (old : Kept [] W w) (hA : W.heap.size ≤ A) (hb : w.heap[A]? = some (.cells #[.slice none 0 0, .int .i64 0, .slice none 0 0] 35 (0, 0))) : BAt W w A bo0 := by
  have F : ∀ i, bo0.D i → ∀ x ∈ (bo0.R A i).F, i = (1, 0) ∧ x = A := fun i hi x hx => by
    rcases bo0.cases_D i hi with ⟨a, rfl, ha⟩ | rfl | rfl | rfl | rfl | ⟨a, c, rfl, ha, -⟩
    · exact absurd ha (by show ¬ a < 0; omega)
    · exact ⟨rfl, by simpa [Bo.R, obj] using hx⟩
    · simp [Bo.R, vrw, bo0, Value.ownBlock] at hx
    · simp [Bo.R, hrw, bo0, Value.ownBlock] at hx
    · simp [Bo.R, hth, bo0, nul] at hx
    · exact absurd ha (by show ¬ a < 0; omega)
  refine ⟨old, fun i hi => ?_, fun i hi x hx => ?_, fun i j hi hj hij x hx hx2 => ?_⟩
  · rcases bo0.cases_D i hi with ⟨a, rfl, ha⟩ | rfl | rfl | rfl | rfl | ⟨a, c, rfl, ha, -⟩
    · exact absurd ha (by show ¬ a < 0; omega)
    · exact hb
    · exact ⟨rfl, .inl ⟨rfl, rfl⟩⟩
    · exact ⟨rfl, .inl ⟨rfl, rfl⟩⟩
    · exact ⟨fun x hx => by simp [bo0] at hx, fun j hj => hj.elim, trivial, fun x hx => by simp [bo0] at hx⟩
    · exact absurd ha (by show ¬ a < 0; omega)
  · have := (F i hi x hx).2; omega
  · exact hij ((F i hi x hx).1.trans (F j hj x hx2).1.symm)
/-- An answer of nothing. -/
theorem BAt.nil {W w w' : World} {A : Nat} {s : Bo} (h : BAt W w A s) (hk : Kept [] w w') : BAt W w' A (s.ans (.slice none 0 0) 0 (fun _ => .slice none 0 0) (fun _ => obj 0 (.cells #[] 0 (0, 0)))) :=
  h.ans hk ⟨by simp [vals], .inl ⟨rfl, rfl⟩⟩ (fun _ h => absurd h (by omega)) (fun _ h => absurd h (by omega)) (fun _ _ h => absurd h (by omega)) (fun _ h => absurd h (by omega))
/-- An answer of planes. -/
theorem BAt.mk {W w w' : World} {A G n : Nat} {s : Bo} {bs ln : Nat → Nat} {F : Nat → Nat → Nat} (h : BAt W w A s) (hM : Mk w w' G n n bs ln F) (hn : n ≤ 1000000) : BAt W w' A (s.ans (.slice (some ⟨G, 0, none⟩) n n) n (fun i => .slice (some ⟨bs i, 0, none⟩) (ln i) (ln i)) (fun i => zlf .u16 65 (some ⟨bs i, 0, none⟩) (ln i) (fun j => (F i j : Int)))) := by
  have one : ∀ k x, x ∈ (zlf .u16 65 (some ⟨bs k, 0, none⟩) (ln k) (fun j => (F k j : Int))).F → x = bs k := fun k x hx => by simpa [zlf, ablk] using hx
  refine h.ans hM.kept (hM.row_own hn) (fun k hk => hM.zlf hk) (fun k hk x hx => ?_) (fun k j hk hj hkj x hx hx2 => ?_) (fun k hk x hx hx2 => ?_)
  · rw [one k x hx]; have := hM.gt k hk; have := hM.new; omega
  · have e1 := one k x hx
    have e2 := one j x hx2
    rcases Nat.lt_or_gt_of_ne hkj with h | h
    · have := hM.mon k j h hj; omega
    · have := hM.mon j k h hk; omega
  · have e1 := one k x hx
    simp [Value.ownBlock] at hx2
    have := hM.gt k hk
    omega

/-- Blocks of a world below N that are told by p; and the others. -/
def inn (p : Nat → Bool) (N : Nat) : List Nat := (List.range N).filter p
def cpl (p : Nat → Bool) (N : Nat) : List Nat := (List.range N).filter (fun x => !p x)
theorem mem_inn {p : Nat → Bool} {N x : Nat} : x ∈ inn p N ↔ x < N ∧ p x = true := by simp [inn]
theorem mem_cpl {p : Nat → Bool} {N x : Nat} : x ∈ cpl p N ↔ x < N ∧ p x = false := by simp [cpl]
/-- Blocks that are as they were in wS. -/
def snap (p : Nat → Bool) (wS : World) : Rsc where
  P := fun u => Kept (cpl p wS.heap.size) wS u
  F := inn p wS.heap.size
  lt := fun h hx => Nat.lt_of_lt_of_le (mem_inn.1 hx).1 h.size
  keep := fun {w w' ks} h hk hF => ⟨hk.os.trans h.os, hk.tape.trans h.tape, hk.output.trans h.output, Nat.le_trans h.size hk.size, fun k hk1 hk2 => by
    have hp : p k = true := by
      cases hz : p k with
      | true => rfl
      | false => exact absurd (mem_cpl.2 ⟨hk1, hz⟩) hk2
    rw [hk.block k (Nat.lt_of_lt_of_le hk1 h.size) (hF k (mem_inn.2 ⟨hk1, hp⟩)), h.block k hk1 hk2]⟩
end Go.Proofs.Ythihennifigchaa.Bx
