import Derived.Test.YthihennifigchaaKi
import Derived.Test.YthihennifigchaaQc
namespace Go.Proofs.Ythihennifigchaa.Bk
open Go.RowKit

/-- Things that lie in memory new to w, beside those that lay there. -/
theorem SepI.join {W w w' : World} {D D' : Nat × Nat → Prop} {R R' : Nat × Nat → Rsc} (h : SepI W w D R) (h' : SepI w w' D' R') (hd : ∀ i, D' i → ¬ D i) [DecidablePred D'] : SepI W w' (fun i => D i ∨ D' i) (fun i => if D' i then R' i else R i) := by
  have hs := h.old.size
  have hv : ∀ i, D i → (if D' i then R' i else R i) = R i := fun i hi => by rw [if_neg (fun hx => hd i hx hi)]
  have hlt : ∀ i, D i → ∀ x ∈ (R i).F, x < w.heap.size := fun i hi x hx => (R i).lt (h.P i hi) hx
  refine ⟨h.old.trans h'.old, fun i hi => ?_, fun i hi x hx => ?_, fun i j hi hj hij x hx hx2 => ?_⟩
  · rcases hi with hi | hi
    · show (if D' i then R' i else R i).P w'
      rw [hv i hi]; exact (R i).keep (h.P i hi) h'.old (by simp)
    · show (if D' i then R' i else R i).P w'
      rw [if_pos hi]; exact h'.P i hi
  · rcases hi with hi | hi
    · have hx : x ∈ (if D' i then R' i else R i).F := hx
      rw [hv i hi] at hx; exact h.new i hi x hx
    · have hx : x ∈ (if D' i then R' i else R i).F := hx
      rw [if_pos hi] at hx; have := h'.new i hi x hx; omega
  · have hx : x ∈ (if D' i then R' i else R i).F := hx
    have hx2 : x ∈ (if D' j then R' j else R j).F := hx2
    rcases hi with hi | hi <;> rcases hj with hj | hj
    · rw [hv i hi] at hx; rw [hv j hj] at hx2; exact h.apart i j hi hj hij x hx hx2
    · rw [hv i hi] at hx; rw [if_pos hj] at hx2; have := hlt i hi x hx; have := h'.new j hj x hx2; omega
    · rw [if_pos hi] at hx; rw [hv j hj] at hx2; have := hlt j hj x hx2; have := h'.new i hi x hx; omega
    · rw [if_pos hi] at hx; rw [if_pos hj] at hx2; exact h'.apart i j hi hj hij x hx hx2

/-- An answer more: a row of m lists. -/
def Bo.ans (s : Bo) (Rn : Value) (m : Nat) (V : Nat → Value) (X : Nat → Rsc) : Bo :=
  { s with n := s.n + 1, kn := fun t => if t = s.n then m else s.kn t, rl := fun t => if t = s.n then m else s.rl t, RV := fun t => if t = s.n then Rn else s.RV t, LV := fun t => if t = s.n then V else s.LV t, LX := fun t => if t = s.n then X else s.LX t }
section
variable {W w w' : World} {A : Nat} {s : Bo}
theorem BAt.ans {Rn : Value} {m : Nat} {V : Nat → Value} {X : Nat → Rsc} (h : BAt W w A s) (hk : Kept [] w w') (hrow : w'.ownsRow w.heap.size 52 1 Rn m (vals V m)) (hX : ∀ k, k < m → (X k).P w') (hn : ∀ k, k < m → ∀ x ∈ (X k).F, w.heap.size ≤ x) (ha : ∀ k j, k < m → j < m → k ≠ j → ∀ x ∈ (X k).F, x ∉ (X j).F) (hr : ∀ k, k < m → ∀ x ∈ (X k).F, x ∉ Rn.ownBlock.toList) : BAt W w' A (s.ans Rn m V X) := by
  have h' : SepI w w' (fun i => (i.1 = 0 ∧ i.2 = s.n) ∨ (i.1 = 10 + s.n ∧ i.2 < m)) (fun i => if i.1 = 0 then vrw 52 Rn m V else X i.2) := by
    refine ⟨hk, fun i hi => ?_, fun i hi x hx => ?_, fun i j hi hj hij x hx hx2 => ?_⟩
    · rcases hi with ⟨e1, e2⟩ | ⟨e1, e2⟩
      · show (if i.1 = 0 then vrw 52 Rn m V else X i.2).P w'
        rw [if_pos e1]; exact own_base hrow (Nat.zero_le _)
      · show (if i.1 = 0 then vrw 52 Rn m V else X i.2).P w'
        rw [if_neg (by omega)]; exact hX _ e2
    · have hx : x ∈ (if i.1 = 0 then vrw 52 Rn m V else X i.2).F := hx
      rcases hi with ⟨e1, e2⟩ | ⟨e1, e2⟩
      · rw [if_pos e1] at hx; exact (hrow.lt x (mem_own.1 hx)).1
      · rw [if_neg (by omega)] at hx; exact hn _ e2 x hx
    · have hx : x ∈ (if i.1 = 0 then vrw 52 Rn m V else X i.2).F := hx
      have hx2 : x ∈ (if j.1 = 0 then vrw 52 Rn m V else X j.2).F := hx2
      rcases hi with ⟨e1, e2⟩ | ⟨e1, e2⟩ <;> rcases hj with ⟨f1, f2⟩ | ⟨f1, f2⟩
      · exact hij (Prod.ext (by omega) (by omega))
      · rw [if_pos e1] at hx; rw [if_neg (by omega)] at hx2; exact hr _ f2 x hx2 hx
      · rw [if_neg (by omega)] at hx; rw [if_pos f1] at hx2; exact hr _ e2 x hx hx2
      · rw [if_neg (by omega)] at hx hx2; exact ha _ _ e2 f2 (fun e => hij (Prod.ext (by omega) e)) x hx hx2
  have nD : ∀ i : Nat × Nat, ((i.1 = 0 ∧ i.2 = s.n) ∨ (i.1 = 10 + s.n ∧ i.2 < m)) → ¬ s.D i := fun i hi hD => by
    rcases s.cases_D i hD with ⟨a, rfl, ha⟩ | rfl | rfl | rfl | rfl | ⟨a, c, rfl, ha, -⟩
    · rcases hi with ⟨-, e⟩ | ⟨e, -⟩
      · simp at e; omega
      · simp at e; omega
    · rcases hi with ⟨e, -⟩ | ⟨e, -⟩ <;> simp at e <;> omega
    · rcases hi with ⟨e, -⟩ | ⟨e, -⟩ <;> simp at e <;> omega
    · rcases hi with ⟨e, -⟩ | ⟨e, -⟩ <;> simp at e <;> omega
    · rcases hi with ⟨e, -⟩ | ⟨e, -⟩ <;> simp at e <;> omega
    · rcases hi with ⟨e, -⟩ | ⟨e, -⟩ <;> simp at e <;> omega
  refine (SepI.join h h' nD).congr (fun i hi => ?_) (fun i hi => ?_)
  · rcases (s.ans Rn m V X).cases_D i hi with ⟨a, rfl, ha⟩ | rfl | rfl | rfl | rfl | ⟨a, c, rfl, ha, hc⟩
    · have ha : a < s.n + 1 := ha
      by_cases e : a = s.n
      · exact .inr (.inl ⟨rfl, e⟩)
      · exact .inl (s.D0 a (by omega))
    · exact .inl s.D1
    · exact .inl s.D2
    · exact .inl s.D3
    · exact .inl s.D4
    · have ha : a < s.n + 1 := ha
      have hc : c < if a = s.n then m else s.kn a := hc
      by_cases e : a = s.n
      · rw [if_pos e] at hc
        exact .inr (.inr ⟨by show 10 + a = 10 + s.n; omega, hc⟩)
      · rw [if_neg e] at hc
        exact .inl (s.DL a c (by omega) hc)
  · rcases (s.ans Rn m V X).cases_D i hi with ⟨a, rfl, ha⟩ | rfl | rfl | rfl | rfl | ⟨a, c, rfl, ha, hc⟩
    · by_cases e : a = s.n
      · rw [if_pos (.inl ⟨rfl, e⟩)]
        show vrw 52 (if a = s.n then Rn else s.RV a) (if a = s.n then m else s.rl a) (if a = s.n then V else s.LV a) = vrw 52 Rn m V
        rw [if_pos e, if_pos e, if_pos e]
      · rw [if_neg (by rintro (⟨-, e2⟩ | ⟨e2, -⟩); exact e e2; simp at e2; omega)]
        show vrw 52 (if a = s.n then Rn else s.RV a) (if a = s.n then m else s.rl a) (if a = s.n then V else s.LV a) = vrw 52 (s.RV a) (s.rl a) (s.LV a)
        rw [if_neg e, if_neg e, if_neg e]
    · rw [if_neg (by rintro (⟨e2, -⟩ | ⟨e2, -⟩) <;> simp at e2 <;> omega)]; rfl
    · rw [if_neg (by rintro (⟨e2, -⟩ | ⟨e2, -⟩) <;> simp at e2 <;> omega)]; rfl
    · rw [if_neg (by rintro (⟨e2, -⟩ | ⟨e2, -⟩) <;> simp at e2 <;> omega)]; rfl
    · rw [if_neg (by rintro (⟨e2, -⟩ | ⟨e2, -⟩) <;> simp at e2 <;> omega)]; rfl
    · have hc : c < if a = s.n then m else s.kn a := hc
      rw [(s.ans Rn m V X).RL]
      by_cases e : a = s.n
      · rw [if_pos e] at hc
        rw [if_pos (.inr ⟨by show 10 + a = 10 + s.n; omega, hc⟩), if_neg (by show ¬ 10 + a = 0; omega)]
        show (if a = s.n then X else s.LX a) c = X c
        rw [if_pos e]
      · rw [if_neg (by rintro (⟨e2, -⟩ | ⟨e2, -⟩) <;> simp at e2 <;> omega), s.RL]
        show (if a = s.n then X else s.LX a) c = s.LX a c
        rw [if_neg e]
end
end Go.Proofs.Ythihennifigchaa.Bk
