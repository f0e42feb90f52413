import Derived.Test.YthihennifigchaaXc
namespace Go.Proofs.Ythihennifigchaa.Bx
open Go.RowKit Bk

section
variable {W w w' : World} {A : Nat} {s : Bo}
/-- A value of out is another one. -/
def Bo.seto (s : Bo) (i : Nat) (v : Value) : Bo := { s with OV := fun t => if t = i then v else s.OV t }
theorem set_vals (V : Nat → Value) (n i : Nat) (v : Value) (hi : i < n) : (vals V n).set i v = vals (fun t => if t = i then v else V t) n := by
  apply List.ext_getElem?
  intro j
  rw [List.getElem?_set]
  by_cases e : i = j
  · subst e
    simp [vals, hi]
  · rw [if_neg e]
    by_cases hj : j < n
    · rw [vals_at _ _ _ hj, vals_at _ _ _ hj, if_neg (fun h => e h.symm)]
    · simp [vals, hj]
theorem snoc_vals (V : Nat → Value) (n : Nat) (v : Value) : vals V n ++ [v] = vals (fun t => if t = n then v else V t) (n + 1) := by
  unfold vals
  rw [List.range_succ, List.map_append, List.map_singleton, if_pos rfl]
  congr 1
  apply List.map_congr_left
  intro j hj
  have := List.mem_range.1 hj
  rw [if_neg (by omega)]
theorem BAt.seto (h : BAt W w A s) (i : Nat) (hi : i < s.r) (v : Value) (G cp : Nat) (hS : s.SO = .slice (some ⟨G, 0, none⟩) s.r cp) : BAt W (w.setCell ⟨G, i, none⟩ v) A (s.seto i v) := by
  have hr := h.out
  rw [hS] at hr
  obtain ⟨h1, h2⟩ := hr.stored i v
  have eF : (s.R A (2, 0)).F = [G] := by show s.SO.ownBlock.toList = [G]; rw [hS]; rfl
  have hP : ((s.seto i v).R A (2, 0)).P (w.setCell ⟨G, i, none⟩ v) := by
    show (w.setCell ⟨G, i, none⟩ v).ownsRow 0 36 1 s.SO s.r (vals (fun t => if t = i then v else s.OV t) s.r)
    rw [hS, ← set_vals _ _ _ _ hi]
    exact h1
  refine (SepI.step (ks := [G]) (r := (s.seto i v).R A (2, 0)) h (2, 0) s.D2 ((Kept.refl _ _).setCell (p := ⟨G, i, none⟩) (.inl (by simp)) _) (by rw [eF]; exact fun x hx => .inl hx) hP (fun x hx => .inl hx)).congr (fun j hj => hj) (fun j hj => ?_)
  by_cases ej : j = (2, 0)
  · subst ej; rw [updI_at]
  · rw [updI_far _ _ _ _ ej]
    rcases s.cases_D j hj with ⟨i', rfl, _⟩ | rfl | rfl | rfl | rfl | ⟨i', k', rfl, _⟩
    · rfl
    · rfl
    · exact absurd rfl ej
    · rfl
    · rfl
    · rw [s.RL, (s.seto i v).RL]; rfl
/-- A value more in out. -/
def Bo.appo (s : Bo) (v Sn : Value) : Bo := { s with r := s.r + 1, OV := fun t => if t = s.r then v else s.OV t, SO := Sn }
theorem BAt.appo {w2 : World} (h : BAt W w A s) (v Sn : Value) (hk2 : Kept s.SO.ownBlock.toList w w2) (hL : Lies w s.SO Sn) (hrow : w2.ownsRow 0 36 1 Sn (s.r + 1) (vals s.OV s.r ++ [v])) :
    BAt W (w2.setCell ⟨A, 2, none⟩ Sn) A (s.appo v Sn) := by
  have ne3 : ((1, 0) : Nat × Nat) ≠ (2, 0) := fun e => by simp at e
  have eF : (s.R A (2, 0)).F = s.SO.ownBlock.toList := rfl
  have hrw : ((s.appo v Sn).R A (2, 0)).P w2 := by
    show w2.ownsRow 0 36 1 Sn (s.r + 1) (vals (fun t => if t = s.r then v else s.OV t) (s.r + 1))
    rw [← snoc_vals]
    exact hrow
  have p2 := SepI.step (r := (s.appo v Sn).R A (2, 0)) h (2, 0) s.D2 hk2 (by rw [eF]; exact fun x hx => .inl hx) hrw (by rw [eF]; exact hL.mem)
  have e7 : (updI (s.R A) (2, 0) ((s.appo v Sn).R A (2, 0))) (1, 0) = s.R A (1, 0) := by rw [updI_far _ _ _ _ ne3]
  have hb := p2.P (1, 0) s.D1
  rw [e7] at hb
  have hbox : ((s.appo v Sn).R A (1, 0)).P (w2.setCell ⟨A, 2, none⟩ Sn) := by
    show (w2.setCell ⟨A, 2, none⟩ Sn).heap[A]? = some (.cells #[s.SL, .int .i64 s.fr, Sn] 35 (0, 0))
    have hb2 : w2.heap[A]? = some (.cells #[s.SL, .int .i64 s.fr, s.SO] 35 (0, 0)) := hb
    rw [heap_setCell_at hb2]
    rfl
  have p3 := SepI.step (ks := [A]) (r := (s.appo v Sn).R A (1, 0)) p2 (1, 0) s.D1 ((Kept.refl _ _).setCell (p := ⟨A, 2, none⟩) (by simp) _) (by rw [e7]; exact fun x hx => .inl hx) hbox (by rw [e7]; exact fun x hx => .inl hx)
  refine p3.congr (fun j hj => hj) (fun j hj => ?_)
  by_cases a7 : j = (1, 0)
  · rw [a7, updI_at]
  · rw [updI_far _ _ _ _ a7]
    by_cases a6 : j = (2, 0)
    · rw [a6, updI_at]
    · rw [updI_far _ _ _ _ a6]
      rcases s.cases_D j hj with ⟨i', rfl, _⟩ | rfl | rfl | rfl | rfl | ⟨i', k', rfl, _⟩
      · rfl
      · exact absurd rfl a7
      · exact absurd rfl a6
      · rfl
      · rfl
      · rw [s.RL, (s.appo v Sn).RL]; rfl
/-- A value of row i is another one. -/
def Bo.setl (s : Bo) (i k : Nat) (v : Value) : Bo := { s with LV := upd2 s.LV i k v }
theorem BAt.setl (h : BAt W w A s) (i k : Nat) (hi : i < s.n) (hk : k < s.rl i) (v : Value) (G cp : Nat) (hS : s.RV i = .slice (some ⟨G, 0, none⟩) (s.rl i) cp) : BAt W (w.setCell ⟨G, k, none⟩ v) A (s.setl i k v) := by
  have hr := h.row i hi
  rw [hS] at hr
  obtain ⟨h1, h2⟩ := hr.stored k v
  have eF : (s.R A (0, i)).F = [G] := by show (s.RV i).ownBlock.toList = [G]; rw [hS]; rfl
  have hP : ((s.setl i k v).R A (0, i)).P (w.setCell ⟨G, k, none⟩ v) := by
    show (w.setCell ⟨G, k, none⟩ v).ownsRow 0 52 1 (s.RV i) (s.rl i) (vals (upd2 s.LV i k v i) (s.rl i))
    rw [hS, ← vals_set _ _ _ _ _ hk]
    exact h1
  refine (SepI.step (ks := [G]) (r := (s.setl i k v).R A (0, i)) h (0, i) (s.D0 i hi) ((Kept.refl _ _).setCell (p := ⟨G, k, none⟩) (.inl (by simp)) _) (by rw [eF]; exact fun x hx => .inl hx) hP (fun x hx => .inl hx)).congr (fun j hj => hj) (fun j hj => ?_)
  by_cases ej : j = (0, i)
  · subst ej; rw [updI_at]
  · rw [updI_far _ _ _ _ ej]
    rcases s.cases_D j hj with ⟨i', rfl, _⟩ | rfl | rfl | rfl | rfl | ⟨i', k', rfl, _⟩
    · exact vrw_congr (fun t _ => upd2_far _ _ _ _ _ _ (fun e => ej (by have e1 : i' = i := e.1; rw [e1])))
    · rfl
    · rfl
    · rfl
    · rfl
    · rw [s.RL, (s.setl i k v).RL]; rfl
/-- A list more in answer i. -/
def Bo.pushl (s : Bo) (i : Nat) (x : Rsc) : Bo := { s with kn := fun t => if t = i then s.kn i + 1 else s.kn t, LX := upd2 s.LX i (s.kn i) x }
theorem BAt.pushl (h : BAt W w A s) (i : Nat) (hi : i < s.n) (x : Rsc) (hk : Kept [] w w') (hr : x.P w') (hF : ∀ y ∈ x.F, w.heap.size ≤ y) : BAt W w' A (s.pushl i x) := by
  have hnD : ¬ s.D (10 + i, s.kn i) := by
    intro hD
    rcases s.cases_D _ hD with ⟨i', e, _⟩ | e | e | e | e | ⟨i', k', e, _, h2⟩
    · exact absurd (congrArg Prod.fst e) (by show 10 + i ≠ 0; omega)
    · exact absurd (congrArg Prod.fst e) (by show 10 + i ≠ 1; omega)
    · exact absurd (congrArg Prod.fst e) (by show 10 + i ≠ 2; omega)
    · exact absurd (congrArg Prod.fst e) (by show 10 + i ≠ 3; omega)
    · exact absurd (congrArg Prod.fst e) (by show 10 + i ≠ 4; omega)
    · simp at e
      obtain ⟨rfl, rfl⟩ : i = i' ∧ s.kn i = k' := ⟨by omega, e.2⟩
      omega
  refine (SepI.push (r := x) h (10 + i, s.kn i) hnD hk hr hF).congr (fun j hj => ?_) (fun j hj => ?_)
  · rcases (s.pushl i x).cases_D j hj with ⟨i', rfl, h1⟩ | rfl | rfl | rfl | rfl | ⟨i', k', rfl, h1, h2⟩
    · exact .inl (s.D0 i' h1)
    · exact .inl s.D1
    · exact .inl s.D2
    · exact .inl s.D3
    · exact .inl s.D4
    · by_cases e : i' = i
      · subst e
        have h2' : k' < s.kn i' + 1 := by simpa [Bo.pushl] using h2
        by_cases e2 : k' = s.kn i'
        · exact .inr (by rw [e2])
        · exact .inl (s.DL i' k' h1 (by omega))
      · have h2' : k' < s.kn i' := by simpa [Bo.pushl, e] using h2
        exact .inl (s.DL i' k' h1 h2')
  · by_cases ej : j = (10 + i, s.kn i)
    · subst ej
      rw [updI_at, (s.pushl i x).RL]
      exact upd2_at _ _ _ _
    · rw [updI_far _ _ _ _ ej]
      rcases (s.pushl i x).cases_D j hj with ⟨i', rfl, h1⟩ | rfl | rfl | rfl | rfl | ⟨i', k', rfl, h1, h2⟩
      · rfl
      · rfl
      · rfl
      · rfl
      · rfl
      · rw [s.RL, (s.pushl i x).RL]
        exact upd2_far _ _ _ _ _ _ (fun e => ej (by rw [e.1, e.2]))
/-- Row i has grown. -/
def Bo.appr (s : Bo) (i : Nat) (Rn : Value) (m : Nat) (V : Nat → Value) : Bo := { s with RV := fun t => if t = i then Rn else s.RV t, rl := fun t => if t = i then m else s.rl t, LV := fun t => if t = i then V else s.LV t }
theorem BAt.appr {w2 : World} (h : BAt W w A s) (i : Nat) (hi : i < s.n) (Rn : Value) (m : Nat) (V : Nat → Value) (hk2 : Kept (s.RV i).ownBlock.toList w w2) (hL : Lies w (s.RV i) Rn) (hrow : w2.ownsRow 0 52 1 Rn m (vals V m)) : BAt W w2 A (s.appr i Rn m V) := by
  have eF : (s.R A (0, i)).F = (s.RV i).ownBlock.toList := rfl
  have hrw : ((s.appr i Rn m V).R A (0, i)).P w2 := by
    show w2.ownsRow 0 52 1 (if i = i then Rn else s.RV i) (if i = i then m else s.rl i) (vals ((if i = i then V else s.LV i)) (if i = i then m else s.rl i))
    rw [if_pos rfl, if_pos rfl, if_pos rfl]
    exact hrow
  have eF2 : ((s.appr i Rn m V).R A (0, i)).F = Rn.ownBlock.toList := by show (if i = i then Rn else s.RV i).ownBlock.toList = _; rw [if_pos rfl]
  refine (SepI.step (r := (s.appr i Rn m V).R A (0, i)) h (0, i) (s.D0 i hi) hk2 (by rw [eF]; exact fun x hx => .inl hx) hrw (by rw [eF, eF2]; exact hL.mem)).congr (fun j hj => hj) (fun j hj => ?_)
  by_cases ej : j = (0, i)
  · subst ej; rw [updI_at]
  · rw [updI_far _ _ _ _ ej]
    rcases s.cases_D j hj with ⟨i', rfl, _⟩ | rfl | rfl | rfl | rfl | ⟨i', k', rfl, _⟩
    · have hne : i' ≠ i := fun e => ej (by rw [e])
      show vrw 52 (if i' = i then Rn else s.RV i') (if i' = i then m else s.rl i') (if i' = i then V else s.LV i') = vrw 52 (s.RV i') (s.rl i') (s.LV i')
      rw [if_neg hne, if_neg hne, if_neg hne]
    · rfl
    · rfl
    · rfl
    · rfl
    · rw [s.RL, (s.appr i Rn m V).RL]; rfl
end
end Go.Proofs.Ythihennifigchaa.Bx
