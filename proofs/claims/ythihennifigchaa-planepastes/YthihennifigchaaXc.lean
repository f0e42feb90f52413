import Derived.Test.YthihennifigchaaXb
namespace Go.Proofs.Ythihennifigchaa.Bx
open Go.RowKit Bk

theorem SepI.aside {W w w' : World} {D : Nat × Nat → Prop} {R : Nat × Nat → Rsc} {ks : List Nat} (h : SepI W w D R) (hk : Kept ks w w') (hn : ∀ x ∈ ks, W.heap.size ≤ x) (ha : ∀ x ∈ ks, ∀ j, D j → x ∉ (R j).F) : SepI W w' D R :=
  ⟨h.old.step hk (fun x hx => .inr (hn x hx)), fun i hi => (R i).keep (h.P i hi) hk (fun x hx hm => ha x hm i hi hx), h.new, h.apart⟩
theorem hth_congr {J : Nat → Prop} {HV HV' : Nat → Value} {HM HM' : Nat → Int} {HB : List Nat} {E : Rsc} (h : ∀ j, J j → HV' j = HV j ∧ HM' j = HM j) : hth J HV' HM' HB E = hth J HV HM HB E := by
  have : ∀ w, (∀ j, J j → HOk w (HV' j) (HM' j) HB) = (∀ j, J j → HOk w (HV j) (HM j) HB) := fun w => by
    apply propext
    constructor
    · intro hh j hj
      have := hh j hj
      rw [(h j hj).1, (h j hj).2] at this
      exact this
    · intro hh j hj
      rw [(h j hj).1, (h j hj).2]
      exact hh j hj
  unfold hth
  simp only [this]

section
variable {W w w' : World} {A : Nat} {s : Bo}
theorem BAt.aside {ks : List Nat} (h : BAt W w A s) (hk : Kept ks w w') (hn : ∀ x ∈ ks, W.heap.size ≤ x) (ha : ∀ x ∈ ks, ∀ j, s.D j → x ∉ (s.R A j).F) : BAt W w' A s := SepI.aside h hk hn ha
theorem BAt.lt (h : BAt W w A s) (j : Nat × Nat) (hj : s.D j) : ∀ x ∈ (s.R A j).F, x < w.heap.size := fun _ hx => (s.R A j).lt (h.P j hj) hx
theorem BAt.boxKept (h : BAt W w A s) (hk : Kept s.SL.ownBlock.toList w w') : w'.heap[A]? = some (.cells #[s.SL, .int .i64 s.fr, s.SO] 35 (0, 0)) :=
  hk.heap h.box (h.apart (1, 0) (3, 0) s.D1 s.D3 (by simp) A (by simp [Bo.R, obj]))
theorem BAt.boxKeptO (h : BAt W w A s) (hk : Kept s.SO.ownBlock.toList w w') : w'.heap[A]? = some (.cells #[s.SL, .int .i64 s.fr, s.SO] 35 (0, 0)) :=
  hk.heap h.box (h.apart (1, 0) (2, 0) s.D1 s.D2 (by simp) A (by simp [Bo.R, obj]))

/-- A list more is held. -/
def Bo.hold (s : Bo) (v : Value) (m : Int) (Sn : Value) : Bo :=
  { s with h := s.h + 1, HV := fun t => if t = s.h then v else s.HV t, HM := fun t => if t = s.h then m else s.HM t, SL := Sn }
theorem BAt.hold {w2 : World} (h : BAt W w A s) (hJ : ∀ j, s.J j → j < s.h) (v : Value) (m : Int) (Sn : Value) (hk2 : Kept s.SL.ownBlock.toList w w2) (hL : Lies w s.SL Sn) (hrow : w2.ownsRow 0 79 2 Sn (s.h + 1) (hfl s.HV s.HM s.h ++ [v, .int .u16 m])) :
    BAt W (w2.setCell ⟨A, 0, none⟩ Sn) A (s.hold v m Sn) := by
  have ne3 : ((1, 0) : Nat × Nat) ≠ (3, 0) := fun e => by simp at e
  have eF : (s.R A (3, 0)).F = s.SL.ownBlock.toList := rfl
  have hrw : ((s.hold v m Sn).R A (3, 0)).P w2 := by
    show w2.ownsRow 0 79 2 Sn (s.h + 1) (hfl (fun t => if t = s.h then v else s.HV t) (fun t => if t = s.h then m else s.HM t) (s.h + 1))
    rw [hfl_succ, if_pos rfl, if_pos rfl, hfl_congr (HV' := s.HV) (HM' := s.HM) (fun t ht => by rw [if_neg (by omega)]) (fun t ht => by rw [if_neg (by omega)])]
    exact hrow
  have p2 := SepI.step (r := (s.hold v m Sn).R A (3, 0)) h (3, 0) s.D3 hk2 (by rw [eF]; exact fun x hx => .inl hx) hrw (by rw [eF]; exact hL.mem)
  have e7 : (updI (s.R A) (3, 0) ((s.hold v m Sn).R A (3, 0))) (1, 0) = s.R A (1, 0) := by rw [updI_far _ _ _ _ ne3]
  have hb := p2.P (1, 0) s.D1
  rw [e7] at hb
  have hbox : ((s.hold v m Sn).R A (1, 0)).P (w2.setCell ⟨A, 0, none⟩ Sn) := by
    show (w2.setCell ⟨A, 0, none⟩ Sn).heap[A]? = some (.cells #[Sn, .int .i64 s.fr, s.SO] 35 (0, 0))
    have hb2 : w2.heap[A]? = some (.cells #[s.SL, .int .i64 s.fr, s.SO] 35 (0, 0)) := hb
    rw [heap_setCell_at hb2]
    rfl
  have p3 := SepI.step (ks := [A]) (r := (s.hold v m Sn).R A (1, 0)) p2 (1, 0) s.D1 ((Kept.refl _ _).setCell (p := ⟨A, 0, none⟩) (by simp) _) (by rw [e7]; exact fun x hx => .inl hx) hbox (by rw [e7]; exact fun x hx => .inl hx)
  refine p3.congr (fun j hj => hj) (fun j hj => ?_)
  by_cases a7 : j = (1, 0)
  · rw [a7, updI_at]
  · rw [updI_far _ _ _ _ a7]
    by_cases a6 : j = (3, 0)
    · rw [a6, updI_at]
    · rw [updI_far _ _ _ _ a6]
      rcases s.cases_D j hj with ⟨i', rfl, _⟩ | rfl | rfl | rfl | rfl | ⟨i', k', rfl, _⟩
      · rfl
      · exact absurd rfl a7
      · rfl
      · exact absurd rfl a6
      · exact hth_congr (fun j hj => ⟨by show (if j = s.h then v else s.HV j) = _; rw [if_neg (by have := hJ j hj; omega)], by show (if j = s.h then m else s.HM j) = _; rw [if_neg (by have := hJ j hj; omega)]⟩)
      · rw [s.RL, (s.hold v m Sn).RL]; rfl

/-- A held list is another one. -/
def Bo.seth (s : Bo) (j0 : Nat) (v : Value) : Bo := { s with HV := fun t => if t = j0 then v else s.HV t }
theorem BAt.seth (h : BAt W w A s) (j0 : Nat) (hj : j0 < s.h) (hJ : ¬ s.J j0) (v : Value) (G cp : Nat) (hS : s.SL = .slice (some ⟨G, 0, none⟩) s.h cp) : BAt W (w.setCell ⟨G, j0 * 2, none⟩ v) A (s.seth j0 v) := by
  have hr := h.held
  rw [hS] at hr
  obtain ⟨h1, h2⟩ := hr.stored (j0 * 2) v
  have eF : (s.R A (3, 0)).F = [G] := by show s.SL.ownBlock.toList = [G]; rw [hS]; rfl
  have hP : ((s.seth j0 v).R A (3, 0)).P (w.setCell ⟨G, j0 * 2, none⟩ v) := by
    show (w.setCell ⟨G, j0 * 2, none⟩ v).ownsRow 0 79 2 s.SL s.h (hfl (fun t => if t = j0 then v else s.HV t) s.HM s.h)
    rw [hS, ← hfl_set _ _ _ _ _ hj]
    exact h1
  refine (SepI.step (ks := [G]) (r := (s.seth j0 v).R A (3, 0)) h (3, 0) s.D3 ((Kept.refl _ _).setCell (p := ⟨G, j0 * 2, none⟩) (.inl (by simp)) _) (by rw [eF]; exact fun x hx => .inl hx) hP (fun x hx => .inl hx)).congr (fun j hj => hj) (fun j hj => ?_)
  by_cases ej : j = (3, 0)
  · subst ej; rw [updI_at]
  · rw [updI_far _ _ _ _ ej]
    rcases s.cases_D j hj with ⟨i', rfl, _⟩ | rfl | rfl | rfl | rfl | ⟨i', k', rfl, _⟩
    · rfl
    · rfl
    · rfl
    · exact absurd rfl ej
    · exact hth_congr (fun j hj => ⟨by show (if j = j0 then v else s.HV j) = _; rw [if_neg (by rintro rfl; exact hJ hj)], rfl⟩)
    · rw [s.RL, (s.seth j0 v).RL]; rfl
theorem Bo.seth_F (s : Bo) (A j0 : Nat) (v : Value) (j : Nat × Nat) (hj : s.D j) : ((s.seth j0 v).R A j).F = (s.R A j).F := by
  rcases s.cases_D j hj with ⟨i', rfl, _⟩ | rfl | rfl | rfl | rfl | ⟨i', k', rfl, _⟩
  · rfl
  · rfl
  · rfl
  · rfl
  · rfl
  · rw [s.RL, (s.seth j0 v).RL]; rfl

/-- A held list is done with: its blocks go to the dead. -/
def Bo.bury (s : Bo) (j0 : Nat) (bs : List Nat) : Bo := { s with J := fun t => s.J t ∨ t = j0, HB := bs ++ s.HB }
theorem BAt.bury (h : BAt W w A s) (j0 : Nat) (bs : List Nat) (hok : HOk w (s.HV j0) (s.HM j0) (bs ++ s.HB)) (hlt : ∀ x ∈ bs, x < w.heap.size) (hW : ∀ x ∈ bs, W.heap.size ≤ x) (ha : ∀ x ∈ bs, ∀ j, s.D j → x ∉ (s.R A j).F) : BAt W w A (s.bury j0 bs) := by
  have h4 : (hth s.J s.HV s.HM s.HB s.E).P w := h.P (4, 0) s.D4
  have hRne : ∀ j, s.D j → j ≠ (4, 0) → (s.bury j0 bs).R A j = s.R A j := fun j hj hne => by
    rcases s.cases_D j hj with ⟨i', rfl, _⟩ | rfl | rfl | rfl | rfl | ⟨i', k', rfl, _⟩
    · rfl
    · rfl
    · rfl
    · rfl
    · exact absurd rfl hne
    · rw [s.RL, (s.bury j0 bs).RL]; rfl
  refine ⟨h.old, fun j hj => ?_, fun j hj x hx => ?_, fun i j hi hj hij x hx hx2 => ?_⟩
  · by_cases e : j = (4, 0)
    · subst e
      refine ⟨fun x hx => ?_, fun t ht => ?_, h4.2.2.1, fun x hx hm => ?_⟩
      · rcases List.mem_append.1 hx with h | h
        · exact hlt x h
        · exact h4.1 x h
      · rcases ht with ht | rfl
        · exact (h4.2.1 t ht).more (fun x hx => List.mem_append.2 (.inr hx))
        · exact hok
      · rcases List.mem_append.1 hx with h | h
        · exact ha x h (4, 0) s.D4 (List.mem_append.2 (.inr hm))
        · exact h4.2.2.2 x h hm
    · rw [hRne j hj e]; exact h.P j hj
  · by_cases e : j = (4, 0)
    · subst e
      rcases List.mem_append.1 (show x ∈ bs ++ (s.HB ++ s.E.F) from by rw [← List.append_assoc]; exact hx) with h1 | h1
      · exact hW x h1
      · exact h.new (4, 0) s.D4 x h1
    · rw [hRne j hj e] at hx; exact h.new j hj x hx
  · by_cases e : i = (4, 0)
    · subst e
      have e2 : j ≠ (4, 0) := fun e2 => hij e2.symm
      rw [hRne j hj e2] at hx2
      rcases List.mem_append.1 (show x ∈ bs ++ (s.HB ++ s.E.F) from by rw [← List.append_assoc]; exact hx) with h1 | h1
      · exact ha x h1 j hj hx2
      · exact h.apart (4, 0) j s.D4 hj hij x h1 hx2
    · rw [hRne i hi e] at hx
      by_cases e2 : j = (4, 0)
      · subst e2
        rcases List.mem_append.1 (show x ∈ bs ++ (s.HB ++ s.E.F) from by rw [← List.append_assoc]; exact hx2) with h1 | h1
        · exact ha x h1 i hi hx
        · exact h.apart i (4, 0) hi s.D4 hij x hx h1
      · rw [hRne j hj e2] at hx2
        exact h.apart i j hi hj hij x hx hx2

theorem BAt.extra (h : BAt W w A s) : s.E.P w := (h.P (4, 0) s.D4).2.2.1
/-- What lies beside the Book changes. -/
theorem BAt.sete {ks : List Nat} {E' : Rsc} (h : BAt W w A s) (hk : Kept ks w w') (hks : ∀ x ∈ ks, x ∈ s.E.F) (hE : E'.P w') (hF : ∀ x ∈ E'.F, x ∈ s.E.F ∨ w.heap.size ≤ x) : BAt W w' A { s with E := E' } := by
  have h4 : (hth s.J s.HV s.HM s.HB s.E).P w := h.P (4, 0) s.D4
  have hr : (hth s.J s.HV s.HM s.HB E').P w' := ⟨fun x hx => Nat.lt_of_lt_of_le (h4.1 x hx) hk.size, fun j hj => (h4.2.1 j hj).keep hk (fun x hx hm => h4.2.2.2 x hx (hks x hm)), hE, fun x hx hm => by
    rcases hF x hm with q | q
    · exact h4.2.2.2 x hx q
    · have := h4.1 x hx; omega⟩
  refine (SepI.step (r := hth s.J s.HV s.HM s.HB E') h (4, 0) s.D4 hk (fun x hx => .inl (List.mem_append.2 (.inr (hks x hx)))) hr (fun x hx => ?_)).congr (fun j hj => hj) (fun j hj => ?_)
  · rcases List.mem_append.1 hx with q | q
    · exact .inl (List.mem_append.2 (.inl q))
    · rcases hF x q with q | q
      · exact .inl (List.mem_append.2 (.inr q))
      · exact .inr q
  · by_cases e : j = (4, 0)
    · subst e; rw [updI_at]; rfl
    · rw [updI_far _ _ _ _ e]
      rcases s.cases_D j hj with ⟨i', rfl, _⟩ | rfl | rfl | rfl | rfl | ⟨i', k', rfl, _⟩
      · rfl
      · rfl
      · rfl
      · rfl
      · exact absurd rfl e
      · rw [s.RL, ({ s with E := E' } : Bo).RL]
end
end Go.Proofs.Ythihennifigchaa.Bx
