import Derived.Test.YthihennifigchaaXe
namespace Go.Proofs.Ythihennifigchaa.Bx
open Go.RowKit Bk

/-- A Book at rest. -/
structure Rk (s : Bo) : Prop where
  r : s.r = s.n
  rl : ∀ i, i < s.n → s.rl i = s.kn i
  ov : ∀ i, i < s.n → s.OV i = s.RV i
  n8 : s.n ≤ 8
  k8 : ∀ i, s.kn i ≤ 8
  J : ∀ j, s.J j ↔ j < s.h
  ls : ∀ i k, i < s.n → k < s.kn i → ∃ ao m f, s.LV i k = .slice ao m m ∧ s.LX i k = zlf .u16 65 ao m f ∧ m ≤ 100000000
/-- Behind the first lists (those of answers ahead of i, and k of answer i) of the marking. -/
structure Fz (s s1 : Bo) (i k : Nat) : Prop where
  E : s1.E = s.E
  n : s1.n = s.n
  r : s1.r = s.r
  kn : s1.kn = s.kn
  rl : s1.rl = s.rl
  RV : s1.RV = s.RV
  OV : s1.OV = s.OV
  LV : s1.LV = s.LV
  SO : s1.SO = s.SO
  J : s1.J = s.J
  HB : s1.HB = s.HB
  hlo : s.h ≤ s1.h
  hhi : s1.h ≤ s.h + 8 * i + k
  old : ∀ j, j < s.h → s1.HV j = s.HV j ∧ s1.HM j = s.HM j
  fresh : ∀ j, s.h ≤ j → j < s1.h → ∃ i' k', i' < s.n ∧ k' < s.kn i' ∧ (i' < i ∨ (i' = i ∧ k' < k)) ∧ ∃ ao m, s.LV i' k' = .slice ao m m ∧ s1.HV j = .slice ao m m ∧ m ≤ 100000000 ∧ s1.LX i' k' = zlf .u16 65 ao m (fun _ => s1.HM j)
  ls : ∀ i' k', i' < s.n → k' < s.kn i' → ∃ ao m f, s.LV i' k' = .slice ao m m ∧ s1.LX i' k' = zlf .u16 65 ao m f ∧ m ≤ 100000000
theorem Fz.start {s : Bo} (h : Rk s) : Fz s s 0 0 :=
  ⟨rfl, rfl, rfl, rfl, rfl, rfl, rfl, rfl, rfl, rfl, rfl, Nat.le_refl _, by omega, fun _ _ => ⟨rfl, rfl⟩, fun j h1 h2 => by omega, h.ls⟩
theorem Fz.next {s s1 : Bo} {i k : Nat} (h : Fz s s1 i k) (_hk : s.kn i ≤ k) (h8 : k ≤ 8) : Fz s s1 (i + 1) 0 :=
  ⟨h.E, h.n, h.r, h.kn, h.rl, h.RV, h.OV, h.LV, h.SO, h.J, h.HB, h.hlo, by have := h.hhi; omega, h.old, fun j h1 h2 => by
    obtain ⟨i', k', q1, q2, q3, q4⟩ := h.fresh j h1 h2
    exact ⟨i', k', q1, q2, .inl (by rcases q3 with q | q <;> omega), q4⟩, h.ls⟩
/-- One cell of list (i, k) is written. -/
theorem zlf_set {ao : Option Addr} {m : Nat} {f : Nat → Int} {w : World} {G x : Nat} {v : Int} (h : (zlf .u16 65 ao m f).P w) (hG : ao = some ⟨G, 0, none⟩) (hx : x < m) : (zlf .u16 65 ao m (fun t => if t = x then v else f t)).P (w.setCell ⟨G, x, none⟩ (.int .u16 v)) := by
  subst hG
  rcases h with ⟨h, _⟩ | ⟨G', hG, hT⟩
  · simp at h
  · simp at hG
    subst hG
    refine .inr ⟨G, rfl, ?_⟩
    rw [heap_setCell_at hT]
    congr 2
    apply Array.ext'
    simp only [Array.toList_setIfInBounds]
    apply List.ext_getElem?
    intro y
    rw [List.getElem?_set]
    by_cases e1 : x = y
    · subst e1
      simp [ints, hx]
    · have e1' : y ≠ x := fun h => e1 h.symm
      by_cases hy : y < m
      · simp [ints, e1, e1', hy]
      · simp [ints, e1, hy]
theorem zlf_const {ao : Option Addr} {m : Nat} {f : Nat → Int} {v : Int} (hf : ∀ x, x < m → f x = v) : zlf .u16 65 ao m f = zlf .u16 65 ao m (fun _ => v) := by
  have : ints .u16 f m = ints .u16 (fun _ => v) m := by
    unfold ints
    apply List.map_congr_left
    intro x hx
    rw [hf x (List.mem_range.1 hx)]
  unfold zlf
  simp only [this]
/-- The list's thing changes, and is held. -/
theorem Fz.hold {s s1 : Bo} {i k : Nat} (h : Fz s s1 i k) (hi : i < s.n) (hk : k < s.kn i) {ao : Option Addr} {m : Nat} {v : Int} (hV : s.LV i k = .slice ao m m) (hm : m ≤ 100000000) (hX : s1.LX i k = zlf .u16 65 ao m (fun _ => v)) (Sn : Value) : Fz s (s1.hold (.slice ao m m) v Sn) i (k + 1) := by
  refine ⟨h.E, h.n, h.r, h.kn, h.rl, h.RV, h.OV, h.LV, h.SO, h.J, h.HB, Nat.le_trans h.hlo (Nat.le_succ _), by have := h.hhi; show s1.h + 1 ≤ _; omega, fun j hj => ?_, fun j h1 h2 => ?_, h.ls⟩
  · have : j ≠ s1.h := by have := h.hlo; omega
    show (if j = s1.h then _ else s1.HV j) = _ ∧ (if j = s1.h then _ else s1.HM j) = _
    rw [if_neg this, if_neg this]
    exact h.old j hj
  · by_cases e : j = s1.h
    · subst e
      refine ⟨i, k, hi, hk, .inr ⟨rfl, by omega⟩, ao, m, hV, ?_, hm, ?_⟩
      · show (if s1.h = s1.h then _ else _) = _; rw [if_pos rfl]
      · show s1.LX i k = zlf .u16 65 ao m (fun _ => if s1.h = s1.h then v else s1.HM s1.h); rw [if_pos rfl]; exact hX
    · have h2' : j < s1.h := by have : j < s1.h + 1 := h2; omega
      obtain ⟨i', k', q1, q2, q3, ao', m', q4, q5, q6, q7⟩ := h.fresh j h1 h2'
      refine ⟨i', k', q1, q2, by rcases q3 with q | q; exact .inl q; exact .inr ⟨q.1, by omega⟩, ao', m', q4, ?_, q6, ?_⟩
      · show (if j = s1.h then _ else s1.HV j) = _; rw [if_neg e]; exact q5
      · show s1.LX i' k' = zlf .u16 65 ao' m' (fun _ => if j = s1.h then v else s1.HM j); rw [if_neg e]; exact q7
theorem Fz.one {s s1 : Bo} {i k : Nat} (h : Fz s s1 i k) {ao : Option Addr} {m : Nat} {f : Nat → Int} (hV : s.LV i k = .slice ao m m) (hm : m ≤ 100000000) : Fz s (s1.one i k (zlf .u16 65 ao m f)) i k := by
  refine ⟨h.E, h.n, h.r, h.kn, h.rl, h.RV, h.OV, h.LV, h.SO, h.J, h.HB, h.hlo, h.hhi, h.old, fun j h1 h2 => ?_, fun i' k' hi' hk' => ?_⟩
  · obtain ⟨i', k', q1, q2, q3, ao', m', q4, q5, q6, q7⟩ := h.fresh j h1 h2
    refine ⟨i', k', q1, q2, q3, ao', m', q4, q5, q6, ?_⟩
    exact (upd2_far _ _ _ _ _ _ (by rcases q3 with q | q <;> omega)).trans q7
  · by_cases e : i' = i ∧ k' = k
    · obtain ⟨rfl, rfl⟩ := e
      exact ⟨ao, m, f, hV, upd2_at _ _ _ _, hm⟩
    · obtain ⟨ao', m', f', q1, q2, q3⟩ := h.ls i' k' hi' hk'
      exact ⟨ao', m', f', q1, (upd2_far _ _ _ _ _ _ e).trans q2, q3⟩
end Go.Proofs.Ythihennifigchaa.Bx
