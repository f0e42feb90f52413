import Derived.Test.YtknkjhfemgiiaaaDoorA6
namespace Go.Proofs.YtknkjhfemgiiaaaDoor
open Go.RowKit

/-- May a name have this rune at a place below 11? -/
def okc (l i r : Int) : Bool := if i % 3 < 2 then (decide (48 ≤ r) && decide (r ≤ 57)) else if i = 8 then r == lm l else r == 58

set_option maxHeartbeats 4000000 in
theorem stands_any (c a b l i r : Int) (w : World) (i0 : 0 ≤ i) (i1 : i ≤ 9223372036854775807) : Calls Tryd.prog 75 #[pv c a b l, .int .i64 i, .int .i32 r] w fun e w' => e = .returned (.bool (decide (i < 11) && okc l i r)) ∧ Kept [] w w' := by
  have C1 := Hid.mk (fun u => digitAt_any i u i0 i1)
  have C2 := Hid.mk (fun u => lastMark_any c a b l u)
  unfold okc
  by_cases h : i < 11
  · have h' : decide (i < 11) = true := by simpa using h
    rw [h', Bool.true_and]
    have h2 : ¬ 11 ≤ i := by omega
    by_cases h3 : i % 3 < 2
    · rw [if_pos h3]
      have h4 : decide (i % 3 < 2) = true := by simpa using h3
      rw [h4] at C1
      clear h h' h3 h4
      by_cases h5 : 48 ≤ r
      · go_enter Tryd.func75, Tryd.ntmps75
        go_wp2_with (go_at_call 76; refine (C1.out _).mono ?_; rintro e w1 ⟨rfl, rfl⟩)
        go_ret
        exact ⟨by simp [h5], alloc_kept _ _⟩
      · go_enter Tryd.func75, Tryd.ntmps75
        go_wp2_with (go_at_call 76; refine (C1.out _).mono ?_; rintro e w1 ⟨rfl, rfl⟩)
        go_ret
        exact ⟨by simp; omega, alloc_kept _ _⟩
    · rw [if_neg h3]
      have h4 : decide (i % 3 < 2) = false := by simpa using h3
      rw [h4] at C1
      clear h h' h3 h4
      by_cases h5 : i = 8
      · rw [if_pos h5]
        subst h5
        go_enter Tryd.func75, Tryd.ntmps75
        go_wp2_with (first | (go_at_call 76; refine (C1.out _).mono ?_; rintro e w1 ⟨rfl, rfl⟩) | (go_at_call 79; refine (C2.out _).mono ?_; rintro e w1 ⟨rfl, k1⟩))
        go_ret
        exact ⟨rfl, (alloc_kept _ _).trans k1⟩
      · rw [if_neg h5]
        go_enter Tryd.func75, Tryd.ntmps75
        go_wp2_with (first | (go_at_call 76; refine (C1.out _).mono ?_; rintro e w1 ⟨rfl, rfl⟩) | (go_at_call 79; refine (C2.out _).mono ?_; rintro e w1 ⟨rfl, k1⟩))
        go_ret
        exact ⟨rfl, alloc_kept _ _⟩
  · have h' : decide (i < 11) = false := by simpa using h
    rw [h', Bool.false_and]
    have h2 : 11 ≤ i := by omega
    go_enter Tryd.func75, Tryd.ntmps75
    go_wp2
    go_ret
    exact ⟨rfl, alloc_kept _ _⟩
end Go.Proofs.YtknkjhfemgiiaaaDoor
