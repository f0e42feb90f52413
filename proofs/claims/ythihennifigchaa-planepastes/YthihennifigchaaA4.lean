import Derived.Test.YthihennifigchaaA3
namespace Go.Proofs.Ythihennifigchaa
open Go.RowKit

/-- A rectangle lies in w by h samples. -/
def lie (X Y W H w h : Int) : Bool := decide (1 ≤ W ∧ 1 ≤ H ∧ 0 ≤ X ∧ 0 ≤ Y ∧ X + W ≤ w ∧ Y + H ≤ h)

set_option maxHeartbeats 4000000 in
set_option maxRecDepth 1000000 in
theorem lies_any (X Y W H wd ht : Int) (w : World) (hX : -9223372036854775808 ≤ X ∧ X ≤ 9223372036854775807) (hY : -9223372036854775808 ≤ Y ∧ Y ≤ 9223372036854775807) (hw : 1 ≤ wd ∧ wd ≤ 4096) (hh : 1 ≤ ht ∧ ht ≤ 4096) :
    Calls Try.prog 62 #[rcv X Y W H, .int .i64 wd, .int .i64 ht] w fun e w' => e = .returned (.bool (lie X Y W H wd ht)) ∧ Kept [] w w' := by
  unfold lie
  by_cases k0 : W < 1
  · skip
    go_enter Try.func62, Try.ntmps62
    go_wp2
    go_ret
    exact ⟨ret_bool (by first | exact (decide_eq_false (by omega)).symm | (simp only [Bool.and_eq_true, decide_eq_true_eq]; omega) | (simp; omega)), (Kept.refl _ _).alloc _⟩
  · skip
    by_cases k1 : H < 1
    · skip
      go_enter Try.func62, Try.ntmps62
      go_wp2
      go_ret
      exact ⟨ret_bool (by first | exact (decide_eq_false (by omega)).symm | (simp only [Bool.and_eq_true, decide_eq_true_eq]; omega) | (simp; omega)), (Kept.refl _ _).alloc _⟩
    · skip
      by_cases k2 : X < 0
      · skip
        go_enter Try.func62, Try.ntmps62
        go_wp2
        go_ret
        exact ⟨ret_bool (by first | exact (decide_eq_false (by omega)).symm | (simp only [Bool.and_eq_true, decide_eq_true_eq]; omega) | (simp; omega)), (Kept.refl _ _).alloc _⟩
      · skip
        by_cases k3 : Y < 0
        · skip
          go_enter Try.func62, Try.ntmps62
          go_wp2
          go_ret
          exact ⟨ret_bool (by first | exact (decide_eq_false (by omega)).symm | (simp only [Bool.and_eq_true, decide_eq_true_eq]; omega) | (simp; omega)), (Kept.refl _ _).alloc _⟩
        · skip
          by_cases k4 : X < wd
          · skip
            by_cases k5 : W ≤ wd - X
            · skip
              by_cases k6 : Y < ht
              · skip
                by_cases k7 : H ≤ ht - Y
                · skip
                  go_enter Try.func62, Try.ntmps62
                  go_wp2
                  go_ret
                  exact ⟨ret_bool (by first | exact (decide_eq_true (by omega)).symm | (simp only [Bool.and_eq_true, decide_eq_true_eq]; omega) | (simp; omega)), (Kept.refl _ _).alloc _⟩
                · skip
                  go_enter Try.func62, Try.ntmps62
                  go_wp2
                  go_ret
                  exact ⟨ret_bool (by first | exact (decide_eq_false (by omega)).symm | (simp only [Bool.and_eq_true, decide_eq_true_eq]; omega) | (simp; omega)), (Kept.refl _ _).alloc _⟩
              · skip
                go_enter Try.func62, Try.ntmps62
                go_wp2
                go_ret
                exact ⟨ret_bool (by first | exact (decide_eq_false (by omega)).symm | (simp only [Bool.and_eq_true, decide_eq_true_eq]; omega) | (simp; omega)), (Kept.refl _ _).alloc _⟩
            · skip
              go_enter Try.func62, Try.ntmps62
              go_wp2
              go_ret
              exact ⟨ret_bool (by first | exact (decide_eq_false (by omega)).symm | (simp only [Bool.and_eq_true, decide_eq_true_eq]; omega) | (simp; omega)), (Kept.refl _ _).alloc _⟩
          · skip
            go_enter Try.func62, Try.ntmps62
            go_wp2
            go_ret
            exact ⟨ret_bool (by first | exact (decide_eq_false (by omega)).symm | (simp only [Bool.and_eq_true, decide_eq_true_eq]; omega) | (simp; omega)), (Kept.refl _ _).alloc _⟩
end Go.Proofs.Ythihennifigchaa
