import Derived.Test.YtahoeodpjdbdkaaDoorGaZ
namespace Go.Proofs.YtahoeodpjdbdkaaDoor
open Go.RowKit

set_option maxHeartbeats 1000000 in
theorem fold_pos (e : Int) (w : World) (h0 : 0 ≤ e) (h1 : e ≤ 1073741823) :
    Calls Tryd.prog 67 #[.int .i64 e] w fun r w' => r = .returned (.tuple #[.int .i64 (2 * e), .int .i64 0]) ∧ w' = w := by
  have t1 : decide (e < -1073741824) = false := by simp; omega
  go_enter Tryd.func67, Tryd.ntmps67
  go_wp2
  go_ret2
  exact ⟨rfl, rfl⟩

set_option maxHeartbeats 1000000 in
theorem fold_neg (e : Int) (w : World) (h0 : -1073741824 ≤ e) (h1 : e < 0) :
    Calls Tryd.prog 67 #[.int .i64 e] w fun r w' => r = .returned (.tuple #[.int .i64 (-2 * e - 1), .int .i64 0]) ∧ w' = w := by
  have t1 : decide (e < -1073741824) = false := by simp; omega
  go_enter Tryd.func67, Tryd.ntmps67
  go_wp2
  go_ret2
  exact ⟨rfl, rfl⟩

set_option maxHeartbeats 1000000 in
theorem unfold_even (v : Int) (w : World) (h0 : 0 ≤ v) (h1 : v ≤ 2147483647) (h2 : v % 2 = 0) :
    Calls Tryd.prog 60 #[.int .i64 v] w fun r w' => r = .returned (.tuple #[.int .i64 (v / 2), .int .i64 0]) ∧ w' = w := by
  have t1 : decide (v < 0) = false := by simp; omega
  go_enter Tryd.func60, Tryd.ntmps60
  go_wp2
  go_ret2
  exact ⟨rfl, rfl⟩

set_option maxHeartbeats 1000000 in
theorem unfold_odd (v : Int) (w : World) (h0 : 0 ≤ v) (h1 : v ≤ 2147483647) (h2 : v % 2 = 1) :
    Calls Tryd.prog 60 #[.int .i64 v] w fun r w' => r = .returned (.tuple #[.int .i64 (-(v / 2) - 1), .int .i64 0]) ∧ w' = w := by
  have t1 : decide (v < 0) = false := by simp; omega
  go_enter Tryd.func60, Tryd.ntmps60
  go_wp2
  go_ret2
  exact ⟨rfl, rfl⟩

theorem fold_to (e a : Int) (w : World) (h0 : -1073741824 ≤ e) (h1 : e ≤ 1073741823) (ha : (0 ≤ e ∧ a = 2 * e) ∨ (e < 0 ∧ a = -2 * e - 1)) :
    Calls Tryd.prog 67 #[.int .i64 e] w fun r w' => r = .returned (.tuple #[.int .i64 a, .int .i64 0]) ∧ w' = w := by
  rcases ha with ⟨h, rfl⟩ | ⟨h, rfl⟩
  · exact fold_pos e w h h1
  · exact fold_neg e w h0 h

theorem unfold_to (v n : Int) (w : World) (h0 : 0 ≤ v) (h1 : v ≤ 2147483647) (hn : (v % 2 = 0 ∧ n = v / 2) ∨ (v % 2 = 1 ∧ n = -(v / 2) - 1)) :
    Calls Tryd.prog 60 #[.int .i64 v] w fun r w' => r = .returned (.tuple #[.int .i64 n, .int .i64 0]) ∧ w' = w := by
  rcases hn with ⟨h, rfl⟩ | ⟨h, rfl⟩
  · exact unfold_even v w h0 h1 h
  · exact unfold_odd v w h0 h1 h

end Go.Proofs.YtahoeodpjdbdkaaDoor
