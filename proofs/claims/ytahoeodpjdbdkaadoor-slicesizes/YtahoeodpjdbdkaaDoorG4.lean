import Derived.Test.YtahoeodpjdbdkaaDoorG3
namespace Go.Proofs.YtahoeodpjdbdkaaDoor
open Go.RowKit

set_option maxHeartbeats 400000 in
theorem formed_ok (k wide : Int) (w : World) (k0 : 0 ≤ k) (k1 : k ≤ 15) (w0 : 1 ≤ wide) (w1 : wide ≤ 16) :
    Calls Tryd.prog 82 #[.int .i64 k, .int .i64 wide] w fun e w' => e = .returned (.bool true) ∧ w' = w := by
  go_enter Tryd.func82, Tryd.ntmps82
  go_wp2
  go_ret
  exact ⟨ret_bool (by simp), rfl⟩

set_option maxHeartbeats 400000 in
theorem check_ok (v k wide : Int) (w : World) (k0 : 0 ≤ k) (k1 : k ≤ 15) (w0 : 1 ≤ wide) (w1 : wide ≤ 16) (v0 : 0 ≤ v) (hv : v / 2 ^ wide.toNat = 0) :
    Calls Tryd.prog 89 #[.int .i64 v, .int .i64 k, .int .i64 wide] w fun e w' => e = .returned (.int .i64 0) ∧ w' = w := by
  have v0' : decide (v < 0) = false := by simp; omega
  go_enter Tryd.func89, Tryd.ntmps89
  go_wp2_with (go_at_call 82; refine (formed_ok k wide _ k0 k1 w0 w1).mono ?_; rintro e w' ⟨rfl, rfl⟩)
  go_ret
  exact ⟨rfl, rfl⟩
end Go.Proofs.YtahoeodpjdbdkaaDoor
