import Derived.Test.YtahoeodpjdbdkaaDoorEe
namespace Go.Proofs.YtahoeodpjdbdkaaDoor
open Go.RowKit

set_option maxHeartbeats 1000000 in
set_option maxRecDepth 100000 in
theorem names_any (w : World) (hT : Tab w) : Calls Tryd.prog 3 #[] w fun e w' => e = .returned (.bool true) ∧ Kept [] w w' := by
  have C := Hid.mk (alive_any w hT)
  clear hT
  go_enter Tryd.func3, Tryd.ntmps3
  go_wp2_with (go_at_call 7; refine C.out.mono ?_; rintro e w1 ⟨rfl, k1⟩)
  go_ret
  exact ⟨rfl, k1⟩

set_option maxHeartbeats 1000000 in
set_option maxRecDepth 100000 in
theorem sizes_any (a b c : Int) (w : World) (hT : Tab w) : Calls Tryd.prog 4 #[.int .i64 a, .int .i64 b, .int .i64 c] w fun e w' => e = .returned (.bool true) ∧ Kept [] w w' := by
  have C := Hid.mk (alive_any w hT)
  have C1 := Hid.mk (fun W => rawSize_any a b c W)
  have C2 := Hid.mk (fun W => rawSizeD_any a b c W)
  generalize (rsz a b c).1 = x at *
  generalize (rsz a b c).2 = y at *
  clear hT
  go_enter Tryd.func4, Tryd.ntmps4
  go_wp2_with (first | (go_at_call 7; refine C.out.mono ?_; rintro e w1 ⟨rfl, k1⟩) | (go_at_call 8; refine (C1.out _).mono ?_; rintro e w2 ⟨rfl, rfl⟩) | (go_at_call 9; refine (C2.out _).mono ?_; rintro e w3 ⟨rfl, rfl⟩))
  go_ret
  exact ⟨rfl, k1⟩
end Go.Proofs.YtahoeodpjdbdkaaDoor
