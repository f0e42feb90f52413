import Derived.Test.YthihennifigchaaB3
namespace Go.Proofs.Ythihennifigchaa
open Go.RowKit

set_option maxHeartbeats 4000000 in
set_option maxRecDepth 1000000 in
theorem rsamples_any (W H D : Int) (A : Bool) (w : World) : Calls Try.prog 14 #[shv W H D A] w fun e w' => e = .returned (.tuple #[.int .i64 (if shE W H D A = 0 then tot W H A else 0), .int .i64 (shE W H D A)]) ∧ Kept [] w w' := by
  have C := Hid.mk (fun u => rshaped_any W H D A u)
  have hk0 := Hid.mk ((Kept.refl [] w).alloc (.cells #[.int .i64 W, .int .i64 H, .int .i64 D, .bool A] 23))
  have S0 := Sat.new w W H D A 23
  rcases shE_two W H D A with ⟨e1, h1⟩ | ⟨e1, h1⟩
  · rw [e1] at C ⊢
    have C3 := Hid.mk (fun u => rtotal_any W H D A u h1.1.1 h1.1.2 h1.2.1.1 h1.2.1.2)
    clear h1 e1
    go_enter Try.func14, Try.ntmps14
    go_wp2_with (first | (go_at_call 15; refine (C.out _).mono ?_; rintro e w1 ⟨rfl, hk1⟩; obtain ⟨q0, q1, q2, q3⟩ := S0.keep hk1 (by simp)) | (go_at_call 44; refine (C3.out _).mono ?_; rintro e w2 ⟨rfl, hk2⟩))
    go_ret2
    exact ⟨rfl, (hk0.out.trans hk1).trans hk2⟩
  · rw [e1] at C ⊢
    clear h1 e1
    go_enter Try.func14, Try.ntmps14
    go_wp2_with (first | (go_at_call 15; refine (C.out _).mono ?_; rintro e w1 ⟨rfl, hk1⟩))
    go_ret2
    exact ⟨rfl, hk0.out.trans hk1⟩

end Go.Proofs.Ythihennifigchaa
