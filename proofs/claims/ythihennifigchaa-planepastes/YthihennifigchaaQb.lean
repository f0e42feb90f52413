import Derived.Test.YthihennifigchaaQa
import Derived.Test.YthihennifigchaaKj
import Derived.Deep.RegionHeldLaw
namespace Go.Proofs.Ythihennifigchaa
open Go.RowKit

set_option maxHeartbeats 4000000 in
set_option maxRecDepth 1000000 in
theorem rsize_any (W H D p : Int) (A : Bool) (w : World) : Calls Try.prog 12 #[shv W H D A, .int .i64 p] w fun e w' => e = .returned (.tuple #[.int .i64 (if szE W H D p A = 0 then wp W p else 0), .int .i64 (if szE W H D p A = 0 then H else 0), .int .i64 (szE W H D p A)]) ∧ Kept [] w w' := by
  have C := Hid.mk (fun u => rshaped_any W H D A u)
  have hk0 := Hid.mk ((Kept.refl [] w).alloc (.cells #[.int .i64 W, .int .i64 H, .int .i64 D, .bool A] 23))
  have S0 := Sat.new w W H D A 23
  rcases shE_two W H D A with ⟨e1, h1⟩ | ⟨e1, h1⟩
  · rw [e1] at C
    by_cases hp : 0 ≤ p ∧ p < (np A : Int)
    · rw [show szE W H D p A = 0 by unfold szE; rw [if_pos e1, if_pos hp]]
      have C2 := Hid.mk (fun u => rthere_any W H D p A u)
      rw [decide_eq_true hp] at C2
      have C3 := Hid.mk (fun u => wide_any W H D p A u (by have := h1.1; omega) h1.1.2)
      clear hp h1 e1
      go_enter Try.func12, Try.ntmps12
      go_wp2_with (first | (go_at_call 15; refine (C.out _).mono ?_; rintro e w1 ⟨rfl, hk1⟩; obtain ⟨q0, q1, q2, q3⟩ := S0.keep hk1 (by simp)) | (go_at_call 42; refine (C2.out _).mono ?_; rintro e w2 ⟨rfl, hk2⟩; have r0 := cell_keep hk2 q0 (by simp); have r1 := cell_keep hk2 q1 (by simp); have r2 := cell_keep hk2 q2 (by simp); have r3 := cell_keep hk2 q3 (by simp)) | fail)
      go_region_held_law (fun u => u.cell? ⟨w.heap.size, 0, none⟩ = some (.int .i64 W) ∧ u.cell? ⟨w.heap.size, 1, none⟩ = some (.int .i64 H) ∧ u.cell? ⟨w.heap.size, 2, none⟩ = some (.int .i64 D) ∧ u.cell? ⟨w.heap.size, 3, none⟩ = some (.bool A)) (first | exact ⟨r0, r1, r2, r3⟩ | exact s5 | go_keep) ((go_at_call 43; refine (C3.out _).mono ?_; rintro e w3 ⟨rfl, hk3⟩; have s5 := And.intro (cell_keep (w := w2.drew) hk3 r0 (by simp)) (And.intro (cell_keep (w := w2.drew) hk3 r1 (by simp)) (And.intro (cell_keep (w := w2.drew) hk3 r2 (by simp)) (cell_keep (w := w2.drew) hk3 r3 (by simp))))))
      all_goals
        go_wp2
        go_ret3
        exact ⟨rfl, ((hk0.out.trans hk1).trans hk2).trans hk3.undrew⟩
    · rw [show szE W H D p A = 65 by unfold szE; rw [if_pos e1, if_neg hp]]
      have C2 := Hid.mk (fun u => rthere_any W H D p A u)
      rw [decide_eq_false hp] at C2
      clear hp h1 e1
      go_enter Try.func12, Try.ntmps12
      go_wp2_with (first | (go_at_call 15; refine (C.out _).mono ?_; rintro e w1 ⟨rfl, hk1⟩; obtain ⟨q0, q1, q2, q3⟩ := S0.keep hk1 (by simp)) | (go_at_call 42; refine (C2.out _).mono ?_; rintro e w2 ⟨rfl, hk2⟩))
      go_ret3
      exact ⟨rfl, (hk0.out.trans hk1).trans hk2⟩
  · rw [e1] at C
    rw [show szE W H D p A = 61 by unfold szE; rw [e1]; rfl]
    clear h1 e1
    go_enter Try.func12, Try.ntmps12
    go_wp2_with (first | (go_at_call 15; refine (C.out _).mono ?_; rintro e w1 ⟨rfl, hk1⟩))
    go_ret3
    exact ⟨rfl, hk0.out.trans hk1⟩
end Go.Proofs.Ythihennifigchaa
