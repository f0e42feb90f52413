import Derived.Test.YthihennifigchaaA8
namespace Go.Proofs.Ythihennifigchaa
open Go.RowKit

set_option maxHeartbeats 8000000 in
set_option maxRecDepth 1000000 in
theorem halves_any (W H D p X Y rw rh : Int) (A : Bool) (w : World) (hX : -9223372036854775808 ≤ X ∧ X ≤ 9223372036854775807) (hY : -9223372036854775808 ≤ Y ∧ Y ≤ 9223372036854775807) :
    Calls Try.prog 7 #[shv W H D A, .int .i64 p, rcv X Y rw rh] w fun e w' => e = .returned (.bool true) ∧ Kept [] w w' := by
  have C1 := Hid.mk shown_any
  have N := two_new w (.int .i64 W) (.int .i64 H) (.int .i64 D) (.bool A) (.int .i64 X) (.int .i64 Y) (.int .i64 rw) (.int .i64 rh) 23 51
  obtain ⟨w1, ew1⟩ : ∃ w1, w1 = (w.alloc (.cells #[.int .i64 W, .int .i64 H, .int .i64 D, .bool A] 23 (0, 0))).alloc (.cells #[.int .i64 X, .int .i64 Y, .int .i64 rw, .int .i64 rh] 51 (0, 0)) := ⟨_, rfl⟩
  rw [← ew1] at N
  have HN := Hid.mk N
  have EW := Hid.mk ew1
  clear N ew1
  obtain ⟨a, b, c, d, x, D2, D3⟩ : ∃ a b c d x, Hid (∀ u, Calls Try.prog 34 #[shv W H D A, .int .i64 p, rcv X Y rw rh] u fun e w' => e = .returned (.tuple #[rcv a b c d, .int .i64 x]) ∧ Kept [] u w') ∧ Hid (∀ u, Calls Try.prog 35 #[shv W H D A, .int .i64 p, rcv X Y rw rh] u fun e w' => e = .returned (.tuple #[rcv a b c d, .int .i64 x]) ∧ Kept [] u w') := by
    by_cases h0 : hE W H D p X Y rw rh A = 0
    · refine ⟨bX p X, Y, bW p rw, rh, hE W H D p X Y rw rh A, Hid.mk (fun u => (halfR_any W H D p X Y rw rh A u hX hY).mono (fun e w' h => ?_)), Hid.mk (fun u => (rhalfR_any W H D p X Y rw rh A u hX hY).mono (fun e w' h => ?_))⟩
      · rw [if_pos h0] at h; exact h
      · rw [if_pos h0] at h; exact h
    · refine ⟨0, 0, 0, 0, hE W H D p X Y rw rh A, Hid.mk (fun u => (halfR_any W H D p X Y rw rh A u hX hY).mono (fun e w' h => ?_)), Hid.mk (fun u => (rhalfR_any W H D p X Y rw rh A u hX hY).mono (fun e w' h => ?_))⟩
      · rw [if_neg h0] at h; exact h
      · rw [if_neg h0] at h; exact h
  go_enter Try.func7, Try.ntmps7
  go_wp2_with (first | (go_at_call 9; rw [← EW.out]; refine (C1.out _).mono ?_; rintro e w2 ⟨rfl, hk2⟩; obtain ⟨⟨c0, c1, c2, c3⟩, _⟩ := four (hk2.heap HN.out.1 (by simp)); obtain ⟨⟨r0, r1, r2, r3⟩, _⟩ := four (hk2.heap HN.out.2.1 (by simp))) | (go_at_call 34; refine (D2.out _).mono ?_; rintro e w3 ⟨rfl, hk3⟩; obtain ⟨⟨d0, d1, d2, d3⟩, _⟩ := four ((hk2.trans hk3).heap HN.out.1 (by simp)); obtain ⟨⟨s0, s1, s2, s3⟩, _⟩ := four ((hk2.trans hk3).heap HN.out.2.1 (by simp)); have l3 := lt_of_block ((hk2.trans hk3).heap HN.out.1 (by simp)); have l4 := lt_of_block ((hk2.trans hk3).heap HN.out.2.1 (by simp))) | (go_at_call 35; refine (D3.out _).mono ?_; rintro e w4 ⟨rfl, hk4⟩; obtain ⟨⟨t0, t1, t2, t3⟩, _⟩ := four (hk4.heap (heap_alloc_new w3 _) (by simp)); have l5 := lt_of_block (hk4.heap (heap_alloc_new w3 _) (by simp)); have KK := Hid.mk ((((HN.out.2.2.trans hk2).trans hk3).alloc _).trans hk4)))
  go_ret
  exact ⟨rfl, KK.out.alloc _⟩
end Go.Proofs.Ythihennifigchaa
