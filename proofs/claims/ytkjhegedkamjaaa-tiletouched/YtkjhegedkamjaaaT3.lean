import Derived.Test.YtkjhegedkamjaaaT1
namespace Go.Proofs.Ytkjhegedkamjaaa
open Go.RowKit

set_option maxHeartbeats 4000000 in
set_option maxRecDepth 1000000 in
theorem at_any' (P : Nat) (W H D sw sh c r x y : Int) (A : Bool) (w : World) (hg : Gr w P W H D A sw sh c r) (g : Gd W H sw sh c r) (x0 : 0 ≤ x) (x1 : x < W) (y0 : 0 ≤ y) (y1 : y < H) :
    Calls Try.prog 30 #[.pointer (some ⟨P, 0, none⟩), .int .i64 x, .int .i64 y] w fun e w' => e = .returned (.int .i64 (sA c sw sh x y)) ∧ Kept [] w w' := by
  have hlt := lt_of_block hg
  obtain ⟨g0, g1, g2, g3, g4, g5, g6, g7⟩ := eight hg
  have ⟨a0, a1⟩ := at_x g x0 x1
  have ⟨b0, b1⟩ := at_y g y0 y1
  have hw1 := g.w1
  have hh1 := g.h1
  have ha := sA_in g x0 x1 y0 y1
  have hc0 := g.c0
  have hc1 := g.c1
  have hr0 := g.r0
  have hr1 := g.r1
  have hcr : c * r ≤ 65536 := Int.mul_le_mul (a := c) (b := r) (c := 256) (d := 256) hc1 hr1 (by omega) (by omega)
  have hsh : sh ≠ 0 := by have := g.t0; omega
  have hsw : sw ≠ 0 := by have := g.s0; omega
  have q1 : wrap64 (y.tdiv sh) = y / sh := by rw [Int.tdiv_eq_ediv_of_nonneg y0]; exact w64_in (by omega) (by omega)
  have q2 : wrap64 (x.tdiv sw) = x / sw := by rw [Int.tdiv_eq_ediv_of_nonneg x0]; exact w64_in (by omega) (by omega)
  have m0 : 0 ≤ y / sh * c := Int.mul_nonneg b0 (by omega)
  have m1 : y / sh * c ≤ 256 * 256 := Int.mul_le_mul (by omega) hc1 (by omega) (by omega)
  have q3 : wrap64 (y / sh * c) = y / sh * c := w64_in (by omega) (by omega)
  have q4 : wrap64 (y / sh * c + x / sw) = sA c sw sh x y := w64_in (by omega) (by omega)
  clear a0 a1 b0 b1 ha hcr m0 m1 hc0 hc1 hr0 hr1 g
  go_enter Try.func30, Try.ntmps30
  go_wp2
  go_quiet (fail)
  go_wp2
  go_ret
  exact ⟨ret_int (by first | rfl | exact q4 | (simp only [q1, q2, q3, q4])), (Kept.refl _ _).drewN _⟩

/-- A rectangle lies in the frame. -/
def inF (W H X Y w h : Int) : Bool := decide (1 ≤ w ∧ 1 ≤ h ∧ 0 ≤ X ∧ 0 ≤ Y ∧ w ≤ W - X ∧ h ≤ H - Y)
set_option maxHeartbeats 4000000 in
set_option maxRecDepth 1000000 in
theorem thas_any (P : Nat) (W H D sw sh c r X Y rw rh : Int) (A : Bool) (w : World) (hg : Gr w P W H D A sw sh c r) (g : Gd W H sw sh c r) (x1 : X ≤ 9223372036854775807) (y1 : Y ≤ 9223372036854775807) :
    Calls Try.prog 29 #[.pointer (some ⟨P, 0, none⟩), rcv X Y rw rh] w fun e w' => e = .returned (.bool (inF W H X Y rw rh)) ∧ Kept [] w w' := by
  obtain ⟨w1, ew1, hk1, hb1⟩ := one_new w #[.int .i64 X, .int .i64 Y, .int .i64 rw, .int .i64 rh] 34
  have EW := Hid.mk ew1
  clear ew1
  have hlt := lt_of_block hg
  have HG := Hid.mk (hg.keep hk1 (by simp))
  have HB := Hid.mk hb1
  have hw0 := g.w0
  have hw1 := g.w1
  have hh0 := g.h0
  have hh1 := g.h1
  clear hg g hb1
  unfold inF
  by_cases k0 : rw < 1
  · rw [decide_eq_false (by omega)]
    go_enter Try.func29, Try.ntmps29
    go_wp2
    go_ret
    exact ⟨rfl, alloc_kept _ _⟩
  by_cases k1 : rh < 1
  · rw [decide_eq_false (by omega)]
    go_enter Try.func29, Try.ntmps29
    go_wp2
    go_ret
    exact ⟨rfl, alloc_kept _ _⟩
  by_cases k2 : X < 0
  · rw [decide_eq_false (by omega)]
    go_enter Try.func29, Try.ntmps29
    go_wp2
    go_ret
    exact ⟨rfl, alloc_kept _ _⟩
  by_cases k3 : Y < 0
  · rw [decide_eq_false (by omega)]
    go_enter Try.func29, Try.ntmps29
    go_wp2
    go_ret
    exact ⟨rfl, alloc_kept _ _⟩
  obtain ⟨⟨z0, z1, z2, z3⟩, _⟩ := four HB.out
  obtain ⟨g0, g1, _, _, _, _, _, _⟩ := eight HG.out
  have q1 : wrap64 (W - X) = W - X := w64_in (by omega) (by omega)
  have q2 : wrap64 (H - Y) = H - Y := w64_in (by omega) (by omega)
  by_cases k4 : rw ≤ W - X
  · by_cases k5 : rh ≤ H - Y
    · rw [decide_eq_true (by omega)]
      go_enter Try.func29, Try.ntmps29
      go_wp2
      rw [← EW.out]
      go_quiet (fail)
      go_wp2
      go_ret
      exact ⟨rfl, hk1.drewN _⟩
    · rw [decide_eq_false (by omega)]
      go_enter Try.func29, Try.ntmps29
      go_wp2
      rw [← EW.out]
      go_quiet (fail)
      go_wp2
      go_ret
      exact ⟨ret_bool (by first | rfl | exact decide_eq_false k5 | (simp; omega)), hk1.drewN _⟩
  · rw [decide_eq_false (by omega)]
    have k6 : decide (rw ≤ W - X) = false := decide_eq_false k4
    have k7 : W - X < rw := by omega
    go_enter Try.func29, Try.ntmps29
    go_wp2
    rw [← EW.out]
    go_quiet (fail)
    go_wp2
    go_ret
    exact ⟨rfl, hk1.drewN _⟩
end Go.Proofs.Ytkjhegedkamjaaa
