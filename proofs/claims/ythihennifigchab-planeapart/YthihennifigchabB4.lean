import Derived.Test.YthihennifigchabB2
namespace Go.Proofs.Ythihennifigchab
open Go.RowKit

theorem tdiv_b {x : Int} (h : -9223372036854775808 ≤ x ∧ x ≤ 9223372036854775807) : -9223372036854775808 ≤ x.tdiv 4096 ∧ x.tdiv 4096 ≤ 9223372036854775807 := by
  by_cases h0 : 0 ≤ x
  · rw [Int.tdiv_eq_ediv_of_nonneg h0]; omega
  · have e : x = -(-x) := by omega
    rw [e, Int.neg_tdiv, Int.tdiv_eq_ediv_of_nonneg (by omega)]; omega

set_option maxHeartbeats 8000000 in
set_option maxRecDepth 1000000 in
theorem lpart_any (wd ht x y : Int) (w : World) (h1 : 1 ≤ wd ∧ wd ≤ 4096) (h2 : 1 ≤ ht ∧ ht ≤ 4096) (hx : -9223372036854775808 ≤ x ∧ x ≤ 9223372036854775807) (hy : -9223372036854775808 ≤ y ∧ y ≤ 9223372036854775807) :
    Calls Try.prog 16 #[.int .i64 wd, .int .i64 ht, .int .i64 x, .int .i64 y] w fun e w' => ∃ X Y rw rh, e = .returned (rcv X Y rw rh) ∧ (0 ≤ X ∧ 1 ≤ rw ∧ X + rw ≤ wd) ∧ (0 ≤ Y ∧ 1 ≤ rh ∧ Y + rh ≤ ht) ∧ Kept [] w w' := by
  have C1 := Hid.mk (fun u => place_any x wd u hx h1.1 (by omega))
  have C2 := Hid.mk (fun u => place_any y ht u hy h2.1 (by omega))
  have x1 := plc_lo x h1.1
  have x2 := plc_hi x h1.1
  have y1 := plc_lo y h2.1
  have y2 := plc_hi y h2.1
  obtain ⟨X, eX⟩ : ∃ X, X = plc x wd := ⟨_, rfl⟩
  obtain ⟨Y, eY⟩ : ∃ Y, Y = plc y ht := ⟨_, rfl⟩
  rw [← eX] at C1 x1 x2
  rw [← eY] at C2 y1 y2
  have dx := tdiv_b hx
  have dy := tdiv_b hy
  have C3 := Hid.mk (fun u => place_any (x.tdiv 4096) (wd - X) u dx (by omega) (by omega))
  have C4 := Hid.mk (fun u => place_any (y.tdiv 4096) (ht - Y) u dy (by omega) (by omega))
  have a1 := plc_lo (x.tdiv 4096) (n := wd - X) (by omega)
  have a2 := plc_hi (x.tdiv 4096) (n := wd - X) (by omega)
  have b1 := plc_lo (y.tdiv 4096) (n := ht - Y) (by omega)
  have b2 := plc_hi (y.tdiv 4096) (n := ht - Y) (by omega)
  obtain ⟨P, eP⟩ : ∃ P, P = plc (x.tdiv 4096) (wd - X) := ⟨_, rfl⟩
  obtain ⟨Q, eQ⟩ : ∃ Q, Q = plc (y.tdiv 4096) (ht - Y) := ⟨_, rfl⟩
  rw [← eP] at C3 a1 a2
  rw [← eQ] at C4 b1 b2
  clear eX eY eP eQ
  go_enter Try.func16, Try.ntmps16
  go_wp2_with (first | (go_at_call_of 14 Y; refine (C4.out _).mono ?_; rintro e w1 ⟨rfl, hw⟩; obtain rfl := hw.symm) | (go_at_call_of 14 X; refine (C3.out _).mono ?_; rintro e w1 ⟨rfl, hw⟩; obtain rfl := hw.symm) | (go_at_call_of 14 y; refine (C2.out _).mono ?_; rintro e w1 ⟨rfl, hw⟩; obtain rfl := hw.symm) | (go_at_call_of 14 x; refine (C1.out _).mono ?_; rintro e w1 ⟨rfl, hw⟩; obtain rfl := hw.symm))
  refine bodyPost_ret (v := rcv X Y (1 + P) (1 + Q)) ?_ rfl ⟨X, Y, 1 + P, 1 + Q, rfl, ⟨x1, by omega, by omega⟩, ⟨y1, by omega, by omega⟩, ((Kept.refl [] w).alloc _).alloc _⟩
  exact results_cell_row rfl _ _ w.heap.size 46 _ (0, 0) _ rfl (two_new w _ _ _ _ _ _ _ _ _ _).1 Try.underlying46 rfl Try.info51

set_option maxHeartbeats 8000000 in
set_option maxRecDepth 1000000 in
theorem lwhole_any (W H D x y : Int) (A : Bool) (w : World) (h1 : 1 ≤ W ∧ W ≤ 4096) (h2 : 1 ≤ H ∧ H ≤ 4096) (hx : -9223372036854775808 ≤ x ∧ x ≤ 9223372036854775807) (hy : -9223372036854775808 ≤ y ∧ y ≤ 9223372036854775807) :
    Calls Try.prog 24 #[shv W H D A, .int .i64 x, .int .i64 y] w fun e w' => ∃ X Y rw rh, e = .returned (rcv X Y rw rh) ∧ whl W H X Y rw rh = true ∧ Kept [] w w' := by
  have C := Hid.mk (fun u => lpart_any W H x y u h1 h2 hx hy)
  have N := two_new w (.int .i64 W) (.int .i64 H) (.int .i64 D) (.bool A) (.int .i64 0) (.int .i64 0) (.int .i64 0) (.int .i64 0) 23 46
  obtain ⟨w1, ew1⟩ : ∃ w1, w1 = (w.alloc (.cells #[.int .i64 W, .int .i64 H, .int .i64 D, .bool A] 23 (0, 0))).alloc (.cells #[.int .i64 0, .int .i64 0, .int .i64 0, .int .i64 0] 46 (0, 0)) := ⟨_, rfl⟩
  rw [← ew1] at N
  have HN := Hid.mk N
  have EW := Hid.mk ew1
  clear N ew1
  go_enter Try.func24, Try.ntmps24
  go_upto_region 2 with (go_at_call 16; rw [← EW.out]; refine (C.out _).mono ?_; rintro e w2 ⟨X, Y, rw, rh, rfl, hXr, hYr, hk2⟩; obtain ⟨⟨c0, c1, c2, c3⟩, _⟩ := four (hk2.heap HN.out.1 (by simp)); obtain ⟨⟨z0, z1, z2, z3⟩, f0, f1, f2, f3⟩ := four (hk2.heap HN.out.2.1 (by simp)); have l3 := lt_of_block (hk2.heap HN.out.1 (by simp)); have l4 := lt_of_block (hk2.heap HN.out.2.1 (by simp)); have HR2 := Hid.mk (hk2.heap HN.out.2.1 (by simp)); have KK := Hid.mk (HN.out.2.2.trans hk2))
  rcases (show X % 2 = 0 ∨ X % 2 = 1 by omega) with hm | hm
  · rcases (show rw % 2 = 0 ∨ rw % 2 = 1 by omega) with hq | hq
    · have k1 : (rw % 2 == 1) = false := by simp; omega
      go_wp2
      have s4 := set4 (.int .i64 X) (.int .i64 Y) (.int .i64 rw) (.int .i64 rh) HR2.out
      refine bodyPost_ret (v := rcv X Y rw rh) ?_ rfl ⟨X, Y, rw, rh, rfl, decide_eq_true (by omega), ?_⟩
      · exact results_cell_row rfl _ _ (w.heap.size + 1) 46 _ (0, 0) _ rfl ((alloc_kept _ _).heap s4.1 (by simp)) Try.underlying46 rfl Try.info51
      · exact (KK.out.step s4.2 (fun x hx => by simp at hx; subst hx; exact .inr (by omega))).alloc _
    · have k1 : (rw % 2 == 1) = true := by simp; omega
      by_cases hl : X + rw < W
      · skip
        go_wp2
        have s4 := set4 (.int .i64 X) (.int .i64 Y) (.int .i64 (rw + 1)) (.int .i64 rh) HR2.out
        refine bodyPost_ret (v := rcv X Y (rw + 1) rh) ?_ rfl ⟨X, Y, (rw + 1), rh, rfl, decide_eq_true (by omega), ?_⟩
        · exact results_cell_row rfl _ _ (w.heap.size + 1) 46 _ (0, 0) _ rfl ((alloc_kept _ _).heap s4.1 (by simp)) Try.underlying46 rfl Try.info51
        · exact (KK.out.step s4.2 (fun x hx => by simp at hx; subst hx; exact .inr (by omega))).alloc _
      · skip
        go_wp2
        have s4 := set4 (.int .i64 X) (.int .i64 Y) (.int .i64 rw) (.int .i64 rh) HR2.out
        refine bodyPost_ret (v := rcv X Y rw rh) ?_ rfl ⟨X, Y, rw, rh, rfl, decide_eq_true (by omega), ?_⟩
        · exact results_cell_row rfl _ _ (w.heap.size + 1) 46 _ (0, 0) _ rfl ((alloc_kept _ _).heap s4.1 (by simp)) Try.underlying46 rfl Try.info51
        · exact (KK.out.step s4.2 (fun x hx => by simp at hx; subst hx; exact .inr (by omega))).alloc _
  · rcases (show (rw + 1) % 2 = 0 ∨ (rw + 1) % 2 = 1 by omega) with hq | hq
    · have k1 : ((rw + 1) % 2 == 1) = false := by simp; omega
      go_wp2
      have s4 := set4 (.int .i64 (X - 1)) (.int .i64 Y) (.int .i64 (rw + 1)) (.int .i64 rh) HR2.out
      refine bodyPost_ret (v := rcv (X - 1) Y (rw + 1) rh) ?_ rfl ⟨(X - 1), Y, (rw + 1), rh, rfl, decide_eq_true (by omega), ?_⟩
      · exact results_cell_row rfl _ _ (w.heap.size + 1) 46 _ (0, 0) _ rfl ((alloc_kept _ _).heap s4.1 (by simp)) Try.underlying46 rfl Try.info51
      · exact (KK.out.step s4.2 (fun x hx => by simp at hx; subst hx; exact .inr (by omega))).alloc _
    · have k1 : ((rw + 1) % 2 == 1) = true := by simp; omega
      by_cases hl : X - 1 + (rw + 1) < W
      · skip
        go_wp2
        have s4 := set4 (.int .i64 (X - 1)) (.int .i64 Y) (.int .i64 (rw + 1 + 1)) (.int .i64 rh) HR2.out
        refine bodyPost_ret (v := rcv (X - 1) Y (rw + 1 + 1) rh) ?_ rfl ⟨(X - 1), Y, (rw + 1 + 1), rh, rfl, decide_eq_true (by omega), ?_⟩
        · exact results_cell_row rfl _ _ (w.heap.size + 1) 46 _ (0, 0) _ rfl ((alloc_kept _ _).heap s4.1 (by simp)) Try.underlying46 rfl Try.info51
        · exact (KK.out.step s4.2 (fun x hx => by simp at hx; subst hx; exact .inr (by omega))).alloc _
      · skip
        go_wp2
        have s4 := set4 (.int .i64 (X - 1)) (.int .i64 Y) (.int .i64 (rw + 1)) (.int .i64 rh) HR2.out
        refine bodyPost_ret (v := rcv (X - 1) Y (rw + 1) rh) ?_ rfl ⟨(X - 1), Y, (rw + 1), rh, rfl, decide_eq_true (by omega), ?_⟩
        · exact results_cell_row rfl _ _ (w.heap.size + 1) 46 _ (0, 0) _ rfl ((alloc_kept _ _).heap s4.1 (by simp)) Try.underlying46 rfl Try.info51
        · exact (KK.out.step s4.2 (fun x hx => by simp at hx; subst hx; exact .inr (by omega))).alloc _
end Go.Proofs.Ythihennifigchab
