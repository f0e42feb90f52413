import Derived.Test.YtkjhegedkamjaaaP1
namespace Go.Proofs.Ytkjhegedkamjaaa
open Go.RowKit

set_option maxHeartbeats 32000000 in
set_option maxRecDepth 1000000 in
theorem apart_any (a b cc d e x y : Int) (A : Bool) (w : World) (ha : b64 a) (hb : b64 b) (hc : b64 cc) (hd : b64 d) (he : b64 e) (hx : b64 x) (hy : b64 y) :
    Calls Try.prog 4 #[frv a b cc d e A, .int .i64 x, .int .i64 y] w fun e w' => e = .returned (.bool true) ∧ Kept [] w w' := by
  have C0 := Hid.mk awake_any
  have C1 := Hid.mk (fun u => of_any a b cc d e A u ha hb hc hd he)
  have C2 := Hid.mk (fun W H D sw sh u hs s0 s1 se t0 t1 => tnew_ok W H D sw sh A u hs s0 s1 se t0 t1)
  have C3 := Hid.mk (fun n u (h : 0 < n) => pick_any x n u hx.1 hx.2 h)
  have C4 := Hid.mk (fun n u (h : 0 < n) => pick_any y n u hy.1 hy.2 h)
  clear ha hb hc hd he hx hy
  obtain ⟨w1, ew1, hk1, hb1⟩ := one_new w #[.int .i64 a, .int .i64 b, .int .i64 cc, .int .i64 d, .int .i64 e, .bool A] 42
  have EW := Hid.mk ew1
  clear ew1
  go_enter Try.func4, Try.ntmps4
  go_wp2_with (fail)
  rw [← EW.out]
  refine (C0.out _).mono ?_
  rintro e2 w2 ⟨rfl, hk2⟩
  obtain ⟨z0, z1, z2, z3, z4, z5⟩ := six (hk2.heap hb1 (by simp))
  go_wp2_with (fail)
  refine (C1.out _).mono ?_
  rintro e3 w3 ⟨⟨W, H, D, sw, sh, rfl, hS, hsw, hsh⟩, hk3⟩
  clear z0 z1 z2 z3 z4 z5
  go_wp2_with (fail)
  refine (C2.out W H D sw sh _ hS hsw.1 hsw.2.1 hsw.2.2 hsh.1 hsh.2).mono ?_
  rintro e4 w4 ⟨P, rfl, hk4, hP4, hG4⟩
  have g := Gd.of (W := W) (H := H) (sw := sw) (sh := sh) hS.1.1 hS.1.2 hS.2.1.1 hS.2.1.2 hsw.1 hsw.2.1 hsw.2.2 hsh.1 hsh.2
  obtain ⟨c, ec⟩ : ∃ c, c = cl W sw := ⟨_, rfl⟩
  obtain ⟨r, er⟩ : ∃ r, r = cl H sh := ⟨_, rfl⟩
  rw [← ec, ← er] at hG4 g
  clear ec er
  have hs4 := hk4.heap (heap_alloc_new w3 _) (by simp)
  have hK4 := (((hk1.trans hk2).trans hk3).alloc (.cells #[.int .i64 W, .int .i64 H, .int .i64 D, .bool A] 32 (0, 0))).trans hk4
  obtain ⟨B, eB⟩ : ∃ B, B = w3.heap.size := ⟨_, rfl⟩
  rw [← eB] at hs4
  obtain ⟨⟨s0, s1, s2, s3⟩, _⟩ := four hs4
  have hBP : Hid (Kept [] w w4 ∧ w4.heap[B]? = some (.cells #[.int .i64 W, .int .i64 H, .int .i64 D, .bool A] 32 (0, 0)) ∧ Gr w4 P W H D A sw sh c r ∧ Gd W H sw sh c r ∧ Shp W H D A) := Hid.mk ⟨hK4, hs4, hG4, g, hS⟩
  have cw := And.intro g.w0 g.w1
  have ch := And.intro g.h0 g.h1
  clear hK4 hs4 hG4 g hS hk4 hk3 hk2 hk1 hb1 EW C0 C1 C2 hsw hsh hP4
  simp only [← eB]
  clear eB
  go_wp2_with (fail)
  refine (C3.out W _ (by omega)).mono ?_
  rintro e5 w5 ⟨rfl, hw⟩
  obtain rfl := hw.symm
  go_wp2_with (fail)
  refine (C4.out H _ (by omega)).mono ?_
  rintro e5 w5 ⟨rfl, hw⟩
  obtain rfl := hw.symm
  have px0 := pick_lo x W (by omega)
  have px1 := pick_hi x W (by omega)
  have py0 := pick_lo y H (by omega)
  have py1 := pick_hi y H (by omega)
  obtain ⟨X, eX⟩ : ∃ X, X = pick x W := ⟨_, rfl⟩
  obtain ⟨Y, eY⟩ : ∃ Y, Y = pick y H := ⟨_, rfl⟩
  simp only [← eX, ← eY] at px0 px1 py0 py1 ⊢
  clear eX eY C3 C4
  go_wp2_with (fail)
  refine (tat_ok P W H D sw sh c r X Y A _ hBP.out.2.2.1 hBP.out.2.2.2.1 px0 px1 py0 py1).mono ?_
  rintro e6 w6 ⟨rfl, hk6⟩
  have hM := sA_in hBP.out.2.2.2.1 px0 px1 py0 py1
  obtain ⟨M, eM⟩ : ∃ M, M = sA c sw sh X Y := ⟨_, rfl⟩
  rw [← eM] at hM ⊢
  have HM := Hid.mk eM
  clear eM
  go_wp2_with (fail)
  refine (count_any' P W H D sw sh c r A _ (hBP.out.2.2.1.keep hk6 (by simp)) hBP.out.2.2.2.1.c0 hBP.out.2.2.2.1.c1 hBP.out.2.2.2.1.r0 hBP.out.2.2.2.1.r1).mono ?_
  rintro e7 w7 ⟨rfl, hk7⟩
  have hn1 : c * r ≤ 65536 := Int.mul_le_mul (a := c) (b := r) (c := 256) (d := 256) hBP.out.2.2.2.1.c1 hBP.out.2.2.2.1.r1 (by have := hBP.out.2.2.2.1.r0; omega) (by omega)
  obtain ⟨n, en⟩ : ∃ n, n = c * r := ⟨_, rfl⟩
  rw [← en] at hM hn1 ⊢
  have HN := Hid.mk en
  clear en
  obtain ⟨M0, M1⟩ := hM
  have H7 : Hid (Kept [] w w7 ∧ w7.heap[B]? = some (.cells #[.int .i64 W, .int .i64 H, .int .i64 D, .bool A] 32 (0, 0)) ∧ Gr w7 P W H D A sw sh c r) := Hid.mk ⟨hBP.out.1.trans (hk6.trans hk7), (hk6.trans hk7).heap hBP.out.2.1 (by simp), hBP.out.2.2.1.keep (hk6.trans hk7) (by simp)⟩
  have G7 := Hid.mk hBP.out.2.2.2
  clear hk6 hk7 hBP s0 s1 s2 s3
  go_wp2
  go_loopw [15] (fun k wr => ∃ j : Nat, (j : Int) ≤ n ∧ k = .int .i64 (j : Int) ∧ Kept [] w7 wr) (fun k _ => (n - intOf k).toNat)
  case atStart => exact ⟨0, by omega, rfl, Kept.refl _ _⟩
  case round =>
    obtain ⟨j, hj, rfl, hkr⟩ := hrel
    obtain ⟨k, ek⟩ : ∃ k : Int, k = (j : Int) := ⟨_, rfl⟩
    have k0 : 0 ≤ k := by omega
    have EK := Hid.mk ek
    rw [← ek] at hj ⊢
    clear ek
    have HKr := Hid.mk hkr
    have hbr := hkr.heap H7.out.2.1 (by simp)
    obtain ⟨⟨s0, s1, s2, s3⟩, _⟩ := four hbr
    clear hkr hbr
    by_cases hlt : k < n
    · go_wp2_with (fail)
      refine (trect_ok P W H D sw sh c r k A _ (H7.out.2.2.keep HKr.out (by simp)) G7.out.1 k0 (by rw [← HN.out]; exact hlt)).mono ?_
      rintro e8 w8 ⟨rfl, hk8⟩
      have fx := sX_in G7.out.1 k
      have fy := sY_in G7.out.1 k0 (by rw [← HN.out]; exact hlt)
      have fs := G7.out.1.s0
      have ft := G7.out.1.t0
      have fe := G7.out.1.se
      have fh := hs_slice G7.out.1 (k := k) px0 px1 py1
      rw [← HM.out] at fh
      have CP := Hid.mk (fun u p h hp => tpart_ok P W H D sw sh c r k p A u h G7.out.1 G7.out.2 k0 (by rw [← HN.out]; exact hlt) hp)
      have CQ := Hid.mk (fun u p h hp => tpart_noP P W H D sw sh c r k p A u h G7.out.1 G7.out.2 k0 (by rw [← HN.out]; exact hlt) hp)
      obtain ⟨sx, ex⟩ : ∃ sx, sx = sX c sw k := ⟨_, rfl⟩
      obtain ⟨sy, ey⟩ : ∃ sx, sx = sY c sh k := ⟨_, rfl⟩
      obtain ⟨rw', ew⟩ : ∃ q, q = min sw (W - sx) := ⟨_, rfl⟩
      obtain ⟨rh', eh⟩ : ∃ q, q = min sh (H - sy) := ⟨_, rfl⟩
      simp only [sR, ← ex, ← ey, ← ew, ← eh] at fx fy fh CP CQ ⊢
      have x0 := fx.1
      have xe := fx.2.2
      have y0 := fy.1
      have w0 : 1 ≤ rw' := by omega
      have h0 : 1 ≤ rh' := by omega
      have w1' : rw' ≤ sw := by omega
      have h1' : rh' ≤ sh := by omega
      have x2 : sx + rw' ≤ W := by omega
      have y2 : sy + rh' ≤ H := by omega
      have we : Hid (rw' % 2 = 0 ∨ sx + rw' = W) := Hid.mk (by show rw' % 2 = 0 ∨ sx + rw' = W; omega)
      clear fx fy fs ft fe ex ey ew eh
      clear s0 s1 s2 s3
      have hb8 := (HKr.out.trans hk8).heap H7.out.2.1 (by simp)
      obtain ⟨⟨s0, s1, s2, s3⟩, _⟩ := four hb8
      have lB := lt_of_block hb8
      have HK8 := Hid.mk (HKr.out.trans hk8)
      clear hb8 hk8
      go_upto_region 16 with (fail)
      obtain ⟨w9, ew9, hk9, hr9⟩ := one_new w8 #[.int .i64 sx, .int .i64 sy, .int .i64 rw', .int .i64 rh'] 34
      rw [← ew9]
      clear ew9
      obtain ⟨R, eR⟩ : ∃ R, R = w8.heap.size := ⟨_, rfl⟩
      rw [← eR] at hr9 ⊢
      clear eR
      have t0 := cell_keep hk9 s0 (by simp)
      have t1 := cell_keep hk9 s1 (by simp)
      obtain ⟨⟨r0, r1, r2, r3⟩, _⟩ := four hr9
      clear s0 s1 s2 s3 lB
      go_cut [165] (fun s wc => s = .bool false ∧ wc = w9)
      case first =>
        by_cases h2 : rw' % 2 = 0
        · as_aux_lemma =>
          go_wp2
          go_meet
          exact ⟨congrArg Value.bool (by first | rfl | (simp; omega)), rfl⟩
        · have h : sx + rw' = W := by rcases we.out with h | h; exact absurd h h2; exact h
          as_aux_lemma =>
          go_wp2
          go_meet
          exact ⟨congrArg Value.bool (by first | rfl | (simp; omega)), rfl⟩
      case rest =>
        obtain ⟨rfl, rfl⟩ := hcut
        have H9 := Hid.mk (And.intro (HK8.out.trans hk9) hr9)
        clear hk9 hr9 HK8 t0 t1
        have CH := Hid.mk (fun u x y => hs_any sx sy rw' rh' x y u (by omega) (by omega) (by omega) (by omega))
        go_wp2_with (fail)
        refine (CH.out _ X Y).mono ?_
        rintro e10 w10 ⟨rfl, hk10⟩
        rw [fh, show decide (k = M) = (k == M) from rfl]
        obtain ⟨bM, ebM⟩ : ∃ bM, bM = (k == M) := ⟨_, rfl⟩
        go_wp2_with (fail)
        have HW10 : Hid (Kept [] w7 w10 ∧ w10.heap[R]? = some (.cells #[.int .i64 sx, .int .i64 sy, .int .i64 rw', .int .i64 rh'] 34 (0, 0))) := Hid.mk ⟨H9.out.1.trans hk10, hk10.heap H9.out.2 (by simp)⟩
        clear hk10 H9 r0 r1 r2 r3 fh ebM
        go_loopw [18] (fun p wr => ∃ q : Nat, q ≤ 4 ∧ p = .int .i64 (q : Int) ∧ Kept [] w10 wr) (fun p _ => (4 - intOf p).toNat)
        case atStart => exact ⟨0, by omega, rfl, Kept.refl _ _⟩
        case round =>
          obtain ⟨q, hq, rfl, hkq⟩ := hrel
          have HKq := Hid.mk hkq
          have HRr := Hid.mk (hkq.heap HW10.out.2 (by simp))
          have HBr := Hid.mk ((HW10.out.1.trans hkq).heap H7.out.2.1 (by simp))
          have HGr := Hid.mk (H7.out.2.2.keep (HW10.out.1.trans hkq) (by simp))
          clear hkq
          have hq5 : q = 0 ∨ q = 1 ∨ q = 2 ∨ q = 3 ∨ q = 4 := by omega
          clear hq
          rcases hq5 with rfl | rfl | rfl | rfl | rfl
          · as_aux_lemma =>
            go_wp2_with (fail)
            have CPq := CP.out wr 0 HGr.out (by unfold prt np; constructor; decide; split <;> decide)
            rw [show bX 0 sx = sx from if_neg (by decide), show bW 0 rw' = rw' from if_neg (by decide)] at CPq
            refine CPq.mono ?_
            rintro e11 w11 ⟨rfl, hk11⟩
            obtain ⟨⟨v0, v1, v2, v3⟩, _⟩ := four (hk11.heap HRr.out (by simp))
            have lR := lt_of_block (hk11.heap HRr.out (by simp))
            obtain ⟨⟨_, _, _, a3⟩, _⟩ := four (hk11.heap HBr.out (by simp))
            have lB := lt_of_block (hk11.heap HBr.out (by simp))
            go_wp2_with (fail)
            refine (CH.out _ X Y).mono ?_
            rintro e12 w12 ⟨rfl, hk12⟩
            have hp12 := hk12.heap (heap_alloc_new w11 _) (by simp)
            have hr12 := hk12.heap ((alloc_kept w11 (.cells #[.int .i64 sx, .int .i64 sy, .int .i64 rw', .int .i64 rh'] 34 (0, 0))).heap (hk11.heap HRr.out (by simp)) (by simp)) (by simp)
            clear v0 v1 v2 v3 lR a3 lB
            obtain ⟨⟨p0, p1, p2, p3⟩, _⟩ := four hp12
            obtain ⟨⟨v0, v1, v2, v3⟩, _⟩ := four hr12
            have HK12 := Hid.mk ((HKq.out.trans hk11).trans ((alloc_kept _ _).trans hk12))
            obtain ⟨b1, eb1⟩ : ∃ b, b = hs sx sy rw' rh' X Y := ⟨_, rfl⟩
            rw [← eb1]
            clear hp12 hr12
            go_wp2_with (fail)
            refine (CH.out _ X Y).mono ?_
            rintro e14 w14 ⟨rfl, hk14⟩
            rw [← eb1]
            clear eb1
            go_wp2
            go_roundw
            case rel => exact ⟨1, by omega, rfl, HK12.out.trans hk14⟩
            case measure => simp [intOf]
          · as_aux_lemma =>
            go_wp2_with (fail)
            have CPq := CP.out wr 1 HGr.out (by unfold prt np; constructor; decide; split <;> decide)
            rw [show bX 1 sx = sx / 2 from if_pos (by decide), show bW 1 rw' = hf rw' from if_pos (by decide)] at CPq
            refine CPq.mono ?_
            rintro e11 w11 ⟨rfl, hk11⟩
            obtain ⟨⟨v0, v1, v2, v3⟩, _⟩ := four (hk11.heap HRr.out (by simp))
            have lR := lt_of_block (hk11.heap HRr.out (by simp))
            obtain ⟨⟨_, _, _, a3⟩, _⟩ := four (hk11.heap HBr.out (by simp))
            have lB := lt_of_block (hk11.heap HBr.out (by simp))
            go_wp2_with (fail)
            refine (CH.out _ X Y).mono ?_
            rintro e12 w12 ⟨rfl, hk12⟩
            have hp12 := hk12.heap (heap_alloc_new w11 _) (by simp)
            have hr12 := hk12.heap ((alloc_kept w11 (.cells #[.int .i64 (sx / 2), .int .i64 sy, .int .i64 (hf rw'), .int .i64 rh'] 34 (0, 0))).heap (hk11.heap HRr.out (by simp)) (by simp)) (by simp)
            clear v0 v1 v2 v3 lR a3 lB
            obtain ⟨⟨p0, p1, p2, p3⟩, _⟩ := four hp12
            obtain ⟨⟨v0, v1, v2, v3⟩, _⟩ := four hr12
            have HK12 := Hid.mk ((HKq.out.trans hk11).trans ((alloc_kept _ _).trans hk12))
            obtain ⟨b1, eb1⟩ : ∃ b, b = hs sx sy rw' rh' X Y := ⟨_, rfl⟩
            rw [← eb1]
            go_wp2_with (fail)
            refine (CH.out _ _ _).mono ?_
            rintro e13 w13 ⟨rfl, hk13⟩
            have hp13 := hk13.heap hp12 (by simp)
            have hr13 := hk13.heap hr12 (by simp)
            clear v0 v1 v2 v3 p0 p1 p2 p3
            obtain ⟨⟨p0, p1, p2, p3⟩, _⟩ := four hp13
            obtain ⟨⟨v0, v1, v2, v3⟩, _⟩ := four hr13
            have eh := hs_half (X := sx) (Y := sy) (rw := rw') (rh := rh') (x := X) (y := Y) xe
            have hw1 := hf_lo w0
            have hw2 := hf_hi (n := rw') (by omega)
            have CH2 := Hid.mk (fun u x y => hs_any (sx / 2) sy (hf rw') rh' x y u (by omega) (by omega) (by omega) (by omega))
            obtain ⟨b2, eb2⟩ : ∃ b, b = hs sx sy rw' rh' (X - X % 2) Y := ⟨_, rfl⟩
            rw [← eb2] at eh ⊢
            obtain ⟨hw', ehw⟩ : ∃ h, h = hf rw' := ⟨_, rfl⟩
            simp only [← ehw] at eh hw1 hw2 CH2 p2
            clear eb2 hp12 hr12 hp13 hr13 eb1 ehw
            go_wp2_with (fail)
            refine (CH2.out _ _ _).mono ?_
            rintro e14 w14 ⟨rfl, hk14⟩
            rw [eh]
            clear eh
            go_wp2
            go_roundw
            case rel => exact ⟨2, by omega, rfl, (HK12.out.trans hk13).trans hk14⟩
            case measure => simp [intOf]
          · as_aux_lemma =>
            go_wp2_with (fail)
            have CPq := CP.out wr 2 HGr.out (by unfold prt np; constructor; decide; split <;> decide)
            rw [show bX 2 sx = sx / 2 from if_pos (by decide), show bW 2 rw' = hf rw' from if_pos (by decide)] at CPq
            refine CPq.mono ?_
            rintro e11 w11 ⟨rfl, hk11⟩
            obtain ⟨⟨v0, v1, v2, v3⟩, _⟩ := four (hk11.heap HRr.out (by simp))
            have lR := lt_of_block (hk11.heap HRr.out (by simp))
            obtain ⟨⟨_, _, _, a3⟩, _⟩ := four (hk11.heap HBr.out (by simp))
            have lB := lt_of_block (hk11.heap HBr.out (by simp))
            go_wp2_with (fail)
            refine (CH.out _ X Y).mono ?_
            rintro e12 w12 ⟨rfl, hk12⟩
            have hp12 := hk12.heap (heap_alloc_new w11 _) (by simp)
            have hr12 := hk12.heap ((alloc_kept w11 (.cells #[.int .i64 (sx / 2), .int .i64 sy, .int .i64 (hf rw'), .int .i64 rh'] 34 (0, 0))).heap (hk11.heap HRr.out (by simp)) (by simp)) (by simp)
            clear v0 v1 v2 v3 lR a3 lB
            obtain ⟨⟨p0, p1, p2, p3⟩, _⟩ := four hp12
            obtain ⟨⟨v0, v1, v2, v3⟩, _⟩ := four hr12
            have HK12 := Hid.mk ((HKq.out.trans hk11).trans ((alloc_kept _ _).trans hk12))
            obtain ⟨b1, eb1⟩ : ∃ b, b = hs sx sy rw' rh' X Y := ⟨_, rfl⟩
            rw [← eb1]
            go_wp2_with (fail)
            refine (CH.out _ _ _).mono ?_
            rintro e13 w13 ⟨rfl, hk13⟩
            have hp13 := hk13.heap hp12 (by simp)
            have hr13 := hk13.heap hr12 (by simp)
            clear v0 v1 v2 v3 p0 p1 p2 p3
            obtain ⟨⟨p0, p1, p2, p3⟩, _⟩ := four hp13
            obtain ⟨⟨v0, v1, v2, v3⟩, _⟩ := four hr13
            have eh := hs_half (X := sx) (Y := sy) (rw := rw') (rh := rh') (x := X) (y := Y) xe
            have hw1 := hf_lo w0
            have hw2 := hf_hi (n := rw') (by omega)
            have CH2 := Hid.mk (fun u x y => hs_any (sx / 2) sy (hf rw') rh' x y u (by omega) (by omega) (by omega) (by omega))
            obtain ⟨b2, eb2⟩ : ∃ b, b = hs sx sy rw' rh' (X - X % 2) Y := ⟨_, rfl⟩
            rw [← eb2] at eh ⊢
            obtain ⟨hw', ehw⟩ : ∃ h, h = hf rw' := ⟨_, rfl⟩
            simp only [← ehw] at eh hw1 hw2 CH2 p2
            clear eb2 hp12 hr12 hp13 hr13 eb1 ehw
            go_wp2_with (fail)
            refine (CH2.out _ _ _).mono ?_
            rintro e14 w14 ⟨rfl, hk14⟩
            rw [eh]
            clear eh
            go_wp2
            go_roundw
            case rel => exact ⟨3, by omega, rfl, (HK12.out.trans hk13).trans hk14⟩
            case measure => simp [intOf]
          · by_cases hA : A = true
            · have HA := Hid.mk hA
              clear hA
              as_aux_lemma =>
              go_wp2_with (fail)
              have CPq := CP.out wr 3 HGr.out (by rw [HA.out]; unfold prt np; decide)
              rw [show bX 3 sx = sx from if_neg (by decide), show bW 3 rw' = rw' from if_neg (by decide)] at CPq
              refine CPq.mono ?_
              rintro e11 w11 ⟨rfl, hk11⟩
              obtain ⟨⟨v0, v1, v2, v3⟩, _⟩ := four (hk11.heap HRr.out (by simp))
              have lR := lt_of_block (hk11.heap HRr.out (by simp))
              obtain ⟨⟨_, _, _, a3⟩, _⟩ := four (hk11.heap HBr.out (by simp))
              rw [HA.out] at a3
              have lB := lt_of_block (hk11.heap HBr.out (by simp))
              go_wp2_with (fail)
              refine (CH.out _ X Y).mono ?_
              rintro e12 w12 ⟨rfl, hk12⟩
              have hp12 := hk12.heap (heap_alloc_new w11 _) (by simp)
              have hr12 := hk12.heap ((alloc_kept w11 (.cells #[.int .i64 sx, .int .i64 sy, .int .i64 rw', .int .i64 rh'] 34 (0, 0))).heap (hk11.heap HRr.out (by simp)) (by simp)) (by simp)
              clear v0 v1 v2 v3 lR a3 lB
              obtain ⟨⟨p0, p1, p2, p3⟩, _⟩ := four hp12
              obtain ⟨⟨v0, v1, v2, v3⟩, _⟩ := four hr12
              have HK12 := Hid.mk ((HKq.out.trans hk11).trans ((alloc_kept _ _).trans hk12))
              obtain ⟨b1, eb1⟩ : ∃ b, b = hs sx sy rw' rh' X Y := ⟨_, rfl⟩
              rw [← eb1]
              clear hp12 hr12
              go_wp2_with (fail)
              refine (CH.out _ X Y).mono ?_
              rintro e14 w14 ⟨rfl, hk14⟩
              rw [← eb1]
              clear eb1
              go_wp2
              go_roundw
              case rel => exact ⟨4, by omega, rfl, HK12.out.trans hk14⟩
              case measure => simp [intOf]
            · have HA := Hid.mk (show A = false by simpa using hA)
              clear hA
              as_aux_lemma =>
              go_wp2_with (fail)
              refine (CQ.out wr 3 HGr.out (by rw [HA.out]; unfold prt np; decide)).mono ?_
              rintro e11 w11 ⟨rfl, hk11⟩
              obtain ⟨⟨_, _, _, a3⟩, _⟩ := four (hk11.heap HBr.out (by simp))
              have lB := lt_of_block (hk11.heap HBr.out (by simp))
              rw [HA.out] at a3
              go_wp2
              go_roundw
              case rel => exact ⟨4, by omega, rfl, (HKq.out.trans hk11).alloc _⟩
              case measure => simp [intOf]
          · go_wp2
            go_roundw
            case rel => exact ⟨j + 1, by have := EK.out; omega, by rw [EK.out]; congr 1, HW10.out.1.trans HKq.out⟩
            case measure => simp [intOf]; omega
    · obtain rfl : n = k := by omega
      go_wp2
      go_ret
      exact ⟨rfl, H7.out.1.trans HKr.out⟩
end Go.Proofs.Ytkjhegedkamjaaa
