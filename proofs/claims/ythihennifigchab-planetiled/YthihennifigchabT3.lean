import Derived.Test.YthihennifigchabT2
import Derived.Test.YthihennifigchabA6
import Derived.Deep.DeepCutAuto
namespace Go.Proofs.Ythihennifigchab
open Go.RowKit

theorem Try.infoN : (Try.prog.info? 3).map (fun i => (i.zero, i.size, i.bytes)) = some (some (.int .i64 0), 1, 8) := by kernel_rfl
theorem fl_zeroI (n : Nat) : List.replicate n (Value.int .i64 0) = fl (fun _ => .int .i64 0) n := by
  apply List.ext_getElem?
  intro i
  by_cases h : i < n
  · rw [List.getElem?_replicate, if_pos h, fl_at _ _ _ h]
  · rw [List.getElem?_eq_none (by simp; omega), List.getElem?_eq_none (by simp [fl_length]; omega)]
/-- Making a list of numbers, as an equation. -/
theorem make_ints (r : Nat) (m : Int) (hm : m = (r : Int)) (hr : r ≤ 1000000000) : ∃ mkW : World → World, (∀ w, Sem.run Try.prog (Instr.makeSlice 55 (.int .i64 m) (.int .i64 m)) w = .ok (.slice (some ⟨w.heap.size, 0, none⟩) r r) (mkW w)) ∧ ∀ w, RowI (mkW w) w.heap.size r (fun _ => 0) ∧ Kept [] w (mkW w) := by
  subst hm
  obtain ⟨j0, gi, gz0, gz1, gz2⟩ := info_parts Try.infoN
  have h : ∀ w : World, ∃ w', Sem.run Try.prog (Instr.makeSlice 55 (.int .i64 (r : Int)) (.int .i64 (r : Int))) w = .ok (.slice (some ⟨w.heap.size, 0, none⟩) r r) w' ∧ RowI w' w.heap.size r (fun _ => 0) ∧ Kept [] w w' := fun w => by
    obtain ⟨w', hrun, r1, r2⟩ := run_make_full (P := Try.prog) w 0 55 3 j0 (.int .i64 0) 1 Try.underlying55 gi gz0 gz1 .i64 .i64 r (by rw [gz2]; omega) (by unfold maxLen; omega) (by omega)
    have hr3 := row_heap r1 rfl
    rw [show (madeCells (Value.int .i64 0).cells (r * 1)).toList = List.replicate r (.int .i64 0) by rw [Nat.mul_one]; exact toList_madeCells_one _ _, fl_zeroI] at hr3
    exact ⟨w', hrun, hr3, (Kept.of_grown r2).mono (by simp)⟩
  obtain ⟨mkW, hm⟩ := Classical.axiomOfChoice h
  exact ⟨mkW, fun w => (hm w).1, fun w => (hm w).2⟩
theorem RdN.stay {w w' : World} {ao : Option Addr} {n : Nat} {f : Nat → Int} (h : RdN w ao n f) (hk : Kept [] w w') : RdN w' ao n f := h.keep hk (by simp)
/-- A plane's samples are among all. -/
theorem wp_tot {W H : Int} (A : Bool) (i : Int) (h0 : 1 ≤ W) (h2 : 1 ≤ H) : wp W i * H ≤ tot W H A := by
  have a : 0 ≤ W * H := Int.mul_nonneg (by omega) (by omega)
  have b : 0 ≤ hf W * H := Int.mul_nonneg (by unfold hf; omega) (by omega)
  unfold wp tot
  split <;> split <;> omega

set_option maxHeartbeats 32000000 in
set_option maxRecDepth 1000000 in
theorem tiled_any (W H D : Int) (A : Bool) (co ro : Option Addr) (m c k d : Nat) (f g : Nat → Int) (w : World) (hc : RdN w co m f) (hf : ∀ i, i < m → -9223372036854775808 ≤ f i ∧ f i ≤ 9223372036854775807) (hm : m ≤ 9223372036854775807) (hr : RdN w ro k g) (hg : ∀ i, i < k → -9223372036854775808 ≤ g i ∧ g i ≤ 9223372036854775807) (hk : k ≤ 9223372036854775807) :
    Calls Try.prog 5 #[shv W H D A, .slice co m c, .slice ro k d] w fun e w' => e = .returned (.bool true) ∧ Kept [] w w' := by
  have C1 := Hid.mk shown_any
  have CS := Hid.mk (fun u => rsamples_any W H D A u)
  have S0 := Hid.mk (Sat.new w W H D A 23)
  have K0 := Hid.mk (alloc_kept w (.cells #[.int .i64 W, .int .i64 H, .int .i64 D, .bool A] 23))
  obtain ⟨w1, ew1⟩ : ∃ w1, w1 = w.alloc (.cells #[.int .i64 W, .int .i64 H, .int .i64 D, .bool A] 23) := ⟨_, rfl⟩
  rw [← ew1] at S0 K0
  have EW := Hid.mk ew1
  clear ew1
  rcases shE_two W H D A with ⟨e1, h1⟩ | ⟨e1, h1⟩
  · rw [e1, if_pos rfl] at CS
    have Hs := Hid.mk h1
    have HC := Hid.mk (And.intro hc (And.intro hf hm))
    have HG := Hid.mk (And.intro hr (And.intro hg hk))
    have CZ := Hid.mk (fun u (i : Nat) => size_any W H D i A u)
    obtain ⟨T, eT⟩ : ∃ T, T = tot W H A := ⟨_, rfl⟩
    rw [← eT] at CS
    have ET := Hid.mk eT
    clear e1 h1 hc hf hr hg eT
    go_enter Try.func5, Try.ntmps5
    go_wp2_with (first | (go_at_call 8; rw [← EW.out]; refine (C1.out _).mono ?_; rintro e w2 ⟨rfl, hk2⟩; obtain ⟨c0, c1, c2, c3⟩ := S0.out.keep hk2 (by simp)) | (go_at_call 21; refine (CS.out _).mono ?_; rintro e w3 ⟨rfl, hk3⟩))
    have S3 := Hid.mk (S0.out.keep (hk2.trans hk3) (by simp))
    have K3 := Hid.mk (K0.out.trans (hk2.trans hk3))
    obtain ⟨b, eb⟩ : ∃ b, b = w.heap.size := ⟨_, rfl⟩
    rw [← eb] at S3 ⊢
    have HEB := Hid.mk eb
    clear c0 c1 c2 c3 hk2 hk3 C1 CS EW eb S0 K0
    go_loopw [10] (fun i wr => ∃ t : Nat, t ≤ 4 ∧ i = .int .i64 (t : Int) ∧ Sat wr b W H D A ∧ Kept [] w wr) (fun i _ => 4 - (intOf i).toNat)
    case atStart => exact ⟨0, by omega, rfl, S3.out, K3.out⟩
    case round =>
      obtain ⟨t, ht, rfl, hst, hkr⟩ := hrel
      have Hkr := Hid.mk hkr
      have S4 := Hid.mk hst
      obtain ⟨q0, q1, q2, q3⟩ := hst
      clear hkr
      by_cases hlt : t < 4
      · by_cases hp : t < np A
        · have hs := Hs.out
          have D2 : Hid (∀ u, Calls Try.prog 15 #[shv W H D A, .int .i64 (t : Int)] u fun e w' => e = .returned (.tuple #[.int .i64 (wp W (t : Int)), .int .i64 H, .int .i64 0]) ∧ Kept [] u w') := Hid.mk (fun u => by
            have h := CZ.out u t
            rw [show szE W H D (t : Int) A = 0 by unfold szE; rw [if_pos (shE_ok hs), if_pos (by omega)], if_pos rfl, if_pos rfl] at h
            exact h)
          have wl := wp_lo (t : Int) hs.1.1
          have wh := wp_hi (t : Int) hs.1.1
          have wt := wp_tot A (t : Int) hs.1.1 hs.2.1.1
          have hb := wpH (t : Int) hs.1.1 hs.1.2 hs.2.1.1 hs.2.1.2
          rw [← ET.out] at wt
          obtain ⟨x, ex⟩ : ∃ x, x = wp W (t : Int) := ⟨_, rfl⟩
          rw [← ex] at D2 wl wh wt hb
          have EX := Hid.mk ex
          have y1 : x ≤ x * H := by have := Int.mul_le_mul_of_nonneg_left hs.2.1.1 (show 0 ≤ x by omega); omega
          have y2 : H ≤ x * H := by have := Int.mul_le_mul_of_nonneg_right wl (show 0 ≤ H by have := hs.2.1; omega); omega
          have y3 : x ≤ T := by omega
          have y4 : H ≤ T := by omega
          have y5 : 1 ≤ H ∧ H ≤ 4096 := hs.2.1
          have y6 : 1 ≤ W ∧ W ≤ 4096 := hs.1
          have hwr : IntKind.i64.wrap (x * H) = x * H := wrap_i (by omega) (by omega)
          obtain ⟨N, eN⟩ : ∃ N : Nat, x * H = (N : Int) := ⟨(x * H).toNat, by omega⟩
          obtain ⟨mkW, hmk, hmw⟩ := make_ints N (x * H) eN (by omega)
          have HMW := Hid.mk hmw
          have EN := Hid.mk eN
          clear ex hmw hs eN
          go_upto_region 15 with (go_at_call 15; refine (D2.out _).mono ?_; rintro e w4 ⟨rfl, hk4⟩)
          have m4 := HMW.out w4
          have S5 := Hid.mk ((S4.out.keep hk4 (by simp)).keep m4.2 (by simp))
          have K5 := Hid.mk ((Hkr.out.trans hk4).trans m4.2)
          have R5 := Hid.mk m4.1
          have hTB : Hid (w.heap.size ≤ w4.heap.size ∧ b ≠ w4.heap.size) := Hid.mk ⟨(Hkr.out.trans hk4).size, by have := World.block_lt_of_cell? _ _ (S4.out.keep hk4 (by simp)).c0; intro e; rw [e] at this; exact Nat.lt_irrefl _ this⟩
          obtain ⟨w5, ew5⟩ : ∃ w5, w5 = mkW w4 := ⟨_, rfl⟩
          rw [← ew5] at S5 K5 R5 ⊢
          obtain ⟨TB, eTB⟩ : ∃ TB, TB = w4.heap.size := ⟨_, rfl⟩
          rw [← eTB] at R5 hTB ⊢
          obtain ⟨xN, exN⟩ : ∃ v : Nat, x = (v : Int) := ⟨x.toNat, by omega⟩
          obtain ⟨WN, eWN⟩ : ∃ v : Nat, W = (v : Int) := ⟨W.toNat, by omega⟩
          obtain ⟨HN, eHN⟩ : ∃ v : Nat, H = (v : Int) := ⟨H.toNat, by omega⟩
          have HE := Hid.mk (And.intro exN (And.intro eWN eHN))
          have R6 : Hid (RowI w5 TB N (tm xN 0 0 0)) := Hid.mk (R5.out.congr (fun j _ => by unfold tm; rw [if_neg (by simp)]))
          clear m4 hk4 ew5 eTB hmk HMW q0 q1 q2 q3 exN eWN eHN R5 D2 hwr
          go_wp2
          go_loopw [15, 16] (fun a s wr => ∃ (v yy : Nat), a = .int .i64 (v : Int) ∧ s = .int .i64 (yy : Int) ∧ v ≤ yy ∧ (yy : Int) ≤ H ∧ RowI wr TB N (tm xN yy 0 0) ∧ Sat wr b W H D A ∧ Kept [] w wr ∧ Kept [TB] w5 wr) (fun _ s _ => H.toNat - (intOf s).toNat)
          case atStart => exact ⟨0, 0, rfl, rfl, Nat.le_refl _, by omega, R6.out, S5.out, K5.out, Kept.refl _ _⟩
          case round =>
            obtain ⟨v, yy, rfl, rfl, hv, hyy, hrow, hsat, hkw, hk5⟩ := hrel
            have HRow := Hid.mk hrow
            have HSat := Hid.mk hsat
            have HK := Hid.mk (And.intro hkw hk5)
            obtain ⟨q0, q1, q2, q3⟩ := hsat
            clear hrow hkw hk5
            by_cases hyl : (yy : Int) < H
            · have CR := Hid.mk (fun u (hu : Kept [] w u) => raw_any ro k d g (yy : Int) (H - yy) u (HG.out.1.stay hu) HG.out.2.1 hk (by omega) (by omega) (by omega) (by omega))
              go_wp2_with (fail)
              refine (CR.out _ HK.out.1).mono ?_
              rintro e w6 ⟨r0, rfl, hr0, hr1, hk6⟩
              obtain ⟨hi, rfl⟩ : ∃ hi : Nat, r0 = (hi : Int) := ⟨r0.toNat, by omega⟩
              have S6 := Hid.mk (HSat.out.keep hk6 (by simp))
              have R7 : Hid (RowI w6 TB N (tm xN yy (hi + 1) (pX (t : Int) 0))) := Hid.mk ((HRow.out.keep hk6 (by simp)).congr (fun j _ => by
                rw [show pX (t : Int) 0 = 0 by unfold pX; split <;> rfl]
                exact (tm_zero xN yy (hi + 1) j).symm))
              have K6 := Hid.mk (And.intro (HK.out.1.trans hk6) (HK.out.2.step hk6 (by simp)))
              clear hk6 q0 q1 q2 q3 HRow HSat HK CR
              obtain ⟨q0, q1, q2, q3⟩ := S6.out
              go_wp2_with (fail)
              go_loopw [19] (fun s wr => ∃ xx : Nat, s = .int .i64 (xx : Int) ∧ (xx : Int) ≤ W ∧ (xx % 2 = 0 ∨ (xx : Int) = W) ∧ RowI wr TB N (tm xN yy (hi + 1) (pX (t : Int) xx)) ∧ Sat wr b W H D A ∧ Kept [] w wr ∧ Kept [TB] w5 wr) (fun s _ => W.toNat - (intOf s).toNat)
              case atStart => exact ⟨0, rfl, by omega, .inl rfl, R7.out, S6.out, K6.out.1, K6.out.2⟩
              case round =>
                obtain ⟨xx, rfl, hxx, hev, hrow, hsat, hkw, hk5⟩ := hrel
                have HRow := Hid.mk hrow
                have HSat := Hid.mk hsat
                have HK := Hid.mk (And.intro hkw hk5)
                clear q0 q1 q2 q3
                obtain ⟨q0, q1, q2, q3⟩ := hsat
                clear hrow hkw hk5
                by_cases hxl : (xx : Int) < W
                · have hev2 : xx % 2 = 0 := by omega
                  have CC := Hid.mk (fun u z (hu : Kept [] w u) (z1 : 0 ≤ z) (z2 : z ≤ 9223372036854775807) => raw_any co m c f z 9 u (HC.out.1.stay hu) HC.out.2.1 hm z1 z2 (by omega) (by omega))
                  go_wp2_with (fail)
                  refine (CC.out _ _ HK.out.1 (by omega) (by omega)).mono ?_
                  rintro e w7 ⟨r1, rfl, hr2, hr3, hk7⟩
                  have S7 := Hid.mk (HSat.out.keep hk7 (by simp))
                  have R8 := Hid.mk (HRow.out.keep hk7 (by simp))
                  have K7 := Hid.mk (And.intro (HK.out.1.trans hk7) (HK.out.2.step hk7 (by simp)))
                  clear hk7 q0 q1 q2 q3 HRow HSat HK CC
                  obtain ⟨q0, q1, q2, q3⟩ := S7.out
                  go_upto_if 116 with (fail)
                  go_cut [20] (fun s wc => ∃ wd : Nat, s = .int .i64 (wd : Int) ∧ 1 ≤ wd ∧ (xx : Int) + wd ≤ W ∧ ((xx + wd) % 2 = 0 ∨ (xx : Int) + wd = W) ∧ wc = w7)
                  case first =>
                    by_cases hw : W < (xx : Int) + 2 * (1 + r1)
                    · go_wp2
                      go_meet
                      exact ⟨(W - (xx : Int)).toNat, by congr 1; omega, by omega, by omega, by omega, rfl⟩
                    · go_wp2
                      go_meet
                      exact ⟨(2 * (1 + r1)).toNat, by congr 1; omega, by omega, by omega, by omega, rfl⟩
                  case rest =>
                    obtain ⟨wd, rfl, hd1, hd2, hd3, hwc⟩ := hcut
                    obtain rfl := hwc.symm
                    have hE0 : hE W H D (t : Int) (xx : Int) (yy : Int) (wd : Int) (1 + (hi : Int)) A = 0 := by
                      unfold hE
                      rw [if_pos (shE_ok Hs.out), if_pos ⟨⟨by omega, by omega⟩, decide_eq_true ⟨⟨by omega, by omega, by omega, by omega, by omega, by omega⟩, by omega, by omega⟩⟩]
                    have CH : Hid (∀ u, Calls Try.prog 23 #[shv W H D A, .int .i64 (t : Int), rcv (xx : Int) (yy : Int) (wd : Int) (1 + (hi : Int))] u fun e w' => e = .returned (.tuple #[rcv (bX (t : Int) xx) yy (bW (t : Int) wd) (1 + (hi : Int)), .int .i64 0]) ∧ Kept [] u w') := Hid.mk (fun u => by
                      have h := halfR_any W H D (t : Int) (xx : Int) (yy : Int) (wd : Int) (1 + (hi : Int)) A u (by omega) (by omega)
                      rw [hE0, if_pos rfl] at h
                      exact h)
                    have hE := HE.out
                    obtain ⟨XN, eXN⟩ : ∃ XN : Nat, XN = pX (t : Int) xx := ⟨_, rfl⟩
                    obtain ⟨RN, eRN⟩ : ∃ RN : Nat, bW (t : Int) wd = (RN : Int) := ⟨(bW (t : Int) wd).toNat, by have : 0 ≤ bW (t : Int) (wd : Int) := (by unfold bW hf; split <;> omega); omega⟩
                    have ebX : bX (t : Int) xx = (XN : Int) := by rw [eXN]; unfold bX pX; split <;> omega
                    have hR1 : 1 ≤ RN := by have h := eRN; unfold bW hf at h; split at h <;> omega
                    have hX2 : (XN : Int) + RN ≤ x := by have h := eRN; rw [eXN, EX.out]; unfold bW hf at h; unfold pX wp hf; split at h <;> rename_i hc <;> first | (rw [if_pos hc, if_pos hc]; omega) | (rw [if_neg hc, if_neg hc]; omega)
                    have hPX : pX (t : Int) (xx + wd) = XN + RN := by have h := eRN; rw [eXN]; unfold bW hf at h; unfold pX; split at h <;> rename_i hc <;> first | (rw [if_pos hc, if_pos hc]; omega) | (rw [if_neg hc, if_neg hc]; omega)
                    rw [ebX, eRN] at CH
                    have FX := Hid.mk (And.intro eXN (And.intro hPX hE))
                    clear hE0 ebX eRN eXN hPX hE
                    go_upto_region 27 with (go_at_call 23; refine (CH.out _).mono ?_; rintro e w8 ⟨rfl, hk8⟩)
                    obtain ⟨w9, ew9⟩ : ∃ w9, w9 = w8.alloc (.cells #[.int .i64 (XN : Int), .int .i64 (yy : Int), .int .i64 (RN : Int), .int .i64 (1 + (hi : Int))] 46) := ⟨_, rfl⟩
                    have hn9 := heap_alloc_new w8 (.cells #[.int .i64 (XN : Int), .int .i64 (yy : Int), .int .i64 (RN : Int), .int .i64 (1 + (hi : Int))] 46)
                    have ka := alloc_kept w8 (.cells #[.int .i64 (XN : Int), .int .i64 (yy : Int), .int .i64 (RN : Int), .int .i64 (1 + (hi : Int))] 46)
                    rw [← ew9] at hn9 ka ⊢
                    have S9 := Hid.mk ((S7.out.keep hk8 (by simp)).keep ka (by simp))
                    have R9 : Hid (RowI w9 TB N (fun q => tm xN yy (hi + 1) XN q + ct xN XN yy RN 0 q)) := Hid.mk (((R8.out.keep hk8 (by simp)).keep ka (by simp)).congr (fun j _ => by rw [← FX.out.1, ct_zero, Int.add_zero]))
                    have K9 := Hid.mk (And.intro ((K7.out.1.trans hk8).trans ka) ((K7.out.2.step hk8 (by simp)).step ka (by simp)))
                    obtain ⟨RB, eRB⟩ : ∃ RB, RB = w8.heap.size := ⟨_, rfl⟩
                    have hRB : Hid (RB ≠ TB) := Hid.mk (by have := lt_of_block (R8.out.keep hk8 (by simp)); omega)
                    rw [← eRB] at hn9 ⊢
                    have H9 := Hid.mk hn9
                    obtain ⟨⟨z0, z1, z2, z3⟩, _⟩ := four hn9
                    obtain ⟨M, eM⟩ : ∃ M : Nat, M = RN * (hi + 1) := ⟨_, rfl⟩
                    have eM2 : (RN : Int) * (1 + (hi : Int)) = (M : Int) := by rw [eM]; push_cast; rw [Int.add_comm]
                    have hM1 : (M : Int) ≤ x * H := by
                      rw [← eM2]
                      exact Int.mul_le_mul (by omega) (by omega) (by omega) (by omega)
                    have hwr2 : IntKind.i64.wrap (M : Int) = (M : Int) := wrap_i (by omega) (by omega)
                    have EM := Hid.mk eM
                    clear hk8 ka hn9 ew9 eRB q0 q1 q2 q3 S7 R8 K7 CH eM
                    go_wp2
                    go_loopw [23] (fun s wr => ∃ j : Nat, s = .int .i64 (j : Int) ∧ j ≤ M ∧ RowI wr TB N (fun q => tm xN yy (hi + 1) XN q + ct xN XN yy RN j q) ∧ wr.heap[RB]? = some (.cells #[.int .i64 (XN : Int), .int .i64 (yy : Int), .int .i64 (RN : Int), .int .i64 (1 + (hi : Int))] 46 (0, 0)) ∧ Sat wr b W H D A ∧ Kept [] w wr ∧ Kept [TB] w5 wr) (fun s _ => M - (intOf s).toNat)
                    case atStart => exact ⟨0, rfl, by omega, R9.out, H9.out, S9.out, K9.out.1, K9.out.2⟩
                    case round =>
                      obtain ⟨j, rfl, hj, hrow, hblk, hsat, hkw, hk5⟩ := hrel
                      clear z0 z1 z2 z3
                      obtain ⟨⟨z0, z1, z2, z3⟩, _⟩ := four hblk
                      obtain ⟨q0, q1, q2, q3⟩ := hsat
                      have hsat : Sat _ b W H D A := ⟨q0, q1, q2, q3⟩
                      have HALL := Hid.mk (And.intro hrow (And.intro hblk (And.intro hsat (And.intro hkw hk5))))
                      clear hblk hsat hkw hk5
                      by_cases hjl : j < M
                      · have hqd : j / RN < hi + 1 := Nat.div_lt_of_lt_mul (by rw [← EM.out]; exact hjl)
                        have hpm : j % RN < RN := Nat.mod_lt _ (by omega)
                        obtain ⟨q, eq⟩ : ∃ q, q = j / RN := ⟨_, rfl⟩
                        obtain ⟨p, ep⟩ : ∃ p, p = j % RN := ⟨_, rfl⟩
                        have eqi : (j : Int) / (RN : Int) = (q : Int) := by rw [eq]; rfl
                        have epi : (j : Int) % (RN : Int) = (p : Int) := by rw [ep]; rfl
                        have etd : (j : Int).tdiv (RN : Int) = (q : Int) := by rw [Int.tdiv_eq_ediv_of_nonneg (by omega)]; exact eqi
                        have etm : (j : Int).tmod (RN : Int) = (p : Int) := by rw [Int.tmod_eq_emod_of_nonneg (by omega)]; exact epi
                        rw [← eq] at hqd
                        rw [← ep] at hpm
                        have hwq : IntKind.i64.wrap (q : Int) = (q : Int) := wrap_i (by omega) (by omega)
                        have hwd : IntKind.i64.wrap ((j : Int).tdiv (RN : Int)) = (q : Int) := by rw [etd]; exact hwq
                        obtain ⟨Z, eZN⟩ : ∃ Z : Nat, Z = (yy + q) * xN := ⟨_, rfl⟩
                        have eZ : ((yy : Int) + (q : Int)) * x = (Z : Int) := by rw [eZN, HE.out.1]; push_cast; rfl
                        have hxN : x = (xN : Int) := HE.out.1
                        have hNN : N = HN * xN := by
                          have h := EN.out
                          rw [HE.out.1, HE.out.2.2] at h
                          have h2 : xN * HN = N := by exact_mod_cast h
                          rw [← h2, Nat.mul_comm]
                        have hZN : Z + xN ≤ N := by
                          have h : (yy + q + 1) * xN ≤ HN * xN := Nat.mul_le_mul_right _ (by have := HE.out.2.2; omega)
                          rw [Nat.add_mul, Nat.one_mul] at h
                          omega
                        have hNb : (N : Int) ≤ 16777216 := by rw [← EN.out]; exact hb.2
                        have hwr3 : IntKind.i64.wrap (Z : Int) = (Z : Int) := wrap_i (by omega) (by omega)
                        obtain ⟨o, eo⟩ : ∃ o : Nat, o = Z + XN + p := ⟨_, rfl⟩
                        have eoi : (Z : Int) + (XN : Int) + (p : Int) = (o : Int) := by omega
                        have hoN : o < N := by omega
                        have hoi : (o : Int) < (N : Int) := by omega
                        have hcell : wr.cell? ⟨TB, o, none⟩ = some (.int .i64 (tm xN yy (hi + 1) XN o + ct xN XN yy RN j o)) := hrow.at hoN
                        have hfz := hrow.fz o
                        have hV : 0 ≤ tm xN yy (hi + 1) XN o + ct xN XN yy RN j o ∧ tm xN yy (hi + 1) XN o + ct xN XN yy RN j o ≤ 2 := by
                          unfold tm ct
                          split <;> split <;> omega
                        have HO : Hid (o = (yy + j / RN) * xN + XN + j % RN ∧ XN + RN ≤ xN) := Hid.mk ⟨by rw [eo, eZN, eq, ep], by omega⟩
                        obtain ⟨V, eV⟩ : ∃ V : Int, V = tm xN yy (hi + 1) XN o + ct xN XN yy RN j o := ⟨_, rfl⟩
                        rw [← eV] at hcell hV
                        have EV := Hid.mk eV
                        have hm0 : ((RN : Int) == 0) = false := by simp; omega
                        have hm1 : ¬ (RN : Int) = 0 := by omega
                        have hm2 : ¬ RN = 0 := by omega
                        have KW := Hid.mk ((Kept.refl [TB] wr).setCell (p := ⟨TB, o, none⟩) (.inl (by simp)) (.int .i64 (V + 1)))
                        clear hrow eq ep eZN eo eV hNN q0 q1 q2 q3 hxN
                        have hw1 : IntKind.i64.wrap ((yy : Int) + (q : Int)) = (yy : Int) + (q : Int) := wrap_i (by omega) (by omega)
                        have hw2 : IntKind.i64.wrap ((Z : Int) + (XN : Int)) = (Z : Int) + (XN : Int) := wrap_i (by omega) (by omega)
                        have hw3 : IntKind.i64.wrap (o : Int) = (o : Int) := wrap_i (by omega) (by omega)
                        have hw4 : IntKind.i64.wrap (V + 1) = V + 1 := wrap_i (by omega) (by omega)
                        have ho0 : (0 : Int) ≤ (o : Int) := by omega
                        go_wp2
                        have KD := Hid.mk (((Kept.refl [TB] wr).drew).setCell (p := ⟨TB, o, none⟩) (.inl (by simp)) (.int .i64 (V + 1)))
                        have y0 := cell_keep KD.out z0 (by simpa using hRB.out)
                        have y1' := cell_keep KD.out z1 (by simpa using hRB.out)
                        have y2' := cell_keep KD.out z2 (by simpa using hRB.out)
                        refine wp_region_held_drew (S := fun w' => w'.cell? ⟨RB, 0, none⟩ = some (.int .i64 (XN : Int)) ∧ w'.cell? ⟨RB, 1, none⟩ = some (.int .i64 (yy : Int)) ∧ w'.cell? ⟨RB, 2, none⟩ = some (.int .i64 (RN : Int))) (by kernel_rfl) ⟨z0, z1, z2⟩ (fun hHeld => ?_)
                        refine wpAnyH_take (i := 0) (v := ?_) rfl (by kernel_rfl) (by kernel_rfl) (by kernel_rfl) (fun _ _ _ h => h) (Or.inl ⟨by rfl, ?_⟩) (by assumption) ?_
                        rotate_left
                        · intro w hSw
                          try dsimp only at hSw
                          go_simp
                          all_goals with_reducible rfl
                        simp only [Act.put, List.getElem_toArray, List.getElem_cons_zero, List.setIfInBounds_toArray, List.set_cons_zero, List.set_cons_succ]
                        refine wpAnyH_take (i := 1) (v := ?_) rfl (by kernel_rfl) (by kernel_rfl) (by kernel_rfl) (fun _ _ _ h => h) (Or.inl ⟨by rfl, ?_⟩) (by assumption) ?_
                        rotate_left
                        · intro w hSw
                          try dsimp only at hSw
                          go_simp
                          all_goals with_reducible rfl
                        simp only [Act.put, List.getElem_toArray, List.getElem_cons_zero, List.getElem_cons_succ, List.setIfInBounds_toArray, List.set_cons_zero, List.set_cons_succ]
                        refine wpAnyH_take (i := 2) (v := ?_) rfl (by kernel_rfl) (by kernel_rfl) (by kernel_rfl) (fun _ _ _ h => h) (Or.inl ⟨by rfl, ?_⟩) (by assumption) ?_
                        rotate_left
                        · intro w hSw
                          try dsimp only at hSw
                          go_simp
                          all_goals with_reducible rfl
                        simp only [Act.put, List.getElem_toArray, List.getElem_cons_zero, List.getElem_cons_succ, List.setIfInBounds_toArray, List.set_cons_zero, List.set_cons_succ]
                        refine wpAnyH_take (i := 3) (v := ?_) rfl (by kernel_rfl) (by kernel_rfl) (by kernel_rfl) (fun _ _ _ h => h) (Or.inl ⟨by rfl, ?_⟩) (by assumption) ?_
                        rotate_left
                        · intro w hSw
                          try dsimp only at hSw
                          go_simp
                          all_goals with_reducible rfl
                        simp only [Act.put, List.getElem_toArray, List.getElem_cons_zero, List.getElem_cons_succ, List.setIfInBounds_toArray, List.set_cons_zero, List.set_cons_succ]
                        refine wpAnyH_take (i := 4) (v := ?_) rfl (by kernel_rfl) (by kernel_rfl) (by kernel_rfl) (fun _ _ _ h => h) (Or.inl ⟨by rfl, ?_⟩) (by assumption) ?_
                        rotate_left
                        · intro w hSw
                          try dsimp only at hSw
                          go_simp
                          all_goals with_reducible rfl
                        simp only [Act.put, List.getElem_toArray, List.getElem_cons_zero, List.getElem_cons_succ, List.setIfInBounds_toArray, List.set_cons_zero, List.set_cons_succ]
                        refine wpAnyH_take (i := 5) (v := ?_) rfl (by kernel_rfl) (by kernel_rfl) (by kernel_rfl) (fun _ _ _ h => h) (Or.inl ⟨by rfl, ?_⟩) (by assumption) ?_
                        rotate_left
                        · intro w hSw
                          try dsimp only at hSw
                          go_simp
                          all_goals with_reducible rfl
                        simp only [Act.put, List.getElem_toArray, List.getElem_cons_zero, List.getElem_cons_succ, List.setIfInBounds_toArray, List.set_cons_zero, List.set_cons_succ]
                        refine wpAnyH_take (i := 6) (v := ?_) rfl (by kernel_rfl) (by kernel_rfl) (by kernel_rfl) (fun _ _ _ h => h) (Or.inl ⟨by rfl, ?_⟩) (by assumption) ?_
                        rotate_left
                        · intro w hSw
                          try dsimp only at hSw
                          go_simp
                          all_goals with_reducible rfl
                        simp only [Act.put, List.getElem_toArray, List.getElem_cons_zero, List.getElem_cons_succ, List.setIfInBounds_toArray, List.set_cons_zero, List.set_cons_succ]
                        refine wpAnyH_take (i := 7) (v := ?_) rfl (by kernel_rfl) (by kernel_rfl) (by kernel_rfl) (fun _ _ _ h => h) (Or.inl ⟨by rfl, ?_⟩) (by assumption) ?_
                        rotate_left
                        · intro w hSw
                          try dsimp only at hSw
                          go_simp
                          all_goals with_reducible rfl
                        simp only [Act.put, List.getElem_toArray, List.getElem_cons_zero, List.getElem_cons_succ, List.setIfInBounds_toArray, List.set_cons_zero, List.set_cons_succ]
                        refine wpAnyH_take (i := 8) (v := ?_) rfl (by kernel_rfl) (by kernel_rfl) (by kernel_rfl) (fun _ _ _ h => h) (Or.inl ⟨by rfl, ?_⟩) (by assumption) ?_
                        rotate_left
                        · intro w hSw
                          try dsimp only at hSw
                          go_simp
                          all_goals with_reducible rfl
                        simp only [Act.put, List.getElem_toArray, List.getElem_cons_zero, List.getElem_cons_succ, List.setIfInBounds_toArray, List.set_cons_zero, List.set_cons_succ]
                        refine wpAnyH_take (i := 9) (v := ?_) rfl (by kernel_rfl) (by kernel_rfl) (by kernel_rfl) (fun _ _ _ h => h) (Or.inl ⟨by rfl, ?_⟩) (by assumption) ?_
                        rotate_left
                        · intro w hSw
                          try dsimp only at hSw
                          go_simp
                          all_goals with_reducible rfl
                        simp only [Act.put, List.getElem_toArray, List.getElem_cons_zero, List.getElem_cons_succ, List.setIfInBounds_toArray, List.set_cons_zero, List.set_cons_succ]
                        refine wpAnyH_take (i := 10) (v := ?_) rfl (by kernel_rfl) (by kernel_rfl) (by kernel_rfl) (fun _ _ _ h => h) (Or.inl ⟨by rfl, ?_⟩) (by assumption) ?_
                        rotate_left
                        · intro w hSw
                          try dsimp only at hSw
                          go_simp
                          all_goals with_reducible rfl
                        simp only [Act.put, List.getElem_toArray, List.getElem_cons_zero, List.getElem_cons_succ, List.setIfInBounds_toArray, List.set_cons_zero, List.set_cons_succ]
                        refine wpAnyH_take (i := 11) (v := ?_) rfl (by kernel_rfl) (by kernel_rfl) (by kernel_rfl) (fun _ _ _ h => h) (Or.inl ⟨by rfl, ?_⟩) (by assumption) ?_
                        rotate_left
                        · intro w hSw
                          try dsimp only at hSw
                          go_simp
                          all_goals with_reducible rfl
                        simp only [Act.put, List.getElem_toArray, List.getElem_cons_zero, List.getElem_cons_succ, List.setIfInBounds_toArray, List.set_cons_zero, List.set_cons_succ]
                        refine wpAnyH_take (i := 12) (v := ?_) rfl (by kernel_rfl) (by kernel_rfl) (by kernel_rfl) (fun _ _ _ h => h) (Or.inl ⟨by rfl, ?_⟩) (by assumption) ?_
                        rotate_left
                        · intro w hSw
                          try dsimp only at hSw
                          go_simp
                          all_goals with_reducible rfl
                        simp only [Act.put, List.getElem_toArray, List.getElem_cons_zero, List.getElem_cons_succ, List.setIfInBounds_toArray, List.set_cons_zero, List.set_cons_succ]
                        refine wpAnyH_take (i := 13) (v := ?_) rfl (by kernel_rfl) (by kernel_rfl) (by kernel_rfl) (fun _ _ _ h => h) (Or.inl ⟨by rfl, ?_⟩) (by assumption) ?_
                        rotate_left
                        · intro w hSw
                          try dsimp only at hSw
                          go_simp
                          all_goals with_reducible rfl
                        simp only [Act.put, List.getElem_toArray, List.getElem_cons_zero, List.getElem_cons_succ, List.setIfInBounds_toArray, List.set_cons_zero, List.set_cons_succ]
                        refine wpAnyH_take (i := 14) (v := ?_) rfl (by kernel_rfl) (by kernel_rfl) (by kernel_rfl) (fun _ _ _ h => h) (Or.inl ⟨by rfl, ?_⟩) (by assumption) ?_
                        rotate_left
                        · intro w hSw
                          try dsimp only at hSw
                          go_simp
                          all_goals with_reducible rfl
                        simp only [Act.put, List.getElem_toArray, List.getElem_cons_zero, List.getElem_cons_succ, List.setIfInBounds_toArray, List.set_cons_zero, List.set_cons_succ]
                        refine wpAnyH_take (i := 15) (v := ?_) rfl (by kernel_rfl) (by kernel_rfl) (by kernel_rfl) (fun _ _ _ h => h) (Or.inl ⟨by rfl, ?_⟩) (by assumption) ?_
                        rotate_left
                        · intro w hSw
                          try dsimp only at hSw
                          go_simp
                          all_goals with_reducible rfl
                        simp only [Act.put, List.getElem_toArray, List.getElem_cons_zero, List.getElem_cons_succ, List.setIfInBounds_toArray, List.set_cons_zero, List.set_cons_succ]
                        refine wpAnyH_take (i := 16) (v := ?_) rfl (by kernel_rfl) (by kernel_rfl) (by kernel_rfl) (fun _ _ _ h => h) (Or.inl ⟨by rfl, ?_⟩) (by assumption) ?_
                        rotate_left
                        · intro w hSw
                          try dsimp only at hSw
                          go_simp
                          all_goals with_reducible rfl
                        simp only [Act.put, List.getElem_toArray, List.getElem_cons_zero, List.getElem_cons_succ, List.setIfInBounds_toArray, List.set_cons_zero, List.set_cons_succ]
                        refine wpAnyH_take (i := 17) (v := ?_) rfl (by kernel_rfl) (by kernel_rfl) (by kernel_rfl) (fun _ _ _ h => h) (Or.inl ⟨by rfl, ?_⟩) (by assumption) ?_
                        rotate_left
                        · intro w hSw
                          try dsimp only at hSw
                          go_simp
                          all_goals with_reducible rfl
                        simp only [Act.put, List.getElem_toArray, List.getElem_cons_zero, List.getElem_cons_succ, List.setIfInBounds_toArray, List.set_cons_zero, List.set_cons_succ]
                        refine wpAnyH_take (i := 18) (v := ?_) rfl (by kernel_rfl) (by kernel_rfl) (by kernel_rfl) (fun _ _ _ h => h) (Or.inl ⟨by rfl, ?_⟩) (by assumption) ?_
                        rotate_left
                        · intro w hSw
                          try dsimp only at hSw
                          go_simp
                          all_goals with_reducible rfl
                        simp only [Act.put, List.getElem_toArray, List.getElem_cons_zero, List.getElem_cons_succ, List.setIfInBounds_toArray, List.set_cons_zero, List.set_cons_succ]
                        refine wpAnyH_ready (rs := [19]) (by kernel_rfl) (by simp) ?_
                        refine AllReadyH.cons rfl (fun K9 hK9 => ?_) AllReadyH.nil
                        go_simp
                        refine hK9.out _ _ ⟨z0, z1, z2⟩ (fun hHeld2 => ?_)
                        clear hK9 K9
                        refine wpAnyH_take (i := 20) (v := ?_) rfl (by kernel_rfl) (by kernel_rfl) (by kernel_rfl) (fun _ _ _ h => h) (Or.inl ⟨by rfl, ?_⟩) (by assumption) ?_
                        rotate_left
                        · intro w hSw
                          try dsimp only at hSw
                          go_simp
                          all_goals with_reducible rfl
                        simp only [Act.put, List.getElem_toArray, List.getElem_cons_zero, List.getElem_cons_succ, List.setIfInBounds_toArray, List.set_cons_zero, List.set_cons_succ]
                        refine wpAnyH_take (i := 21) (v := ?_) rfl (by kernel_rfl) (by kernel_rfl) (by kernel_rfl) (fun _ _ _ h => h) (Or.inl ⟨by rfl, ?_⟩) (by assumption) ?_
                        rotate_left
                        · intro w hSw
                          try dsimp only at hSw
                          go_simp
                          all_goals with_reducible rfl
                        simp only [Act.put, List.getElem_toArray, List.getElem_cons_zero, List.getElem_cons_succ, List.setIfInBounds_toArray, List.set_cons_zero, List.set_cons_succ]
                        refine wpAnyH_ready (rs := [22]) (by kernel_rfl) (by simp) ?_
                        refine AllReadyH.cons rfl (fun K9 hK9 => ?_) AllReadyH.nil
                        go_simp
                        refine hK9.out _ _ ⟨y0, y1', y2'⟩ (fun hHeld2 => ?_)
                        clear hK9 K9
                        refine wpAnyH_done (by kernel_rfl) ?_ _
                        all_goals go_wp2
                        all_goals refine ⟨⟨j + 1, by congr 1, by omega, ?_, KW.out.drew.heap HALL.out.2.1 (by simpa using hRB.out), HALL.out.2.2.1.keep KW.out.drew (by simpa using hTB.out.2), (HALL.out.2.2.2.1.setCell (.inr hTB.out.1) _).drew, (HALL.out.2.2.2.2.setCell (.inl (by simp)) _).drew⟩, by simp only [intOf]; omega⟩
                        all_goals refine RowI.congr (show RowI (wr.setCell ⟨TB, o, none⟩ (.int .i64 (V + 1))).drew TB N _ from HALL.out.1.set (i := o) (v := V + 1)) (fun q' _ => ?_)
                        all_goals rw [ct_step xN XN yy RN j q' o HO.out.2 hR1 HO.out.1]
                        all_goals show (if q' = o then V + 1 else tm xN yy (hi + 1) XN q' + ct xN XN yy RN j q') = tm xN yy (hi + 1) XN q' + (if q' = o then ct xN XN yy RN j q' + 1 else ct xN XN yy RN j q')
                        all_goals by_cases h : q' = o
                        all_goals first | (rw [if_neg h, if_neg h]) | (rw [if_pos h, if_pos h, EV.out, h]; omega)
                      · obtain rfl : M = j := by omega
                        clear hrow
                        go_wp2
                        refine ⟨⟨xx + wd, by congr 1, by omega, by omega, ?_, HALL.out.2.2.1, HALL.out.2.2.2.1, HALL.out.2.2.2.2⟩, ?_⟩
                        · exact HALL.out.1.congr (fun q _ => by rw [FX.out.2.1, EM.out]; exact tm_ct xN yy (hi + 1) XN RN q hR1)
                        · simp only [intOf]; omega
                · have hxe : (xx : Int) = W := by omega
                  go_wp2
                  refine ⟨⟨v + 1, yy + (hi + 1), by congr 1, by congr 1; omega, by omega, by omega, ?_, HSat.out, HK.out.1, HK.out.2⟩, ?_⟩
                  · refine HRow.out.congr (fun q _ => ?_)
                    have hpx : pX (t : Int) xx = xN := by
                      have h1 := EX.out
                      have h2 := HE.out.1
                      unfold wp hf at h1
                      unfold pX
                      split at h1 <;> rename_i hc <;> first | (rw [if_pos hc]; omega) | (rw [if_neg hc]; omega)
                    rw [hpx]
                    exact tm_full xN yy (hi + 1) q (by have := HE.out.1; omega)
                  · simp only [intOf]; omega
            · have hye : (yy : Int) = H := by omega
              have hN2 : N = HN * xN := by
                have h := EN.out
                rw [HE.out.1, HE.out.2.2] at h
                have h2 : xN * HN = N := by exact_mod_cast h
                rw [← h2, Nat.mul_comm]
              have hNb : (N : Int) ≤ 16777216 := by rw [← EN.out]; exact hb.2
              have HR2 := Hid.mk (HRow.out.congr (f' := fun _ => 1) (fun j hj => by
                unfold tm
                rw [if_pos]
                left
                apply Nat.div_lt_of_lt_mul
                have h3 : HN = yy := by have := HE.out.2.2; omega
                rw [← h3, Nat.mul_comm]
                omega))
              clear hN2
              go_wp2
              go_loopw [24] (fun s wx => ∃ j : Nat, s = .int .i64 (j : Int) ∧ j ≤ N ∧ wx = wr) (fun s _ => N - (intOf s).toNat)
              case atStart => exact ⟨0, rfl, by omega, rfl⟩
              case round =>
                obtain ⟨j, rfl, hj, hwx⟩ := hrel
                obtain rfl := hwx.symm
                by_cases hjl : j < N
                · have hcell := HR2.out.at hjl
                  have hji : (j : Int) < (N : Int) := by omega
                  go_wp2
                  exact ⟨⟨j + 1, by congr 1, by omega, trivial⟩, by simp only [intOf]; omega⟩
                · obtain rfl : N = j := by omega
                  go_wp2
                  exact ⟨⟨t + 1, by omega, by congr 1, HSat.out, HK.out.1⟩, by simp only [intOf]; omega⟩
        · have hA : A = false := by
            cases A with
            | false => rfl
            | true => exfalso; apply hp; show t < 4; omega
          subst hA
          obtain rfl : 3 = t := by
            have : ¬ t < 3 := hp
            omega
          have hs := Hs.out
          have hz : szE W H D ((3 : Nat) : Int) false ≠ 0 := by
            unfold szE
            rw [if_pos (shE_ok hs), if_neg (by simp [np])]
            decide
          have D2 : Hid (∀ u, Calls Try.prog 15 #[shv W H D false, .int .i64 ((3 : Nat) : Int)] u fun e w' => e = .returned (.tuple #[.int .i64 0, .int .i64 0, .int .i64 (szE W H D ((3 : Nat) : Int) false)]) ∧ Kept [] u w') := Hid.mk (fun u => by
            have h := CZ.out u 3
            rw [if_neg hz, if_neg hz] at h
            exact h)
          obtain ⟨E0, eE⟩ : ∃ E0, E0 = szE W H D ((3 : Nat) : Int) false := ⟨_, rfl⟩
          rw [← eE] at hz D2
          clear eE hs CZ
          go_wp2_with (go_at_call 15; refine (D2.out _).mono ?_; rintro e w4 ⟨rfl, hk4⟩; obtain ⟨r0, r1, r2, r3⟩ := S4.out.keep hk4 (by simp))
          exact ⟨⟨4, by omega, rfl, S4.out.keep hk4 (by simp), Hkr.out.trans hk4⟩, by first | decide | (simp only [intOf]; omega)⟩
      · obtain rfl : 4 = t := by omega
        go_wp2
        go_ret
        exact ⟨rfl, Hkr.out⟩
  · rw [e1] at CS
    clear e1 h1 hc hf hr hg
    go_enter Try.func5, Try.ntmps5
    go_wp2_with (first | (go_at_call 8; rw [← EW.out]; refine (C1.out _).mono ?_; rintro e w2 ⟨rfl, hk2⟩; obtain ⟨c0, c1, c2, c3⟩ := S0.out.keep hk2 (by simp)) | (go_at_call 21; refine (CS.out _).mono ?_; rintro e w3 ⟨rfl, hk3⟩))
    go_ret
    exact ⟨rfl, K0.out.trans (hk2.trans hk3)⟩
end Go.Proofs.Ythihennifigchab
