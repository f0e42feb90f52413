import Derived.Test.YthihennifigchabC3
import Derived.Test.YthihennifigchabB6
namespace Go.Proofs.Ythihennifigchab
open Go.RowKit

theorem same_yes2 {W H D : Int} {A : Bool} {po qo : Option Addr} {n c d : Nat} {ln lm : Nat → Nat} {F G : Nat → Nat → Nat} {w : World} (hr : Pl w po n ln F) (hs : Pl w qo n lm G) (hv : Vld W H D A n lm G) (hl : ∀ i, i < n → ln i = lm i) (h : ∀ i, i < n → ∀ j, j < lm i → F i j = G i j) :
    Calls Try.prog 19 #[frv W H D A po n c, frv W H D A qo n d] w fun e w' => e = .returned (.bool true) ∧ Kept [] w w' := by
  have e := same_any W H D A po qo n c n d ln lm F G w hr hs rfl (vld_num hv) (fun i hi => by rw [hl i hi]; exact vld_len hv i hi) (vld_len hv)
  rwa [alF_yes (fun i hi => by rw [hl i hi]; exact eqL_yes (h i hi))] at e
theorem vld_pz {W H D : Int} {A : Bool} {n : Nat} {ln : Nat → Nat} {F : Nat → Nat → Nat} (hv : Vld W H D A n ln F) : ∀ i, i < n → pz W H i = ln i := fun i hi => by
  have h1 := hv.len i hi
  have h2 := wpH (i : Int) hv.shp.1.1 hv.shp.1.2 hv.shp.2.1.1 hv.shp.2.1.2
  show (wp W (i : Int) * H).toNat = _
  omega
/-- A frame with a block in it may be. -/
theorem ps_vld {W H D : Int} {A : Bool} {n p wN X Y bw bh : Nat} {ln : Nat → Nat} {F : Nat → Nat → Nat} {bf : Nat → Nat} (hv : Vld W H D A n ln F) (hbf : ∀ i, i < bw * bh → bf i ≤ mx D) : Vld W H D A n (pz W H) (psF F p bf wN X Y bw bh) := by
  refine ⟨hv.shp, hv.num, fun i hi => by rw [vld_pz hv i hi]; exact hv.len i hi, fun i hi j hj => ?_⟩
  rw [vld_pz hv i hi] at hj
  unfold psF
  by_cases e : i = p
  · rw [if_pos e]
    subst e
    unfold psR
    split
    · rename_i h
      apply hbf
      have h2 : (j / wN - Y + 1) * bw ≤ bh * bw := Nat.mul_le_mul_right _ (by omega)
      rw [Nat.add_mul, Nat.one_mul, Nat.mul_comm bh bw] at h2
      omega
    · exact hv.top i hi j hj
  · rw [if_neg e]
    exact hv.top i hi j hj

/-- What is cut out of a plane keeps to the depth. -/
theorem crp_top {W H D : Int} {A : Bool} {n p X Y rw rh : Nat} {ln : Nat → Nat} {F : Nat → Nat → Nat} (hv : Vld W H D A n ln F) (hp : p < n) (h1 : 1 ≤ rw) (h3 : (X : Int) + rw ≤ wp W p) (h4 : (Y : Int) + rh ≤ H) : ∀ i, i < rw * rh → crp (F p) (wp W (p : Int)).toNat X Y rw i ≤ mx D := fun i hi => by
  refine hv.top p hp _ ?_
  have hl := hv.len p hp
  have wl := wp_lo (p : Int) hv.shp.1.1
  have hs2 := hv.shp.2.1
  have hh := crp_lt (wd := (wp W (p : Int)).toNat) (ht := H.toNat) (X := X) (Y := Y) (rw := rw) (rh := rh) (j := i) (by omega) (by omega) h1 hi
  have e2 : ln p = (wp W (p : Int)).toNat * H.toNat := by
    have : (ln p : Int).toNat = (wp W (p : Int) * H).toNat := by rw [hl]
    rw [Int.toNat_mul (by omega) (by omega)] at this
    omega
  rw [e2]
  exact hh

set_option maxHeartbeats 32000000 in
set_option maxRecDepth 1000000 in
theorem back_any (W H D : Int) (A : Bool) (po : Option Addr) (n c : Nat) (ln : Nat → Nat) (F : Nat → Nat → Nat) (u x y bw bh : Int) (so : Option Addr) (m k : Nat) (bf : Nat → Nat) (w : World) (hr : Pc w po n ln F) (hn : n ≤ 9223372036854775807) (hln : ∀ i, i < n → ln i ≤ 9223372036854775807) (hF : ∀ i, i < n → ∀ j, j < ln i → F i j < 65536)
    (hu : -9223372036854775808 ≤ u ∧ u ≤ 9223372036854775807) (hx : -9223372036854775808 ≤ x ∧ x ≤ 9223372036854775807) (hy : -9223372036854775808 ≤ y ∧ y ≤ 9223372036854775807) (hs : Rd w so m bf) (hmk : m ≤ k) (hmx : m ≤ 9223372036854775807) :
    Calls Try.prog 4 #[frv W H D A po n c, atv u x y, blv bw bh so m k] w fun e w' => e = .returned (.bool true) ∧ Kept [] w w' := by
  have C1 := Hid.mk shown_any
  have CV := Hid.mk (fun u (hk : Kept [] w u) => rvalid_any W H D A po n c ln F u (hr.keep hk).pl hn hln hF)
  have N := ent533 w (.int .i64 W) (.int .i64 H) (.int .i64 D) (.bool A) (.slice po n c) (.int .i64 u) (.int .i64 x) (.int .i64 y) (.int .i64 bw) (.int .i64 bh) (.slice so m k) 26 36 39
  obtain ⟨w1, ew1⟩ : ∃ w1, w1 = ((w.alloc (.cells #[.int .i64 W, .int .i64 H, .int .i64 D, .bool A, .slice po n c] 26 (0, 0))).alloc (.cells #[.int .i64 u, .int .i64 x, .int .i64 y] 36 (0, 0))).alloc (.cells #[.int .i64 bw, .int .i64 bh, .slice so m k] 39 (0, 0)) := ⟨_, rfl⟩
  rw [← ew1] at N
  have HN := Hid.mk N
  have EW := Hid.mk ew1
  clear N ew1
  by_cases hz : vE W H D A n ln F = 0
  · have hv := vE_zero.1 hz
    rw [hz] at CV
    have hsh := hv.shp
    have hn3 : 1 ≤ n := by rw [hv.num]; exact Nat.le_trans (by decide) (np_lo A)
    have hn4 : n ≤ 4 := by rw [hv.num]; exact np_hi A
    have CL := Hid.mk (fun v => place_any u (n : Int) v hu (by omega) (by omega))
    have pl1 := plc_lo u (n := (n : Int)) (by omega)
    have pl2 := plc_hi u (n := (n : Int)) (by omega)
    obtain ⟨p, ep⟩ : ∃ p : Nat, plc u (n : Int) = (p : Int) := ⟨(plc u (n : Int)).toNat, by omega⟩
    rw [ep] at CL pl1 pl2
    have hp : p < n := by omega
    have CZ := Hid.mk (fun v => size_any W H D p A v)
    rw [show szE W H D p A = 0 by unfold szE; rw [if_pos (shE_ok hsh), if_pos (by rw [← hv.num]; omega)], if_pos rfl, if_pos rfl] at CZ
    have wl := wp_lo (p : Int) hsh.1.1
    have wh := wp_hi (p : Int) hsh.1.1
    have CP := Hid.mk (fun v => lpart_any (wp W (p : Int)) H x y v ⟨wl, by have := hsh.1; omega⟩ hsh.2.1 hx hy)
    have hH1 : 1 ≤ H := hsh.2.1.1
    have HR := Hid.mk hr
    have Hv := Hid.mk hv
    have Hs := Hid.mk hs
    have Hmk := Hid.mk hmk
    obtain ⟨wP, ewP⟩ : ∃ v, v = wp W (p : Int) := ⟨_, rfl⟩
    rw [← ewP] at CZ CP wl wh
    have EWP := Hid.mk ewP
    clear hr hln hF hz hv hs hmk ep ewP hsh
    go_enter Try.func4, Try.ntmps4
    go_wp2_with (first | (go_at_call 8; rw [← EW.out]; refine (C1.out _).mono ?_; rintro e w2 ⟨rfl, hk2⟩; obtain ⟨⟨c0, c1, c2, c3, c4⟩, _⟩ := five (hk2.heap HN.out.1 (by simp))) | (go_at_call 13; refine (CV.out _ (HN.out.2.2.2.trans hk2)).mono ?_; rintro e w3 ⟨rfl, hk3⟩; obtain ⟨⟨d0, d1, d2, d3, d4⟩, _⟩ := five ((hk2.trans hk3).heap HN.out.1 (by simp)); obtain ⟨o0, o1, o2⟩ := tri ((hk2.trans hk3).heap HN.out.2.1 (by simp))))
    refine (CL.out _).mono ?_
    rintro e w3' ⟨rfl, hw⟩
    obtain rfl := hw.symm
    go_wp2_with (fail)
    refine (CZ.out _).mono ?_
    rintro e w4 ⟨rfl, hk4⟩
    obtain ⟨a0, a1, a2⟩ := tri (((hk2.trans hk3).trans hk4).heap HN.out.2.1 (by simp))
    go_wp2_with (fail)
    refine (CP.out _).mono ?_
    rintro e w5 ⟨X0, Y0, rw0, rh0, rfl, hXr, hYr, hk5⟩
    obtain ⟨X, rfl⟩ : ∃ v : Nat, X0 = (v : Int) := ⟨X0.toNat, by omega⟩
    obtain ⟨Y, rfl⟩ : ∃ v : Nat, Y0 = (v : Int) := ⟨Y0.toNat, by omega⟩
    obtain ⟨rw, rfl⟩ : ∃ v : Nat, rw0 = (v : Int) := ⟨rw0.toNat, by omega⟩
    obtain ⟨rh, rfl⟩ : ∃ v : Nat, rh0 = (v : Int) := ⟨rh0.toNat, by omega⟩
    have g1 : 1 ≤ rw := by omega
    have g2 : 1 ≤ rh := by omega
    have G3 : Hid ((X : Int) + rw ≤ wp W (p : Int)) := Hid.mk (by rw [← EWP.out]; omega)
    have G4 : Hid ((Y : Int) + rh ≤ H) := Hid.mk (by omega)
    have K15 := (((hk2.trans hk3).trans hk4).trans hk5)
    have K5 := Hid.mk (HN.out.2.2.2.trans K15)
    have HN5 := Hid.mk (And.intro (K15.heap HN.out.1 (by simp)) (K15.heap HN.out.2.2.1 (by simp)))
    clear hk2 hk3 hk4 hk5 K15 c0 c1 c2 c3 c4 d0 d1 d2 d3 d4 o0 o1 o2 a0 a1 a2 C1 CV CL CZ CP EW HN
    obtain ⟨⟨c0, c1, c2, c3, c4⟩, _⟩ := five HN5.out.1
    have l5 := lt_of_block HN5.out.1
    obtain ⟨b, eb⟩ : ∃ b, b = w.heap.size := ⟨_, rfl⟩
    rw [← eb] at HN5 c0 c1 c2 c3 c4 l5 ⊢
    clear eb
    go_wp2_with (fail)
    refine (crop_yes W H D A po n c ln F p X Y rw rh _ (HR.out.keep (K5.out.alloc _)) Hv.out hp g1 g2 G3.out G4.out).mono ?_
    rintro e w6 ⟨cb, rfl, hrow6, hcb, hk6⟩
    have K56 := (alloc_kept w5 (.cells #[.int .i64 (X : Int), .int .i64 (Y : Int), .int .i64 (rw : Int), .int .i64 (rh : Int)] 46 (0, 0))).trans hk6
    have K6 := Hid.mk (K5.out.trans K56)
    have HN6 := Hid.mk (And.intro (K56.heap HN5.out.1 (by simp)) (And.intro (K56.heap HN5.out.2 (by simp)) (hk6.heap (heap_alloc_new w5 _) (by simp))))
    clear c0 c1 c2 c3 c4 l5 hk6 K56
    obtain ⟨⟨c0, c1, c2, c3, c4⟩, _⟩ := five HN6.out.1
    obtain ⟨⟨r0, r1, r2, r3⟩, _⟩ := four HN6.out.2.2
    have l6 := lt_of_block HN6.out.1
    have l6' := lt_of_block HN6.out.2.2
    obtain ⟨B, eB⟩ : ∃ B, B = w5.heap.size := ⟨_, rfl⟩
    rw [← eB] at HN6 r0 r1 r2 r3 l6' ⊢
    clear eB
    have HR6 := Hid.mk hrow6
    clear hrow6
    go_wp2_with (fail)
    refine (paste_yes W H D A po n c ln F p X Y rw rh (some ⟨cb, 0, none⟩) (rw * rh) (rw * rh) (crp (F p) (wp W (p : Int)).toNat X Y rw) _ (HR.out.keep (K6.out.alloc _)) Hv.out ((HR6.out.keep (alloc_kept w6 _) (by simp)).rd) (Nat.le_refl _) rfl (crp_top Hv.out hp g1 G3.out G4.out) hp g1 g2 G3.out G4.out).mono ?_
    rintro e w7 ⟨gp, bsp, rfl, hMp⟩
    have K67 := (alloc_kept w6 (.cells #[.int .i64 (rw : Int), .int .i64 (rh : Int), .slice (some ⟨cb, 0, none⟩) (rw * rh) (rw * rh)] 39 (0, 0))).trans hMp.kept
    have K7 := Hid.mk (K6.out.trans K67)
    have HN7 := Hid.mk (And.intro (K67.heap HN6.out.1 (by simp)) (And.intro (K67.heap HN6.out.2.1 (by simp)) (K67.heap HN6.out.2.2 (by simp))))
    clear c0 c1 c2 c3 c4 r0 r1 r2 r3 l6 l6' K67
    obtain ⟨⟨c0, c1, c2, c3, c4⟩, _⟩ := five HN7.out.1
    have l7 := lt_of_block HN7.out.1
    have MP := Hid.mk hMp
    clear hMp
    go_wp2_with (fail)
    refine (same_yes2 (MP.out.keep (alloc_kept w7 _)).pl (HR.out.keep (K7.out.alloc _)).pl Hv.out (vld_pz Hv.out) (fun i _ j _ => by
      unfold psF
      by_cases e : i = p
      · rw [if_pos e, e, ps_crp _ _ _ _ _ _ _ g1]
      · rw [if_neg e])).mono ?_
    rintro e w8 ⟨rfl, hk8⟩
    have K78 := (alloc_kept w7 (.cells #[.int .i64 W, .int .i64 H, .int .i64 D, .bool A, .slice (some ⟨gp, 0, none⟩) n n] 26 (0, 0))).trans hk8
    have K8 := Hid.mk (K7.out.trans K78)
    have HN8 := Hid.mk (And.intro (K78.heap HN7.out.1 (by simp)) (And.intro (K78.heap HN7.out.2.1 (by simp)) (K78.heap HN7.out.2.2 (by simp))))
    clear c0 c1 c2 c3 c4 l7 K78 hk8
    obtain ⟨⟨c0, c1, c2, c3, c4⟩, _⟩ := five HN8.out.1
    obtain ⟨t0, t1, t2⟩ := tri HN8.out.2.1
    obtain ⟨⟨r0, r1, r2, r3⟩, _⟩ := four HN8.out.2.2
    go_wp2_with (fail)
    by_cases hyes : lie (X : Int) (Y : Int) bw bh (wp W (p : Int)) H = true ∧ (m : Int) = bw * bh ∧ ∀ i, i < m → bf i ≤ mx D
    · have hd := of_decide_eq_true hyes.1
      obtain ⟨bW', rfl⟩ : ∃ v : Nat, bw = (v : Int) := ⟨bw.toNat, by omega⟩
      obtain ⟨bH', rfl⟩ : ∃ v : Nat, bh = (v : Int) := ⟨bh.toNat, by omega⟩
      have hmm : m = bW' * bH' := by have := hyes.2.1; exact_mod_cast this
      have k1 : 1 ≤ bW' := by omega
      have k2 : 1 ≤ bH' := by omega
      have HD := Hid.mk (And.intro (show (X : Int) + bW' ≤ wp W (p : Int) by omega) (And.intro (show (Y : Int) + bH' ≤ H by omega) hyes.2.2))
      have HM := Hid.mk hmm
      clear hyes hd hmm
      refine (paste_yes W H D A po n c ln F p X Y bW' bH' so m k bf _ (HR.out.keep K8.out) Hv.out (Hs.out.keep K8.out) Hmk.out HM.out HD.out.2.2 hp k1 k2 HD.out.1 HD.out.2.1).mono ?_
      rintro e w9 ⟨gq, bsq, rfl, hMq⟩
      have K9 := Hid.mk (K8.out.trans hMq.kept)
      have HN9 := Hid.mk (And.intro (hMq.kept.heap HN8.out.2.1 (by simp)) (hMq.kept.heap HN8.out.2.2 (by simp)))
      have MQ := Hid.mk hMq
      clear hMq c0 c1 c2 c3 c4 t0 t1 t2 r0 r1 r2 r3
      obtain ⟨t0, t1, t2⟩ := tri HN9.out.1
      obtain ⟨⟨r0, r1, r2, r3⟩, _⟩ := four HN9.out.2
      have l9 := lt_of_block HN9.out.1
      have l9' := lt_of_block HN9.out.2
      go_wp2_with (fail)
      have hmx' : ∀ i, i < bW' * bH' → bf i ≤ mx D := fun i hi => HD.out.2.2 i (by rw [HM.out]; exact hi)
      refine (crop_yes W H D A (some ⟨gq, 0, none⟩) n n (pz W H) (psF F p bf (wp W (p : Int)).toNat X Y bW' bH') p X Y bW' bH' _ (MQ.out.keep (alloc_kept w9 _)).pc (ps_vld Hv.out hmx') hp k1 k2 HD.out.1 HD.out.2.1).mono ?_
      rintro e w10 ⟨db, rfl, hrow10, _, hk10⟩
      have K910 := (alloc_kept w9 (.cells #[.int .i64 W, .int .i64 H, .int .i64 D, .bool A, .slice (some ⟨gq, 0, none⟩) n n] 26 (0, 0))).trans hk10
      have K10 := Hid.mk (K9.out.trans K910)
      have HN10 := Hid.mk (K910.heap HN9.out.1 (by simp))
      clear t0 t1 t2 r0 r1 r2 r3 l9 l9' hmx' hk10 K910
      obtain ⟨t0, t1, t2⟩ := tri HN10.out
      have l10 := lt_of_block HN10.out
      have HR10 := Hid.mk hrow10
      clear hrow10
      go_wp2_with (fail)
      have hcl := Hid.mk (sameBlock_yes (bW' : Int) (bH' : Int) (some ⟨db, 0, none⟩) so (bW' * bH') (bW' * bH') k (crp (psF F p bf (wp W (p : Int)).toNat X Y bW' bH' p) (wp W (p : Int)).toNat X Y bW') bf (w10.alloc (.cells #[.int .i64 (bW' : Int), .int .i64 (bH' : Int), .slice (some ⟨db, 0, none⟩) (bW' * bH') (bW' * bH')] 39 (0, 0))) ((HR10.out.keep (alloc_kept w10 _) (by simp)).rd) (by rw [← HM.out]; exact Hs.out.keep (K10.out.alloc _)) (by rw [← HM.out]; exact hmx) (fun i hi => by
        have e : psF F p bf (wp W (p : Int)).toNat X Y bW' bH' p = psR (F p) bf (wp W (p : Int)).toNat X Y bW' bH' := if_pos rfl
        rw [e]
        exact crp_ps (F p) bf (wp W (p : Int)).toNat X Y bW' bH' i (by have := HD.out.1; omega) k1 hi))
      rw [← HM.out] at hcl
      rw [← HM.out]
      refine hcl.out.mono ?_
      rintro e w11 ⟨rfl, hk11⟩
      go_wp2
      go_ret
      exact ⟨rfl, (K10.out.alloc _).trans hk11⟩
    · refine (paste_no W H D A po n c ln F p X Y bw bh so m k bf _ (HR.out.keep K8.out) Hv.out (Hs.out.keep K8.out) hmx hp (by have := Hv.out.shp.1; omega) (by have := Hv.out.shp.2.1; omega) hyes).mono ?_
      rintro e w9 ⟨ee, rfl, hee, hk9⟩
      have hee' : (ee != 0) = true := by simpa using hee
      clear hyes c0 c1 c2 c3 c4 t0 t1 t2 r0 r1 r2 r3
      go_wp2_with (fail)
      go_ret
      exact ⟨rfl, (K8.out.trans hk9).alloc _⟩
  · have hne : (vE W H D A n ln F != 0) = true := by simpa using hz
    obtain ⟨v, ex⟩ : ∃ v, v = vE W H D A n ln F := ⟨_, rfl⟩
    rw [← ex] at CV hne
    clear hz ex hr hln hF hs
    go_enter Try.func4, Try.ntmps4
    go_wp2_with (first | (go_at_call 8; rw [← EW.out]; refine (C1.out _).mono ?_; rintro e w2 ⟨rfl, hk2⟩; obtain ⟨⟨c0, c1, c2, c3, c4⟩, _⟩ := five (hk2.heap HN.out.1 (by simp))) | (go_at_call 13; refine (CV.out _ (HN.out.2.2.2.trans hk2)).mono ?_; rintro e w3 ⟨rfl, hk3⟩))
    go_ret
    exact ⟨rfl, (HN.out.2.2.2.trans hk2).trans hk3⟩
end Go.Proofs.Ythihennifigchab
