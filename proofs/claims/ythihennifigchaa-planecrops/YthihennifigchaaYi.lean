import Derived.Test.YthihennifigchaaYb
import Derived.Test.YthihennifigchaaXkZ
namespace Go.Proofs.Ythihennifigchaa
open Go.RowKit

/-- Crop's error. -/
def crE (W H D p X Y rw rh : Int) (A : Bool) (n : Nat) (ln : Nat → Nat) (F : Nat → Nat → Nat) : Int := if vE W H D A n ln F = 0 then (if inP W H A p X Y rw rh = true then 0 else 65) else vE W H D A n ln F

set_option maxHeartbeats 8000000 in
set_option maxRecDepth 1000000 in
theorem crop_no (W H D p X Y rw rh : Int) (A : Bool) (po : Option Addr) (n c : Nat) (ln : Nat → Nat) (F : Nat → Nat → Nat) (w : World) (hr : Pc w po n ln F) (hn : n ≤ 9223372036854775807) (hln : ∀ i, i < n → ln i ≤ 9223372036854775807) (hX : -9223372036854775808 ≤ X ∧ X ≤ 9223372036854775807) (hY : -9223372036854775808 ≤ Y ∧ Y ≤ 9223372036854775807) (hE : crE W H D p X Y rw rh A n ln F ≠ 0) :
    Calls Try.prog 26 #[frv W H D A po n c, .int .i64 p, rcv X Y rw rh] w fun e w' => e = .returned (.tuple #[blv 0 0 none 0 0, .int .i64 (crE W H D p X Y rw rh A n ln F)]) ∧ Kept [] w w' := by
  have CV := Hid.mk (fun u (hk : Kept [] w u) => valid_any W H D A po n c ln F u (hr.keep hk).pl hn hln)
  have N := ent543 w (.int .i64 W) (.int .i64 H) (.int .i64 D) (.bool A) (.slice po n c) (.int .i64 X) (.int .i64 Y) (.int .i64 rw) (.int .i64 rh) (.int .i64 0) (.int .i64 0) (.slice none 0 0) 38 51 54
  obtain ⟨w1, ew1⟩ : ∃ w1, w1 = ((w.alloc (.cells #[.int .i64 W, .int .i64 H, .int .i64 D, .bool A, .slice po n c] 38 (0, 0))).alloc (.cells #[.int .i64 X, .int .i64 Y, .int .i64 rw, .int .i64 rh] 51 (0, 0))).alloc (.cells #[.int .i64 0, .int .i64 0, .slice none 0 0] 54 (0, 0)) := ⟨_, rfl⟩
  rw [← ew1] at N
  have HN := Hid.mk N
  have EW := Hid.mk ew1
  obtain ⟨E, eE⟩ : ∃ E, vE W H D A n ln F = E := ⟨_, rfl⟩
  by_cases h0 : E = 0
  · have hv : Vld W H D A n ln F := vE_zero.1 (eE.trans h0)
    have hw : inP W H A p X Y rw rh = false := by
      cases hz : inP W H A p X Y rw rh with
      | false => rfl
      | true => exact absurd (by unfold crE; rw [eE, if_pos h0, if_pos hz]) hE
    have eC : crE W H D p X Y rw rh A n ln F = 65 := by unfold crE; rw [eE, if_pos h0, hw]; rfl
    rw [eC]
    subst h0
    rw [eE] at CV
    have CI := Hid.mk (fun u => inPlane_any W H D p X Y rw rh A u hX hY hv.shp.1 hv.shp.2.1)
    rw [hw] at CI
    clear N ew1 hr hv hw hE eC hX hY hn hln eE
    go_enter Try.func26, Try.ntmps26
    go_wp2_with (first | (go_at_call 22; rw [← EW.out]; refine (CV.out _ HN.out.2.2.2).mono ?_; rintro e w2 ⟨rfl, hk2⟩; obtain ⟨⟨c0, c1, c2, c3, c4⟩, _⟩ := five (hk2.heap HN.out.1 (by simp)); obtain ⟨⟨r0, r1, r2, r3⟩, _⟩ := four (hk2.heap HN.out.2.1 (by simp))) | (go_at_call 51; refine (CI.out _).mono ?_; rintro e w3 ⟨rfl, hk3⟩; have HR3 := Hid.mk ((hk2.trans hk3).heap HN.out.2.2.1 (by simp)); obtain ⟨⟨z0, z1, z2⟩, f0, f1, f2⟩ := tri' HR3.out))
    have s3' := set3 (.int .i64 0) (.int .i64 0) (.slice none 0 0) HR3.out
    refine bodyPost_ret (v := .tuple #[blv 0 0 none 0 0, .int .i64 65]) ?_ rfl ⟨rfl, ?_⟩
    · exact results_two rfl _ _ (w.heap.size + 1 + 1) 54 _ (0, 0) _ _ rfl s3'.1 Try.underlying54 Try.info54 rfl
    · exact (HN.out.2.2.2.trans (hk2.trans hk3)).step s3'.2 (fun x hx => by simp at hx; subst hx; exact .inr (by omega))
  · have eC : crE W H D p X Y rw rh A n ln F = E := by unfold crE; rw [eE, if_neg h0]
    rw [eC]
    rw [eE] at CV
    have hne : (E != 0) = true := by simpa using h0
    clear N ew1 hr hE eC hX hY hn hln eE
    go_enter Try.func26, Try.ntmps26
    go_wp2_with (first | (go_at_call 22; rw [← EW.out]; refine (CV.out _ HN.out.2.2.2).mono ?_; rintro e w2 ⟨rfl, hk2⟩; have HR3 := Hid.mk ((hk2).heap HN.out.2.2.1 (by simp)); obtain ⟨⟨z0, z1, z2⟩, f0, f1, f2⟩ := tri' HR3.out))
    have s3' := set3 (.int .i64 0) (.int .i64 0) (.slice none 0 0) HR3.out
    refine bodyPost_ret (v := .tuple #[blv 0 0 none 0 0, .int .i64 E]) ?_ rfl ⟨rfl, ?_⟩
    · exact results_two rfl _ _ (w.heap.size + 1 + 1) 54 _ (0, 0) _ _ rfl s3'.1 Try.underlying54 Try.info54 rfl
    · exact (HN.out.2.2.2.trans hk2).step s3'.2 (fun x hx => by simp at hx; subst hx; exact .inr (by omega))

set_option maxHeartbeats 8000000 in
set_option maxRecDepth 1000000 in
theorem rcrop_no (W H D p X Y rw rh : Int) (A : Bool) (po : Option Addr) (n c : Nat) (ln : Nat → Nat) (F : Nat → Nat → Nat) (w : World) (hr : Pc w po n ln F) (hn : n ≤ 9223372036854775807) (hln : ∀ i, i < n → ln i ≤ 9223372036854775807) (hF : ∀ i, i < n → ∀ j, j < ln i → F i j < 65536) (hX : -9223372036854775808 ≤ X ∧ X ≤ 9223372036854775807) (hY : -9223372036854775808 ≤ Y ∧ Y ≤ 9223372036854775807) (hE : crE W H D p X Y rw rh A n ln F ≠ 0) :
    Calls Try.prog 28 #[frv W H D A po n c, .int .i64 p, rcv X Y rw rh] w fun e w' => e = .returned (.tuple #[blv 0 0 none 0 0, .int .i64 (crE W H D p X Y rw rh A n ln F)]) ∧ Kept [] w w' := by
  have CV := Hid.mk (fun u (hk : Kept [] w u) => rvalid_any W H D A po n c ln F u (hr.keep hk).pl hn hln hF)
  have N := ent543 w (.int .i64 W) (.int .i64 H) (.int .i64 D) (.bool A) (.slice po n c) (.int .i64 X) (.int .i64 Y) (.int .i64 rw) (.int .i64 rh) (.int .i64 0) (.int .i64 0) (.slice none 0 0) 38 51 54
  obtain ⟨w1, ew1⟩ : ∃ w1, w1 = ((w.alloc (.cells #[.int .i64 W, .int .i64 H, .int .i64 D, .bool A, .slice po n c] 38 (0, 0))).alloc (.cells #[.int .i64 X, .int .i64 Y, .int .i64 rw, .int .i64 rh] 51 (0, 0))).alloc (.cells #[.int .i64 0, .int .i64 0, .slice none 0 0] 54 (0, 0)) := ⟨_, rfl⟩
  rw [← ew1] at N
  have HN := Hid.mk N
  have EW := Hid.mk ew1
  obtain ⟨E, eE⟩ : ∃ E, vE W H D A n ln F = E := ⟨_, rfl⟩
  by_cases h0 : E = 0
  · have hv : Vld W H D A n ln F := vE_zero.1 (eE.trans h0)
    have hw : inP W H A p X Y rw rh = false := by
      cases hz : inP W H A p X Y rw rh with
      | false => rfl
      | true => exact absurd (by unfold crE; rw [eE, if_pos h0, if_pos hz]) hE
    have eC : crE W H D p X Y rw rh A n ln F = 65 := by unfold crE; rw [eE, if_pos h0, hw]; rfl
    rw [eC]
    subst h0
    rw [eE] at CV
    have hs1 := hv.shp.1
    have hs2 := hv.shp.2.1
    have CI := Hid.mk (fun u => rthere_any W H D p A u)
    by_cases hp : 0 ≤ p ∧ p < (np A : Int)
    · rw [decide_eq_true hp] at CI
      have hwl := wp_lo p hs1.1
      have hwh := wp_hi p hs1.1
      have hl : lie X Y rw rh (wp W p) H = false := by
        unfold inP at hw
        rw [decide_eq_true hp, Bool.true_and] at hw
        exact hw
      have CW := Hid.mk (fun u => wide_any W H D p A u (by omega) hs1.2)
      have CL := Hid.mk (fun u => rlies_any X Y rw rh (wp W p) H u hX hY (by omega) hs2)
      rw [hl] at CL
      clear N ew1 hr hv hw hE eC hX hY hn hln hF eE hs1 hs2 hwl hwh hl hp
      go_enter Try.func28, Try.ntmps28
      go_wp2_with (first | (go_at_call 24; rw [← EW.out]; refine (CV.out _ HN.out.2.2.2).mono ?_; rintro e w2 ⟨rfl, hk2⟩; obtain ⟨⟨c0, c1, c2, c3, c4⟩, _⟩ := five (hk2.heap HN.out.1 (by simp)); obtain ⟨⟨r0, r1, r2, r3⟩, _⟩ := four (hk2.heap HN.out.2.1 (by simp))) | (go_at_call 42; refine (CI.out _).mono ?_; rintro e w3 ⟨rfl, hk3⟩; obtain ⟨⟨d0, d1, d2, d3, d4⟩, _⟩ := five ((hk2.trans hk3).heap HN.out.1 (by simp))) | (go_at_call 43; refine (CW.out _).mono ?_; rintro e w4 ⟨rfl, hk4⟩; obtain ⟨⟨e0, e1, e2, e3, e4⟩, _⟩ := five (((hk2.trans hk3).trans hk4).heap HN.out.1 (by simp)); obtain ⟨⟨s0, s1, s2, s3⟩, _⟩ := four (((hk2.trans hk3).trans hk4).heap HN.out.2.1 (by simp))) | (go_at_call 53; refine (CL.out _).mono ?_; rintro e w5 ⟨rfl, hk5⟩; have HR3 := Hid.mk ((((hk2.trans hk3).trans hk4).trans hk5).heap HN.out.2.2.1 (by simp)); obtain ⟨⟨z0, z1, z2⟩, f0, f1, f2⟩ := tri' HR3.out))
      have s3' := set3 (.int .i64 0) (.int .i64 0) (.slice none 0 0) HR3.out
      refine bodyPost_ret (v := .tuple #[blv 0 0 none 0 0, .int .i64 65]) ?_ rfl ⟨rfl, ?_⟩
      · exact results_two rfl _ _ (w.heap.size + 1 + 1) 54 _ (0, 0) _ _ rfl s3'.1 Try.underlying54 Try.info54 rfl
      · exact (HN.out.2.2.2.trans (((hk2.trans hk3).trans hk4).trans hk5)).step s3'.2 (fun x hx => by simp at hx; subst hx; exact .inr (by omega))
    · rw [decide_eq_false hp] at CI
      clear N ew1 hr hv hw hE eC hX hY hn hln hF eE hs1 hs2 hp
      go_enter Try.func28, Try.ntmps28
      go_wp2_with (first | (go_at_call 24; rw [← EW.out]; refine (CV.out _ HN.out.2.2.2).mono ?_; rintro e w2 ⟨rfl, hk2⟩; obtain ⟨⟨c0, c1, c2, c3, c4⟩, _⟩ := five (hk2.heap HN.out.1 (by simp)); obtain ⟨⟨r0, r1, r2, r3⟩, _⟩ := four (hk2.heap HN.out.2.1 (by simp))) | (go_at_call 42; refine (CI.out _).mono ?_; rintro e w3 ⟨rfl, hk3⟩; have HR3 := Hid.mk ((hk2.trans hk3).heap HN.out.2.2.1 (by simp)); obtain ⟨⟨z0, z1, z2⟩, f0, f1, f2⟩ := tri' HR3.out))
      have s3' := set3 (.int .i64 0) (.int .i64 0) (.slice none 0 0) HR3.out
      refine bodyPost_ret (v := .tuple #[blv 0 0 none 0 0, .int .i64 65]) ?_ rfl ⟨rfl, ?_⟩
      · exact results_two rfl _ _ (w.heap.size + 1 + 1) 54 _ (0, 0) _ _ rfl s3'.1 Try.underlying54 Try.info54 rfl
      · exact (HN.out.2.2.2.trans (hk2.trans hk3)).step s3'.2 (fun x hx => by simp at hx; subst hx; exact .inr (by omega))
  · have eC : crE W H D p X Y rw rh A n ln F = E := by unfold crE; rw [eE, if_neg h0]
    rw [eC]
    rw [eE] at CV
    have hne : (E != 0) = true := by simpa using h0
    clear N ew1 hr hE eC hX hY hn hln hF eE
    go_enter Try.func28, Try.ntmps28
    go_wp2_with (first | (go_at_call 24; rw [← EW.out]; refine (CV.out _ HN.out.2.2.2).mono ?_; rintro e w2 ⟨rfl, hk2⟩; have HR3 := Hid.mk ((hk2).heap HN.out.2.2.1 (by simp)); obtain ⟨⟨z0, z1, z2⟩, f0, f1, f2⟩ := tri' HR3.out))
    have s3' := set3 (.int .i64 0) (.int .i64 0) (.slice none 0 0) HR3.out
    refine bodyPost_ret (v := .tuple #[blv 0 0 none 0 0, .int .i64 E]) ?_ rfl ⟨rfl, ?_⟩
    · exact results_two rfl _ _ (w.heap.size + 1 + 1) 54 _ (0, 0) _ _ rfl s3'.1 Try.underlying54 Try.info54 rfl
    · exact (HN.out.2.2.2.trans hk2).step s3'.2 (fun x hx => by simp at hx; subst hx; exact .inr (by omega))

/-- Crop, both sides, in one form. -/
theorem crop_u (W H D p X Y rw rh : Int) (A : Bool) (n : Nat) (ln : Nat → Nat) (F : Nat → Nat → Nat) (hF : ∀ i, i < n → ∀ j, j < ln i → F i j < 65536) (hn : n ≤ 9223372036854775807) (hln : ∀ i, i < n → ln i ≤ 9223372036854775807) (hX : -9223372036854775808 ≤ X ∧ X ≤ 9223372036854775807) (hY : -9223372036854775808 ≤ Y ∧ Y ≤ 9223372036854775807) :
    ∃ (bW bH : Int) (m : Nat) (E : Int) (f : Nat → Nat), m ≤ 100000000 ∧
    (∀ (po : Option Addr) (c : Nat) (w : World), Pc w po n ln F → Calls Try.prog 26 #[frv W H D A po n c, .int .i64 p, rcv X Y rw rh] w fun e w' => ∃ so, e = .returned (.tuple #[blv bW bH so m m, .int .i64 E]) ∧ (Bk.zlf .u16 65 so m (fun j => (f j : Int))).P w' ∧ (∀ x ∈ Bk.ablk so, w.heap.size ≤ x ∧ x < w'.heap.size) ∧ Kept [] w w') ∧
    (∀ (po : Option Addr) (c : Nat) (w : World), Pc w po n ln F → Calls Try.prog 28 #[frv W H D A po n c, .int .i64 p, rcv X Y rw rh] w fun e w' => ∃ so k, e = .returned (.tuple #[blv bW bH so m k, .int .i64 E]) ∧ Rd w' so m f ∧ Kept [] w w') := by
  by_cases h : crE W H D p X Y rw rh A n ln F = 0
  · have hv : Vld W H D A n ln F := by
      apply vE_zero.1
      by_cases h0 : vE W H D A n ln F = 0
      · exact h0
      · unfold crE at h; rw [if_neg h0] at h; exact h
    have hw : inP W H A p X Y rw rh = true := by
      unfold crE at h
      rw [if_pos (vE_zero.2 hv)] at h
      by_cases h1 : inP W H A p X Y rw rh = true
      · exact h1
      · rw [if_neg h1] at h; cases h
    unfold inP lie at hw
    rw [Bool.and_eq_true] at hw
    have h1 := of_decide_eq_true hw.1
    have h2 := of_decide_eq_true hw.2
    have hs1 := hv.shp.1
    have hs2 := hv.shp.2.1
    have hwh := wp_hi p hs1.1
    obtain ⟨pN, rfl⟩ : ∃ m : Nat, p = (m : Int) := ⟨p.toNat, by omega⟩
    obtain ⟨xN, rfl⟩ : ∃ m : Nat, X = (m : Int) := ⟨X.toNat, by omega⟩
    obtain ⟨yN, rfl⟩ : ∃ m : Nat, Y = (m : Int) := ⟨Y.toNat, by omega⟩
    obtain ⟨wN, rfl⟩ : ∃ m : Nat, rw = (m : Int) := ⟨rw.toNat, by omega⟩
    obtain ⟨hN, rfl⟩ : ∃ m : Nat, rh = (m : Int) := ⟨rh.toNat, by omega⟩
    have hpn : pN < n := by rw [hv.num]; omega
    refine ⟨wN, hN, wN * hN, 0, crp (F pN) (wp W (pN : Int)).toNat xN yN wN, ?_, fun po c w hr => ?_, fun po c w hr => ?_⟩
    · have : wN * hN ≤ 4096 * 4096 := Nat.mul_le_mul (by omega) (by omega)
      omega
    · refine (crop_yes W H D A po n c ln F pN xN yN wN hN w hr hv hpn (by omega) (by omega) (by omega) (by omega)).mono ?_
      rintro e w' ⟨b, rfl, hrow, hb, hk⟩
      exact ⟨some ⟨b, 0, none⟩, rfl, .inr ⟨b, rfl, hrow⟩, fun x hx => by
        simp [Bk.ablk] at hx
        rw [hx]; exact ⟨hb, hrow.lt⟩, hk⟩
    · refine (rcrop_yes W H D A po n c ln F pN xN yN wN hN w hr hF hv hpn (by omega) (by omega) (by omega) (by omega)).mono ?_
      rintro e w' ⟨gn, k, rfl, -, hrd, hk⟩
      exact ⟨_, k, rfl, hrd, hk⟩
  · refine ⟨0, 0, 0, crE W H D p X Y rw rh A n ln F, fun _ => 0, by omega, fun po c w hr => ?_, fun po c w hr => ?_⟩
    · refine (crop_no W H D p X Y rw rh A po n c ln F w hr hn hln hX hY h).mono ?_
      rintro e w' ⟨rfl, hk⟩
      exact ⟨none, rfl, .inl ⟨rfl, rfl⟩, fun x hx => by simp [Bk.ablk] at hx, hk⟩
    · refine (rcrop_no W H D p X Y rw rh A po n c ln F w hr hn hln hF hX hY h).mono ?_
      rintro e w' ⟨rfl, hk⟩
      exact ⟨none, 0, rfl, .inl rfl, hk⟩
end Go.Proofs.Ythihennifigchaa
