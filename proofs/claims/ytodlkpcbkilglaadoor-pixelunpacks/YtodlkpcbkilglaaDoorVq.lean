import Derived.Test.YtodlkpcbkilglaaDoorPjZ
namespace Go.Proofs.YtodlkpcbkilglaaDoor
open Go.RowKit Go.Shelf

theorem v2L_hi {W : Int} (h1 : 1 ≤ W) (h : W ≤ 4096) : v2L W 0 ≤ 11008 ∧ ((v2L W 0 : Nat) : Int) = (W + 47) / 48 * 128 := by
  unfold v2L wdN
  have e0 : wp W ((0 : Nat) : Int) = W := rfl
  rw [e0]
  omega
theorem obK_set {W : Int} (h1 : 1 ≤ W) {F : Nat → Nat → Nat} (hF : ∀ q j, F q j < 1024) {p i y k a Y : Nat} (hp : p < 3) (hi : i < wdN W p) (hk : k < 4) (ha : a = y * v2L W 0 + 4 * (slt p i / 3) + k) (hY : Y = F p (y * wdN W p + i) * 1024 ^ (slt p i % 3)) :
    obK W F p (y * wdN W p + i) (y * v2L W 0 + 4 * (slt p i / 3)) k a + Y / 256 ^ k % 256 < 256 ∧ ∀ t, (if t = a then obK W F p (y * wdN W p + i) (y * v2L W 0 + 4 * (slt p i / 3)) k a + Y / 256 ^ k % 256 else obK W F p (y * wdN W p + i) (y * v2L W 0 + 4 * (slt p i / 3)) k t) = obK W F p (y * wdN W p + i) (y * v2L W 0 + 4 * (slt p i / 3)) (k + 1) t := by
  obtain ⟨e1, e2⟩ := obF_byte (y := y) h1 hF hp hi hk
  rw [← hY, ← ha] at e1 e2
  have e3 : obK W F p (y * wdN W p + i) (y * v2L W 0 + 4 * (slt p i / 3)) k a = obF W F p (y * wdN W p + i) a := by unfold obK; rw [if_neg (by omega)]
  rw [e3]
  refine ⟨e2, fun t => ?_⟩
  by_cases e : t = a
  · subst e
    rw [if_pos rfl]
    unfold obK
    rw [if_pos (by omega), e1]
  · rw [if_neg e]
    unfold obK
    by_cases h2 : y * v2L W 0 + 4 * (slt p i / 3) ≤ t ∧ t < y * v2L W 0 + 4 * (slt p i / 3) + k
    · rw [if_pos h2, if_pos (by omega)]
    · rw [if_neg h2, if_neg (by omega)]

set_option maxHeartbeats 8000000 in
set_option maxRecDepth 1000000 in
/-- The document's PackV210. -/
theorem r210_yes (W : Int) (h : Nat) (po : Option Addr) (c : Nat) (ln : Nat → Nat) (F : Nat → Nat → Nat) (w : World) (hr : Pl w po 3 ln F) (hF : ∀ q j, F q j < 1024) (hV : Vld W (h : Int) 10 false 3 ln F) :
    Calls Tryd.prog 19 #[frv W (h : Int) 10 false po 3 c] w fun e w' => ∃ g, e = .returned (.tuple #[.slice (some ⟨g, 0, none⟩) (h * v2L W 0) (h * v2L W 0), .int .i64 0]) ∧ w.heap.size ≤ g ∧ Cb w' g (h * v2L W 0) (obF W F 3 0) ∧ Kept [] w w' := by
  have hs := hV.shp
  have h1W : 1 ≤ W := hs.1.1
  have hW2 : W ≤ 4096 := hs.1.2
  have hh : h ≤ 4096 := by have := hs.2.1.2; omega
  have hln : ∀ i, i < 3 → ln i = wdN W i * h := fun i hi => by
    have := hV.len i hi
    rw [← (wdN_ok hs i).2.2] at this
    exact_mod_cast this
  have hwd : ∀ i, 1 ≤ wdN W i ∧ wdN W i ≤ 4096 := fun i => ⟨(wdN_ok hs i).1, (wdN_ok hs i).2.1⟩
  have hlb : ∀ i, i < 3 → ln i ≤ 16777216 := fun i hi => by
    rw [hln i hi]
    have := Nat.mul_le_mul (hwd i).2 hh
    omega
  have CV := Hid.mk (fun (u : World) (hk : Kept [] w u) => rvalid_any W (h : Int) 10 false po 3 c ln F u (hr.keep hk) (by omega) (fun i hi => by have := hlb i hi; omega) (fun i _ j _ => Nat.lt_trans (hF i j) (by omega)))
  rw [vE_zero.mpr hV] at CV
  obtain ⟨hS2, eS2⟩ := v2L_hi h1W hW2
  have hS0 := v2L_pos h1W
  obtain ⟨S, eS⟩ : ∃ S, v2L W 0 = S := ⟨_, rfl⟩
  rw [eS] at hS2 eS2 hS0
  obtain ⟨N, eN⟩ : ∃ N, h * S = N := ⟨_, rfl⟩
  have hN : N ≤ 45088768 := by rw [← eN]; have := Nat.mul_le_mul hh hS2; omega
  have C13 : Hid (∀ u, Calls Tryd.prog 13 #[shv W (h : Int) 10 false] u fun e w' => e = .returned (.tuple #[.int .i64 (N : Int), .int .i64 0]) ∧ Kept [] u w') := Hid.mk (fun u => (rv210Size_any W (h : Int) 10 false u).mono (fun e w' => by
    rw [shE_ok hs, ← eS2]
    rintro ⟨rfl, hk⟩
    refine ⟨?_, hk⟩
    rw [if_pos ⟨rfl, by decide⟩, if_pos rfl, if_pos (by decide), ← eN]
    simp))
  have C40 : Hid (∀ u, Calls Tryd.prog 40 #[.int .i64 W] u fun e w' => e = .returned (.int .i64 (S : Int)) ∧ w' = u) := Hid.mk (fun u => by rw [eS2]; exact rowSize_any W u h1W hW2)
  have C43 : Hid (∀ (u : World) (p : Nat), p < 3 → Calls Tryd.prog 43 #[shv W (h : Int) 10 false, .int .i64 (p : Int)] u fun e w' => e = .returned (.tuple #[.int .i64 (wdN W p : Int), .int .i64 (h : Int), .int .i64 0]) ∧ Kept [] u w') := Hid.mk (fun u p hp => (rsize_any W (h : Int) 10 (p : Int) false u).mono (fun e w' => by
    have e3 : szE W (h : Int) 10 (p : Int) false = 0 := by
      unfold szE
      rw [if_pos (shE_ok hs), if_pos ⟨by omega, by simp [np]; omega⟩]
    rw [e3, if_pos rfl, if_pos rfl, (wdN_ok hs p).2.2]
    exact id))
  have HF := Hid.mk hF
  have HN := Hid.mk hN
  have HA := Hid.mk (And.intro h1W (And.intro hh (And.intro eS (And.intro hS2 eN))))
  have HW := Hid.mk hwd
  have HL := Hid.mk hln
  have HB0 := heap_alloc_new w (.cells #[.int .i64 W, .int .i64 h, .int .i64 10, .bool false, .slice po 3 c] 31)
  have hk0 := alloc_kept w (.cells #[.int .i64 W, .int .i64 h, .int .i64 10, .bool false, .slice po 3 c] 31)
  obtain ⟨wa, ewa⟩ : ∃ wa, wa = w.alloc (.cells #[.int .i64 W, .int .i64 h, .int .i64 10, .bool false, .slice po 3 c] 31) := ⟨_, rfl⟩
  rw [← ewa] at HB0 hk0
  obtain ⟨b, eb⟩ : ∃ b, b = w.heap.size := ⟨_, rfl⟩
  rw [← eb] at HB0
  have HB := Hid.mk (And.intro HB0 (And.intro hk0 eb))
  have HR := Hid.mk hr
  rw [eS, eN]
  obtain ⟨⟨p0, p1, p2, p3, p4⟩, _⟩ := five HB0
  obtain ⟨i0, hi, hz0, hz1, hz2⟩ := info_parts Bt.Tryd.info5
  have HZ := Hid.mk hz2
  clear HB0 hk0 hr hF hV hs hwd hlb hln hh h1W hW2 hS2 eS2 hS0 eS eN hN hz2
  go_enter Tryd.func19, Tryd.ntmps19
  go_wp2_with (fail)
  rw [← ewa, ← eb]
  clear ewa eb
  refine (CV.out _ HB.out.2.1).mono ?_
  rintro e w1 ⟨rfl, hk1⟩
  have HB1 := Hid.mk (hk1.heap HB.out.1 (by simp))
  have HK1 := Hid.mk (HB.out.2.1.trans hk1)
  clear p0 p1 p2 p3 p4
  obtain ⟨⟨p0, p1, p2, p3, p4⟩, _⟩ := five HB1.out
  clear hk1 CV
  go_wp2_with (first | (go_at_call 13; refine (C13.out _).mono ?_; rintro e w2 ⟨rfl, hk2⟩) | (at_make; refine wpList_make_full _ rfl _ _ 37 rfl 0 5 i0 (.int .u8 0) 1 Tryd.underlying37 hi hz0 hz1 _ _ _ _ N rfl rfl (by omega) (by omega) ?b2 ?b3 (by have := HN.out; omega) ?_))
  case b2 => rw [HZ.out]; have := HN.out; omega
  case b3 => have := HN.out; unfold maxLen; omega
  intro w3 ho3 hg3
  have HB2 := Hid.mk (hk2.heap HB1.out (by simp))
  have HK2 := Hid.mk (HK1.out.trans hk2)
  clear hk2 C13 HB1
  have hk3 := Kept.of_grown hg3
  have hr3 := row_heap ho3 rfl
  rw [toList_madeCells_one] at hr3
  obtain ⟨g, eg⟩ : ∃ g, g = w2.heap.size := ⟨_, rfl⟩
  rw [← eg] at hr3
  have HC0 : Hid (Cb w3 g N (obF W F 0 0)) := Hid.mk ⟨_, hr3, by simp, fun i hi => by
    unfold obF
    rw [v2R_zero]
    simp [hi]⟩
  have HB3 := Hid.mk (hk3.heap HB2.out (by simp))
  have HK3 := Hid.mk (HK2.out.trans hk3)
  have HG : Hid (w.heap.size ≤ g ∧ b < g) := Hid.mk ⟨by rw [eg]; exact HK2.out.size, by rw [eg]; exact lt_of_block HB2.out⟩
  clear p0 p1 p2 p3 p4 ho3 hg3 hk3 hr3 HK2 HB2 hi hz0 hz1 HZ
  rw [← eg]
  clear eg
  obtain ⟨⟨p0, p1, p2, p3, p4⟩, _⟩ := five HB3.out
  go_wp2_with (go_at_call 40; refine (C40.out _).mono ?_; rintro e w4 ⟨rfl, rfl⟩)
  clear C40
  go_loopw [9] (fun i wr => ∃ p : Nat, p ≤ 3 ∧ i = .int .i64 (p : Int) ∧ Cb wr g N (obF W F p 0) ∧ Kept [g] w4 wr) (fun i _ => 3 - (intOf i).toNat)
  case atStart => exact ⟨0, by omega, rfl, HC0.out, Kept.refl _ _⟩
  case round =>
    obtain ⟨p, hp, rfl, hc, hkr⟩ := hrel
    have HC1 := Hid.mk hc
    have HKR := Hid.mk hkr
    clear p0 p1 p2 p3 p4
    obtain ⟨⟨p0, p1, p2, p3, p4⟩, _⟩ := five (hkr.heap HB3.out (by have := HG.out; simp; omega))
    clear hc hkr HC0
    by_cases hlt : p < 3
    · have ix : (p : Int) < 3 := by omega
      obtain ⟨d, ed⟩ : ∃ d, wdN W p = d := ⟨_, rfl⟩
      have hd : d ≤ 4096 := by rw [← ed]; exact (HW.out p).2
      have ED := Hid.mk ed
      have C43p := Hid.mk (fun u => C43.out u p hlt)
      rw [ed] at C43p
      have hh := HA.out.2.1
      clear ed
      go_wp2_with (go_at_call 43; refine (C43p.out _).mono ?_; rintro e w5 ⟨rfl, hk5⟩)
      have HC2 := Hid.mk (HC1.out.keep hk5 (by simp))
      have HK5 := Hid.mk (HKR.out.trans (hk5.mono (by simp)))
      clear p0 p1 p2 p3 p4
      have HKR0 := Hid.mk HKR.out.size
      obtain ⟨⟨p0, p1, p2, p3, p4⟩, _⟩ := five (HK5.out.heap HB3.out (by have := HG.out; simp; omega))
      clear hk5 HC1 HKR
      go_wp2_with (fail)
      go_loopw [13] (fun i wr => ∃ y : Nat, y ≤ h ∧ i = .int .i64 (y : Int) ∧ Cb wr g N (obF W F p (y * d)) ∧ Kept [g] w4 wr) (fun i _ => h - (intOf i).toNat)
      case atStart => exact ⟨0, by omega, rfl, by rw [Nat.zero_mul]; exact HC2.out, HK5.out⟩
      case round =>
        obtain ⟨y, hy, rfl, hc, hkr⟩ := hrel
        have HC3 := Hid.mk hc
        have HK6 := Hid.mk hkr
        clear p0 p1 p2 p3 p4
        obtain ⟨⟨p0, p1, p2, p3, p4⟩, _⟩ := five (hkr.heap HB3.out (by have := HG.out; simp; omega))
        clear hc hkr
        by_cases hly : y < h
        · have iy : (y : Int) < (h : Int) := by omega
          go_wp2_with (fail)
          go_loopw [14] (fun i wr => ∃ x : Nat, x ≤ d ∧ i = .int .i64 (x : Int) ∧ Cb wr g N (obF W F p (y * d + x)) ∧ Kept [g] w4 wr) (fun i _ => d - (intOf i).toNat)
          case atStart => exact ⟨0, by omega, rfl, HC3.out, HK6.out⟩
          case round =>
            obtain ⟨x, hx, rfl, hc, hkr⟩ := hrel
            have HC4 := Hid.mk hc
            have HK7 := Hid.mk hkr
            clear p0 p1 p2 p3 p4
            obtain ⟨⟨p0, p1, p2, p3, p4⟩, _⟩ := five (hkr.heap HB3.out (by have := HG.out; simp; omega))
            clear hc hkr
            by_cases hlx : x < d
            · have ixd : (x : Int) < (d : Int) := by omega
              have CS := Hid.mk (fun u => spot_any p x u hlt (by omega))
              obtain ⟨hq1, hq2⟩ := word_in HA.out.1 hlt (i := x) (h := h) (y := y) (by rw [ED.out]; exact hlx) hly
              rw [HA.out.2.2.1, HA.out.2.2.2.2] at hq2
              clear hq1
              obtain ⟨q, eq⟩ : ∃ q, slt p x / 3 = q := ⟨_, rfl⟩
              obtain ⟨r, er⟩ : ∃ r, slt p x % 3 = r := ⟨_, rfl⟩
              have hr3 : r < 3 := by omega
              rw [eq, er] at CS
              rw [eq] at hq2
              have EQ := Hid.mk (And.intro eq er)
              clear eq er
              obtain ⟨pg, poff, bo, cr, rfl, hcp, hrd⟩ := (HR.out.keep (HK3.out.step HK7.out (fun z hz => by have := HG.out; simp at hz; subst hz; exact .inr this.1))).at hlt
              have hL : y * d + x < ln p := by
                rw [HL.out p hlt, ED.out, Nat.mul_comm d h]
                have h9 : (y + 1) * d ≤ h * d := Nat.mul_le_mul_right _ hly
                rw [Nat.add_mul, Nat.one_mul] at h9
                omega
              have hLb : ln p ≤ 16777216 := by
                rw [HL.out p hlt, ED.out]
                have := Nat.mul_le_mul hd hh
                omega
              obtain ⟨L, eL⟩ : ∃ L, ln p = L := ⟨_, rfl⟩
              rw [eL] at hL hLb hcp hrd
              obtain ⟨sg, soff, rfl, hsc⟩ := hrd.at hL
              obtain ⟨X, eX⟩ : ∃ X, F p (y * d + x) = X := ⟨_, rfl⟩
              have hX : X < 1024 := by rw [← eX]; exact HF.out _ _
              rw [eX] at hsc
              obtain ⟨yd, eyd⟩ : ∃ yd, y * d = yd := ⟨_, rfl⟩
              have fyd : (y : Int) * (d : Int) = (yd : Int) := by rw [← eyd]; simp
              obtain ⟨ys, eys⟩ : ∃ ys, y * S = ys := ⟨_, rfl⟩
              have fys : (y : Int) * (S : Int) = (ys : Int) := by rw [← eys]; simp
              rw [eys] at hq2
              rw [eyd] at hL hsc
              have EX := Hid.mk (And.intro eX (And.intro eyd eys))
              have hN := HN.out
              clear hrd eX eyd eys eL
              go_wp2_with (go_at_call 44; refine (CS.out _).mono ?_; rintro e w8 ⟨rfl, hk8⟩; have hka := (hk8.alloc (.cells #[.int .i64 (q : Int), .int .i64 (r : Int)] 74)); have r4 := cell_keep hka p4 (by simp); have r5 := cell_keep hka hcp (by simp); have r6 := cell_keep hka hsc (by simp); have r7 := heap_alloc_new w8 (.cells #[.int .i64 (q : Int), .int .i64 (r : Int)] 74); have hsb := hk8.size)
              obtain ⟨w9, e9⟩ : ∃ w9, w9 = w8.alloc (.cells #[.int .i64 (q : Int), .int .i64 (r : Int)] 74) := ⟨_, rfl⟩
              obtain ⟨sb, esb⟩ : ∃ sb, sb = w8.heap.size := ⟨_, rfl⟩
              rw [← e9, ← esb] at r7
              rw [← e9] at hka ⊢
              rw [← esb] at hsb ⊢
              have HS9 := Hid.mk r7
              have HKA := Hid.mk hka
              have HC6 := Hid.mk (HC4.out.keep hka (by simp))
              have HSB : Hid (w.heap.size ≤ sb ∧ g < sb) := Hid.mk ⟨Nat.le_trans (Nat.le_trans HK3.out.size HK7.out.size) hsb, by
                obtain ⟨cs, h8, _⟩ := HC4.out
                exact Nat.lt_of_lt_of_le (lt_of_block h8) hsb⟩
              clear e9 esb r4 r5 r6 r7 hka hk8 CS hsb p0 p1 p2 p3 p4 hcp hsc
              go_loopw [16, 17] (fun v k wz => ∃ t : Nat, t ≤ r ∧ k = .int .i64 (t : Int) ∧ v = .int .i64 ((X * 1024 ^ t : Nat) : Int) ∧ Kept [] w9 wz) (fun _ k _ => r - (intOf k).toNat)
              case atStart => exact ⟨0, by omega, rfl, by simp, Kept.refl _ _⟩
              case round =>
                obtain ⟨t, ht, rfl, rfl, hkz⟩ := hrel
                have HKZ := Hid.mk hkz
                have HSZ := Hid.mk (hkz.heap HS9.out (by simp))
                have q0 : wr.cell? ⟨sb, 0, none⟩ = some (.int .i64 (q : Int)) := by rw [cell_of_row _ _ _ _ _ _ HSZ.out]; rfl
                have q1 : wr.cell? ⟨sb, 1, none⟩ = some (.int .i64 (r : Int)) := by rw [cell_of_row _ _ _ _ _ _ HSZ.out]; rfl
                obtain ⟨Y, eY⟩ : ∃ Y, X * 1024 ^ t = Y := ⟨_, rfl⟩
                have hY : Y ≤ 1072693248 := by
                  rw [← eY]
                  rcases (by omega : t = 0 ∨ t = 1 ∨ t = 2) with rfl | rfl | rfl <;> omega
                rw [eY]
                have EY := Hid.mk eY
                clear hkz eY
                by_cases hlr : t < r
                · have ir : (t : Int) < (r : Int) := by omega
                  go_wp2_with (fail)
                  go_roundw
                  case rel => exact ⟨t + 1, by omega, by go_num, by rw [Nat.pow_succ, ← Nat.mul_assoc, EY.out]; go_num, HKZ.out⟩
                  case measure => simp [intOf]; omega
                · obtain rfl : t = r := by omega
                  go_wp2_with (fail)
                  go_loopw [16, 19] (fun v k wz => ∃ j : Nat, j ≤ 4 ∧ k = .int .i64 (j : Int) ∧ v = .int .i64 ((Y / 256 ^ j : Nat) : Int) ∧ Cb wz g N (obK W F p (y * d + x) (ys + 4 * q) j) ∧ Kept [g] w9 wz) (fun _ k _ => 4 - (intOf k).toNat)
                  case atStart => exact ⟨0, by omega, rfl, by simp, (HC6.out.keep HKZ.out (by simp)).congr (fun a _ => by unfold obK; rw [if_neg (by omega)]), HKZ.out.mono (by simp)⟩
                  case round =>
                    obtain ⟨j, hj, rfl, rfl, hc, hkr⟩ := hrel
                    have HC7 := Hid.mk hc
                    have HK8 := Hid.mk hkr
                    clear q0 q1
                    by_cases hl4 : j < 4
                    · have i4 : (j : Int) < 4 := by omega
                      have c0 := hc.at (i := ys + 4 * q + j) (by omega)
                      have cf := hc.fz (ys + 4 * q + j)
                      have hB := obK_set (a := ys + 4 * q + j) (Y := Y) HA.out.1 HF.out hlt (i := x) (y := y) (k := j) (by rw [ED.out]; exact hlx) hl4 (by rw [HA.out.2.2.1, EQ.out.1, EX.out.2.2]) (by rw [ED.out, EX.out.1, EQ.out.2]; exact EY.out.symm)
                      rw [ED.out, HA.out.2.2.1, EQ.out.1, EX.out.2.2] at hB
                      obtain ⟨hB1, hB2⟩ := hB
                      obtain ⟨o, eo⟩ : ∃ o, obK W F p (y * d + x) (ys + 4 * q) j (ys + 4 * q + j) = o := ⟨_, rfl⟩
                      rw [eo] at hB1 c0
                      simp only [eo] at hB2
                      have hVY : Y / 256 ^ j ≤ 1072693248 := Nat.le_trans (Nat.div_le_self _ _) hY
                      have hV9 : Y / 256 ^ j / 256 = Y / 256 ^ (j + 1) := by rw [Nat.div_div_eq_div_mul, Nat.pow_succ]
                      obtain ⟨V, eV⟩ : ∃ V, Y / 256 ^ j = V := ⟨_, rfl⟩
                      rw [eV] at hVY hV9 hB1
                      simp only [eV] at hB2
                      rw [eV]
                      have f2 : ((V : Int)).tmod 256 = ((V % 256 : Nat) : Int) := by rw [Int.tmod_eq_emod_of_nonneg (by omega)]; omega
                      have f3 : (V : Int) % 256 = ((V % 256 : Nat) : Int) := by omega
                      have f4 : ((V : Int)).tdiv 256 = ((V / 256 : Nat) : Int) := by rw [Int.tdiv_eq_ediv_of_nonneg (by omega)]; omega
                      have f5 : (V : Int) / 256 = ((V / 256 : Nat) : Int) := by omega
                      obtain ⟨lo, elo⟩ : ∃ lo, V % 256 = lo := ⟨_, rfl⟩
                      obtain ⟨hi, ehi⟩ : ∃ hi, V / 256 = hi := ⟨_, rfl⟩
                      obtain ⟨sm, esm⟩ : ∃ sm, o + lo = sm := ⟨_, rfl⟩
                      have hhi : hi ≤ 4190208 := by omega
                      rw [elo] at f2 f3 hB1
                      rw [ehi] at f4 f5 hV9
                      rw [esm] at hB1
                      simp only [elo, esm] at hB2
                      have fs : (o : Int) + (lo : Int) = (sm : Int) := by omega
                      have ho : o < 256 := by omega
                      have hlo : lo < 256 := by omega
                      have HB9 := Hid.mk hB2
                      have HV9 := Hid.mk hV9
                      have HCS := Hid.mk (hc.set (i := ys + 4 * q + j) (v := sm) (by omega))
                      have HKS := Hid.mk (hkr.setCell (p := ⟨g, ys + 4 * q + j, none⟩) (by simp) (.int .u8 (sm : Int)))
                      clear hB2 hV9 elo ehi esm eV eo hc hkr
                      have f6 : IntKind.u8.wrap (sm : Int) = (sm : Int) := u8_in hB1
                      go_wp2_with (fail)
                      refine ⟨⟨j + 1, by clear f6; omega, by clear f6; go_num, by rw [← HV9.out], HCS.out.congr (fun t _ => HB9.out t), HKS.out⟩, by clear f6; simp [intOf]; omega⟩
                    · obtain rfl : j = 4 := by omega
                      have HC8 : Hid (Cb wr g N (obF W F p (y * d + (x + 1)))) := Hid.mk (HC7.out.congr (fun a _ => by
                        have h4 := obK_four (y := y) HA.out.1 HF.out hlt (i := x) (by rw [ED.out]; exact hlx) a
                        rw [ED.out, HA.out.2.2.1, EQ.out.1, EX.out.2.2] at h4
                        exact h4))
                      have HKE := Hid.mk (HK7.out.trans ((HKA.out.mono (by simp)).trans HK8.out))
                      clear hc hkr
                      go_wp2_with (fail)
                      go_roundw
                      case rel => exact ⟨x + 1, by omega, by go_num, HC8.out, HKE.out⟩
                      case measure => simp [intOf]; omega
            · obtain rfl : x = d := by omega
              go_wp2_with (fail)
              go_roundw
              case rel => exact ⟨y + 1, by omega, by go_num, by rw [Nat.add_mul, Nat.one_mul]; exact HC4.out, HK7.out⟩
              case measure => simp [intOf]; omega
        · obtain rfl : y = h := by omega
          have HC5 : Hid (Cb _ g N (obF W F (p + 1) 0)) := Hid.mk (HC3.out.congr (fun a ha => by
            rw [← ED.out]
            refine obF_next ?_
            have e1 := HA.out.2.2.2.2
            have e0 := v2L_pos HA.out.1
            rw [HA.out.2.2.1] at e0 ⊢
            exact (Nat.div_lt_iff_lt_mul (by omega)).mpr (by rw [e1]; exact ha)))
          go_wp2_with (fail)
          go_roundw
          case rel => exact ⟨p + 1, by omega, by go_num, HC5.out, HK6.out⟩
          case measure => simp [intOf]; omega
    · obtain rfl : p = 3 := by omega
      have KE := Hid.mk (HK3.out.step HKR.out (fun z hz => by have := HG.out; simp at hz; subst hz; exact .inr this.1))
      go_wp2_with (fail)
      go_ret2
      exact ⟨_, rfl, HG.out.1, HC1.out, KE.out⟩
end Go.Proofs.YtodlkpcbkilglaaDoor
