import Derived.Test.YtmgfapooanpgfaaSd
namespace Go.Proofs.Ytmgfapooanpgfaa
open Go.RowKit

set_option maxHeartbeats 16000000 in
set_option maxRecDepth 1000000 in
theorem sums_any (lo : Option Addr) (nl cl : Nat) (S : Nat → ByteArray) (mo : Option Addr) (nm_ cm : Nat) (M : Nat → ByteArray) (p x : Int) (w : World) (hl : Sv w lo nl (fun i => .string (S i))) (hnl : nl ≤ 140737488355328) (hm : Sv w mo nm_ (fun i => .string (M i))) (_hnm : nm_ ≤ 140737488355328) (hp : -9223372036854775808 ≤ p ∧ p ≤ 9223372036854775807) (hx : -9223372036854775808 ≤ x ∧ x ≤ 9223372036854775807) :
    Calls Try.prog 5 #[.slice lo nl cl, .slice mo nm_ cm, .int .i64 p, .int .i64 x] w fun e w' => e = .returned (.bool true) ∧ Kept [] w w' := by
  obtain ⟨i0, hi, hz0, hz1, hz2⟩ := info_parts Try.info5
  obtain ⟨j0, gi, gz0, gz1, gz2⟩ := info_parts Try.infoR
  have C1 := Hid.mk awake_any
  have C3 : Hid (∀ u, Calls Try.prog 12 #[.int .i64 p, .int .i64 17] u fun e w' => e = .returned (.int .i64 ((pick p 17).toNat : Int)) ∧ w' = u) := Hid.mk (fun u => (pick_any p 17 u hp.1 hp.2 (by omega)).mono (by
    rintro e w' ⟨rfl, rfl⟩
    exact ⟨by rw [Int.toNat_of_nonneg (pick_lo p 17 (by omega))], rfl⟩))
  have hP : (pick p 17).toNat ≤ 16 := by have := pick_lo p 17 (by omega); have := pick_hi p 17 (by omega); omega
  obtain ⟨P, eP⟩ : ∃ P, P = (pick p 17).toNat := ⟨_, rfl⟩
  rw [← eP] at C3 hP
  clear eP
  obtain ⟨n, en⟩ : ∃ n, n = min nl 200 := ⟨_, rfl⟩
  have hn : n ≤ 200 := by omega
  obtain ⟨L, eL⟩ : ∃ L, L = (fun i => rowS (S i)) := ⟨_, rfl⟩
  have Hbl : Hid (∀ i, Byts (L i)) := Hid.mk (by rw [eL]; exact fun i => byl_byts _)
  have Hln : Hid (∀ i, (L i).length ≤ 16777216) := Hid.mk (by rw [eL]; exact fun i => rowS_len _)
  have C2 : Hid (∀ w1, Kept [] w w1 → Calls Try.prog 11 #[.slice lo nl cl] w1 fun e w' => ∃ ao c fr ks, e = .returned (.slice ao n c) ∧ (ao = none → n = 0 ∧ c = 0) ∧ St w' ks ao n fr L ∧ (∀ x ∈ ks, w1.heap.size ≤ x ∧ x < w'.heap.size) ∧ Kept [] w1 w') := Hid.mk (fun w1 hk => by subst eL; subst en; exact rowsOf_st lo nl cl S w1 (hl.keep hk) hnl)
  clear eL hl en
  have Hm := Hid.mk hm
  clear hm
  go_enter Try.func5, Try.ntmps5
  go_wp2_with (first | (go_at_call 8; refine (C1.out _).mono ?_; rintro e w1 ⟨rfl, hk1⟩) | (go_at_call 11; refine (C2.out _ hk1).mono ?_; rintro e w2 ⟨ao, c, fr, ks0, rfl, hnil, hst2, hks2, hk2⟩) | (go_at_call 12; refine (C3.out _).mono ?_; rintro e w2' ⟨rfl, hw⟩; obtain rfl := hw.symm))
  have HK2 : Hid (Kept [] w w2) := Hid.mk (hk1.trans hk2)
  have HST := Hid.mk hst2
  have HNIL := Hid.mk hnil
  clear hst2 hks2 hk2 hnil hk1 C1 C2 C3
  obtain ⟨sz, esz⟩ : ∃ sz : Nat → Nat, sz = fun i => (L i).length := ⟨_, rfl⟩
  have Hsz : Hid (∀ i, (L i).length = sz i) := Hid.mk (fun i => by rw [esz])
  clear esz
  have HRW : Hid (∀ u, Kept [] w2 u → ∀ k, k < n → ∃ gr bo bc, ao = some ⟨gr, 0, none⟩ ∧ u.cell? ⟨gr, k, none⟩ = some (.slice bo (sz k) bc) ∧ Reads u bo (L k)) := Hid.mk (fun u hu k hk => by
    obtain ⟨gr, e, hgr, hc0, _, _⟩ := (HST.out.keep hu).at hk
    obtain ⟨bo, bc, hf, _, hrd, _, _⟩ := (HST.out.keep hu).row k hk
    rw [hf, Hsz.out k] at hc0
    exact ⟨gr, bo, bc, e, hc0, hrd⟩)
  go_loopw [11, 12] (fun t i wr => ∃ k : Nat, k ≤ n ∧ i = .int .i64 (k : Int) ∧ t = .int .i64 (wx sz k : Int) ∧ wr = w2) (fun _ i _ => n - (intOf i).toNat)
  case atStart => exact ⟨0, by omega, rfl, rfl, rfl⟩
  case round =>
    obtain ⟨k, hk, rfl, rfl, hw⟩ := hrel
    obtain rfl := hw.symm
    by_cases hlt : k < n
    · obtain ⟨gr, bo, bc, rfl, hc0, _⟩ := HRW.out w2 (Kept.refl _ _) k hlt
      have ix : (k : Int) < (n : Int) := by omega
      have Hx1 : Hid (wx sz (k + 1) = max (wx sz k) (sz k)) := Hid.mk rfl
      obtain ⟨x, e⟩ : ∃ x, x = wx sz k := ⟨_, rfl⟩
      rw [← e] at Hx1 ⊢
      clear e
      obtain ⟨y, e⟩ : ∃ y, y = sz k := ⟨_, rfl⟩
      rw [← e] at Hx1 hc0
      clear e
      go_wp2
      go_roundw
      case rel => exact ⟨k + 1, by omega, by go_num, by rw [Hx1.out, ← max_int], trivial⟩
      case measure => simp [intOf]; omega
    · obtain rfl : n = k := by omega
      have HW : Hid (wx sz n ≤ 16777216) := Hid.mk (wx_le (fun i _ => by rw [← Hsz.out]; exact Hln.out i))
      obtain ⟨W, eW⟩ : ∃ W, W = wx sz n := ⟨_, rfl⟩
      have EW := Hid.mk eW
      rw [← eW] at HW ⊢
      clear eW
      have hW := HW.out
      have C4 : Hid (∀ u, Calls Try.prog 12 #[.int .i64 x, .int .i64 ((W : Int) + 1)] u fun e w' => e = .returned (.int .i64 ((pick x ((W : Int) + 1)).toNat : Int)) ∧ w' = u) := Hid.mk (fun u => (pick_any x _ u hx.1 hx.2 (by omega)).mono (by
        rintro e w' ⟨rfl, rfl⟩
        exact ⟨by rw [Int.toNat_of_nonneg (pick_lo _ _ (by omega))], rfl⟩))
      have hX : (pick x ((W : Int) + 1)).toNat ≤ W := by have := pick_lo x ((W : Int) + 1) (by omega); have := pick_hi x ((W : Int) + 1) (by omega); omega
      obtain ⟨X, eX⟩ : ∃ X, X = (pick x ((W : Int) + 1)).toNat := ⟨_, rfl⟩
      rw [← eX] at C4 hX
      clear eX
      go_wp2_with (go_at_call 12; refine (C4.out _).mono ?_; rintro e w2' ⟨rfl, hw⟩; obtain rfl := hw.symm)
      obtain ⟨Lb, eLb⟩ : ∃ Lb, Lb = sLb L M nm_ := ⟨_, rfl⟩
      obtain ⟨Ls, eLs⟩ : ∃ Ls, Ls = sLs L M nm_ := ⟨_, rfl⟩
      obtain ⟨Lc, eLc⟩ : ∃ Lc, Lc = sLc L X := ⟨_, rfl⟩
      have ELb := Hid.mk eLb
      have ELs := Hid.mk eLs
      have ELc := Hid.mk eLc
      clear eLb eLs eLc C4
      obtain ⟨B2, eB2⟩ : ∃ B2, B2 = w2.heap.size := ⟨_, rfl⟩
      have EB2 := Hid.mk eB2
      clear eB2
      go_loopw [13, 14, 15, 16] (fun vb vs vc i wr => ∃ (k : Nat) (f : Nat → Nat → Value), k ≤ n ∧ i = .int .i64 (k : Int) ∧ Tri wr B2 (v3 vb vs vc) (fun _ => k) f (v3 Lb Ls Lc) ∧ Kept [] w2 wr) (fun _ _ _ i _ => n - (intOf i).toNat)
      case atStart =>
        refine ⟨0, fun _ _ => .slice none 0 0, by omega, rfl, ⟨fun a _ => ?_, fun a b _ _ _ g hg => ?_, fun a _ i hi => by omega⟩, Kept.refl _ _⟩
        · have : v3 (Value.slice none 0 0) (Value.slice none 0 0) (Value.slice none 0 0) a = .slice none 0 0 := by unfold v3; split; rfl; split <;> rfl
          rw [this]
          exact ⟨rfl, .inl ⟨rfl, rfl⟩⟩
        · have : v3 (Value.slice none 0 0) (Value.slice none 0 0) (Value.slice none 0 0) a = .slice none 0 0 := by unfold v3; split; rfl; split <;> rfl
          rw [this] at hg
          simp [Value.ownBlock] at hg
      case round =>
        obtain ⟨k, f, hk, rfl, hT, hkr⟩ := hrel
        by_cases hlt : k < n
        · obtain ⟨gr, bo, bc, hao, hc0, _⟩ := HRW.out wr hkr k hlt
          have hyl : sz k ≤ 16777216 := by rw [← Hsz.out]; exact Hln.out k
          have ix : (k : Int) < (n : Int) := by omega
          obtain ⟨y, ey⟩ : ∃ y, y = sz k := ⟨_, rfl⟩
          have Ey := Hid.mk ey
          rw [← ey] at hc0 hyl
          clear ey
          have HT := Hid.mk hT
          have HKR := Hid.mk hkr
          have HMK : Hid (∀ u w3, w3.ownsRow 0 5 1 (.slice (some ⟨u.heap.size, 0, none⟩) y y) y (madeCells (Value.int .u8 0).cells (y * 1)).toList → u.grownBy w3 none → Row w3 u.heap.size (rg (fun _ => 0) y) ∧ Kept [] u w3) := Hid.mk (fun u w3 ho3 hg3 => by
            have hk3 := Kept.of_grown hg3
            have hr3 := row_heap ho3 rfl
            rw [madeBytes, show List.replicate y (byt 0) = (rg (fun _ => 0) y).map byt from rg_none _] at hr3
            exact ⟨hr3, hk3.mono (by simp)⟩)
          have Hao := Hid.mk hao
          subst hao
          clear hT hkr
          go_upto_region 17 with (at_make; refine wpList_make_full _ rfl _ _ 40 rfl 0 5 i0 (.int .u8 0) 1 Try.underlying40 hi hz0 hz1 _ _ _ _ y rfl rfl (by omega) (by omega) (by rw [hz2]; omega) (by unfold maxLen; omega) (by omega) ?_; intro w3 ho3 hg3; obtain ⟨hr3, hk3⟩ := HMK.out _ _ ho3 hg3; clear ho3 hg3)
          have hc3 := cell_keep hk3 hc0 (by simp)
          go_upto_if 74 with (at_make; refine wpList_make_full _ rfl _ _ 40 rfl 0 5 i0 (.int .u8 0) 1 Try.underlying40 hi hz0 hz1 _ _ _ _ y rfl rfl (by omega) (by omega) (by rw [hz2]; omega) (by unfold maxLen; omega) (by omega) ?_; intro w4 ho4 hg4; obtain ⟨hr4, hk4⟩ := HMK.out _ _ ho4 hg4; clear ho4 hg4)
          have HK4 : Hid (Kept [] wr w4) := Hid.mk (hk3.trans hk4)
          have R4y := Hid.mk (hr3.keep hk4 (by simp))
          have R4z := Hid.mk hr4
          obtain ⟨by_, eby⟩ : ∃ b, b = wr.heap.size := ⟨_, rfl⟩
          have Eby := Hid.mk eby
          rw [← eby] at R4y ⊢
          obtain ⟨bz, ebz⟩ : ∃ b, b = w3.heap.size := ⟨_, rfl⟩
          have Ebz : Hid (by_ < bz) := Hid.mk (by have := hr3.lt; omega)
          rw [← ebz] at R4z ⊢
          clear hc0 hc3 hr3 hr4 hk3 hk4 HMK eby ebz
          go_cut [17] (fun s wc => s = .slice (some ⟨by_, 0, none⟩) y y ∧ Row wc by_ (rg (bF M nm_ k) y) ∧ Kept [by_] w4 wc)
          case first =>
            by_cases hkm : k < nm_
            · obtain ⟨gm, om, hmo, hcm'⟩ := Hm.out.at hkm
              have hcm := cell_keep (HK2.out.trans (HKR.out.trans HK4.out)) hcm' (by simp)
              obtain ⟨w5, hcp, hr5, hk5⟩ := copy_str w4 by_ y y (M k) R4y.out
              have H5 : Hid (Row w5 by_ (rg (bF M nm_ k) y)) := Hid.mk (by rw [rg_congr (fun x _ => by unfold bF; rw [if_pos hkm])]; exact hr5)
              have HK5 := Hid.mk hk5
              obtain ⟨mn, emn⟩ : ∃ mn, mn = min (M k).size y := ⟨_, rfl⟩
              rw [← emn] at hcp
              have ixm : (k : Int) < (nm_ : Int) := by omega
              subst hmo
              clear hr5 hk5 hcm' emn
              go_wp2
              all_goals go_meet
              all_goals exact ⟨rfl, H5.out, HK5.out⟩
            · have H5 : Hid (Row w4 by_ (rg (bF M nm_ k) y)) := Hid.mk (by rw [rg_congr (fun x _ => by unfold bF; rw [if_neg hkm])]; exact R4y.out)
              have ixm : decide ((k : Int) < (nm_ : Int)) = false := by simp; omega
              have ixm2 : ¬ k < nm_ := hkm
              go_wp2
              all_goals go_meet
              all_goals exact ⟨rfl, H5.out, Kept.refl _ _⟩
          case rest =>
            obtain ⟨rfl, hry, hkc⟩ := hcut
            have HRY := Hid.mk hry
            have HRZ := Hid.mk (R4z.out.keep hkc (by have := Ebz.out; simp; omega))
            have HKC : Hid (Kept [] wr wc) := Hid.mk (HK4.out.step hkc (fun x hx => by simp at hx; subst hx; have := Eby.out; right; omega))
            clear hry hkc R4y R4z HK4
            obtain ⟨wo, rfl⟩ : ∃ wo, wo = wr := ⟨_, rfl⟩
            obtain ⟨w5, rfl⟩ : ∃ w5, w5 = wc := ⟨_, rfl⟩
            go_wp2
            go_loopw [19] (fun i wr1 => ∃ t : Nat, t ≤ y ∧ i = .int .i64 (t : Int) ∧ Row wr1 bz (rg (upt t (fun _ => 0) (fun x => (L k).getD x 0 ^^^ bF M nm_ k x)) y) ∧ Kept [bz] w5 wr1) (fun i _ => y - (intOf i).toNat)
            case atStart => exact ⟨0, by omega, rfl, by rw [upt_zero]; exact HRZ.out, Kept.refl _ _⟩
            case round =>
              obtain ⟨t, ht, rfl, hrz, hkz⟩ := hrel
              have hk9 : Kept [] w2 wr := (HKR.out.trans HKC.out).step hkz (fun x hx => by simp at hx; subst hx; have := Ebz.out; have := Eby.out; have := HKR.out.size; right; omega)
              by_cases htl : t < y
              · obtain ⟨gr2, bo2, bc2, hao2, hc0, hrd⟩ := HRW.out wr hk9 k hlt
                cases hao2
                rw [← Ey.out] at hc0
                obtain ⟨ga, oa, hga, hca⟩ := hrd.cell (j := t) (by rw [Hsz.out, ← Ey.out]; exact htl)
                have hry := HRY.out.keep hkz (by have := Ebz.out; simp; omega)
                have hcy := hry.at (j := t) (by rw [rg_length]; exact htl)
                rw [rg_getD _ _ _ htl] at hcy
                have hcz := hrz.at (j := t) (by rw [rg_length]; exact htl)
                rw [rg_getD _ _ _ htl, upt_at] at hcz
                have hfz := hrz.fz t
                have hal := getD_lt (L k) t (Hbl.out k)
                have hbl := bF_lt M nm_ k t
                have hxor := u8_xor_nat ((L k).getD t 0) (bF M nm_ k t) hal hbl
                have HN := Hid.mk (fun u hu => hrz.set (q := fun x => (L k).getD x 0 ^^^ bF M nm_ k x) (u := u) hu)
                have HKZ := Hid.mk hkz
                obtain ⟨aa, eaa⟩ : ∃ aa, aa = (L k).getD t 0 := ⟨_, rfl⟩
                have HD : Hid ((fun x => (L k).getD x 0 ^^^ bF M nm_ k x) t = aa ^^^ bF M nm_ k t) := Hid.mk (by rw [eaa])
                rw [← eaa] at hca hal hxor
                obtain ⟨bb, ebb⟩ : ∃ bb, bb = bF M nm_ k t := ⟨_, rfl⟩
                rw [← ebb] at hcy hbl hxor HD
                have ixt : (t : Int) < (y : Int) := by omega
                subst hga
                clear hrz hkz hrd hry eaa ebb hk9
                go_wp2
                go_region_law (fail)
                all_goals go_wp2
                all_goals exact ⟨⟨t + 1, by omega, by go_num, HN.out _ (by rw [HD.out]; rfl), (HKZ.out.setCell (p := ⟨bz, t, none⟩) (.inl (by simp)) _).drew⟩, by simp [intOf]; omega⟩
              · obtain rfl : y = t := by omega
                rw [upt_full] at hrz
                have K6 : Hid (Kept [] wo wr) := Hid.mk (HKC.out.step hkz (fun x hx => by simp at hx; subst hx; have := Ebz.out; have := Eby.out; right; omega))
                have RZ : Hid (Reads wr (some ⟨bz, 0, none⟩) (Ls k)) := Hid.mk (by rw [ELs.out, sLs, Hsz.out, ← Ey.out]; exact hrz.reads)
                have RY : Hid (Reads wr (some ⟨by_, 0, none⟩) (Lb k)) := Hid.mk (by rw [ELb.out, sLb, Hsz.out, ← Ey.out]; exact (HRY.out.keep hkz (by have := Ebz.out; simp; omega)).reads)
                have HLb : Hid ((Lb k).length = y) := Hid.mk (by rw [ELb.out, sLb, rg_length, Hsz.out, ← Ey.out])
                have HLs : Hid ((Ls k).length = y) := Hid.mk (by rw [ELs.out, sLs, rg_length, Hsz.out, ← Ey.out])
                have HBb : Hid (Byts (Lb k)) := Hid.mk (by rw [ELb.out]; exact rg_byts (fun x _ => bF_lt _ _ _ _))
                have HBs : Hid (Byts (Ls k)) := Hid.mk (by rw [ELs.out]; exact rg_byts (fun x _ => xor_lt (getD_lt _ _ (Hbl.out k)) (bF_lt _ _ _ _)))
                have Hlt : Hid (by_ < wr.heap.size ∧ bz < wr.heap.size) := Hid.mk ⟨(HRY.out.keep hkz (by have := Ebz.out; simp; omega)).lt, hrz.lt⟩
                have T6 := Hid.mk (HT.out.keep K6.out)
                have HVb : Hid (∀ b, b < 3 → ∀ q, (v3 u13 u14 u15 b).ownBlock = some q → q < by_) := Hid.mk (fun b hb q hq => by have := own_block_lt (HT.out.own b hb) q (by rw [mem_own]; exact hq); have := Eby.out; omega)
                have O0 := Hid.mk (T6.out.own 0 (by omega))
                have hB6 : B2 ≤ wr.heap.size := by have := EB2.out; have := HKR.out.size; have := K6.out.size; omega
                clear hrz hkz HRY HRZ HKC
                go_upto_region 25 with (at_builtin; refine wpList_app1 wr rfl _ _ 34 B2 40 j0 (.slice none 0 0) 24 Try.underlying34 gi gz0 gz1 gz2 rfl (by decide) rfl u13 k (fl (f 0) k) (by rfl) O0.out (.slice (some ⟨by_, 0, none⟩) y y) (by rfl) rfl hB6 (by omega) ?_; intro vb' w7 hs7 hk7 hl7)
                have T7 := T6.out.app (a := 0) (gn := by_) (c := y) (V2 := v3 vb' u14 u15) (kk2 := v3 (k + 1) k k) (f2 := fun b i => if b = 0 ∧ i = k then .slice (some ⟨by_, 0, none⟩) y y else f b i) (val := .slice (some ⟨by_, 0, none⟩) y y) (by omega) (by show _ = Value.slice _ (Lb k).length y; rw [HLb.out]) (by show (Lb k).length ≤ y; rw [HLb.out]; exact Nat.le_refl _) RY.out HBb.out Hlt.out.1 (fun b hb hq => by have := HVb.out b hb _ hq; omega) hs7 hk7 hl7 (fun b hb => by unfold v3; rw [if_neg hb, if_neg hb]) (fun b hb => by unfold v3; rw [if_neg hb]; split <;> rfl) rfl (fun b hb => by funext i; rw [if_neg (fun h => hb h.1)]) (fun i => by by_cases e : i = k; rw [if_pos ⟨rfl, e⟩, if_pos e]; rw [if_neg (fun h => e h.2), if_neg e])
                have K7 : Hid (Kept [] w2 w7) := Hid.mk ((HKR.out.trans K6.out).step hk7 (fun x hx => .inr (by have := own_loE O0.out x hx; have := EB2.out; omega)))
                have Hlt7 : Hid (bz < w7.heap.size ∧ wr.heap.size ≤ w7.heap.size) := Hid.mk ⟨by have := Hlt.out.2; have := hk7.size; omega, hk7.size⟩
                have RZ7 : Hid (Reads w7 (some ⟨bz, 0, none⟩) (Ls k)) := Hid.mk (RZ.out.kept hk7 (fun g2 off e hm => by cases e; rw [mem_own] at hm; have := HVb.out 0 (by omega) bz hm; have := Ebz.out; omega))
                have HV7 : Hid (∀ b, b < 3 → (v3 vb' u14 u15 b).ownBlock ≠ some bz) := Hid.mk (fun b hb hq => by
                  by_cases e : b = 0
                  · subst e
                    rcases hl7 with h1 | ⟨g3, h1, h2⟩
                    · have hq' : u13.ownBlock = some bz := by rw [← h1]; exact hq
                      have := HVb.out 0 (by omega) bz hq'; have := Ebz.out; omega
                    · have hq' : vb'.ownBlock = some bz := hq
                      rw [h1] at hq'; cases hq'; have := Hlt.out.2; omega
                  · have e2 : v3 vb' u14 u15 b = v3 u13 u14 u15 b := by unfold v3; rw [if_neg e, if_neg e]
                    rw [e2] at hq
                    have := HVb.out b hb bz hq; have := Ebz.out; omega)
                have T7' := Hid.mk T7
                have hB7 : B2 ≤ w7.heap.size := by have := hk7.size; omega
                clear T7 hs7 hk7 hl7 RY RZ O0 T6
                obtain ⟨f7, ef7⟩ : ∃ f7, f7 = (fun b i => if b = 0 ∧ i = k then Value.slice (some ⟨by_, 0, none⟩) y y else f b i) := ⟨_, rfl⟩
                rw [← ef7] at T7'
                clear ef7
                have O1 := Hid.mk (T7'.out.own 1 (by omega))
                go_upto_region 26 with (at_builtin; refine wpList_app1 w7 rfl _ _ 34 B2 40 j0 (.slice none 0 0) 24 Try.underlying34 gi gz0 gz1 gz2 rfl (by decide) rfl u14 k (fl (f7 1) k) (by rfl) O1.out (.slice (some ⟨bz, 0, none⟩) y y) (by rfl) rfl hB7 (by omega) ?_; intro vs' w8 hs8 hk8 hl8)
                have T8 := T7'.out.app (a := 1) (gn := bz) (c := y) (V2 := v3 vb' vs' u15) (kk2 := v3 (k + 1) (k + 1) k) (f2 := fun b i => if b = 1 ∧ i = k then .slice (some ⟨bz, 0, none⟩) y y else f7 b i) (val := .slice (some ⟨bz, 0, none⟩) y y) (by omega) (by show _ = Value.slice _ (Ls k).length y; rw [HLs.out]) (by show (Ls k).length ≤ y; rw [HLs.out]; exact Nat.le_refl _) RZ7.out HBs.out Hlt7.out.1 HV7.out hs8 hk8 hl8 (fun b hb => v3_1 hb) (fun b hb => v3_1 hb) rfl (fun b hb => by funext i; rw [if_neg (fun h => hb h.1)]) (fun i => by by_cases e : i = k; rw [if_pos ⟨rfl, e⟩, if_pos (show i = v3 (k + 1) k k 1 from e)]; rw [if_neg (fun h => e h.2), if_neg (show ¬ i = v3 (k + 1) k k 1 from e)])
                have K8 : Hid (Kept [] w2 w8) := Hid.mk (K7.out.step hk8 (fun x hx => .inr (by have := own_loE O1.out x hx; have := EB2.out; omega)))
                have T8' := Hid.mk T8
                have hB8 : B2 ≤ w8.heap.size := by have := hk8.size; omega
                clear T8 hs8 hk8 hl8 O1 T7' RZ7 HV7
                obtain ⟨f8, ef8⟩ : ∃ f8, f8 = (fun b i => if b = 1 ∧ i = k then Value.slice (some ⟨bz, 0, none⟩) y y else f7 b i) := ⟨_, rfl⟩
                rw [← ef8] at T8'
                clear ef8
                obtain ⟨gr8, bo8, bc8, hao8, hc8, hrd8⟩ := HRW.out w8 K8.out k hlt
                cases hao8
                rw [← Ey.out] at hc8
                have hA8 : ∀ ob, (w8.alloc ob).cell? ⟨gr, k, none⟩ = some (.slice bo8 y bc8) := fun ob => cell_keep (alloc_kept w8 ob) hc8 (by simp)
                have HLc : Hid (∀ v, X < y → v = (L k).getD X 0 → Lc k = [v]) := Hid.mk (fun v h1 h2 => by rw [ELc.out, sLc, Hsz.out, ← Ey.out, if_pos h1, h2])
                have HLc0 : Hid (¬ X < y → Lc k = []) := Hid.mk (fun h1 => by rw [ELc.out, sLc, Hsz.out, ← Ey.out, if_neg h1])
                have HRD8 := Hid.mk hrd8
                clear hrd8
                go_upto_if 117 with (fail)
                go_cut [20] (fun s wc => ∃ g1 c1, s = .slice (some ⟨g1, 0, none⟩) (Lc k).length c1 ∧ (Lc k).length ≤ c1 ∧ Reads wc (some ⟨g1, 0, none⟩) (Lc k) ∧ Byts (Lc k) ∧ w8.heap.size ≤ g1 ∧ g1 < wc.heap.size ∧ Kept [] w8 wc)
                case first =>
                  by_cases hXy : X < y
                  · obtain ⟨ga, oa, hga, hca⟩ := HRD8.out.cell (j := X) (by rw [Hsz.out, ← Ey.out]; exact hXy)
                    have hAa : ∀ ob, (w8.alloc ob).cell? ⟨ga, oa + X, none⟩ = some (.int .u8 ((L k).getD X 0 : Nat)) := fun ob => cell_keep (alloc_kept w8 ob) hca (by simp)
                    have hvl := getD_lt (L k) X (Hbl.out k)
                    have HE := HLc.out _ hXy rfl
                    have HE' := Hid.mk HE
                    obtain ⟨vv, evv⟩ : ∃ vv, vv = (L k).getD X 0 := ⟨_, rfl⟩
                    rw [← evv] at hAa hvl HE'
                    have ixX : (X : Int) < (y : Int) := by omega
                    have hcs : Hid (∀ m : Array Value, (#[Value.int .u8 (vv : Int)] ++ m)[0]? = some (byt vv)) := Hid.mk (fun m => by rw [Array.getElem?_append_left (by simp)]; rfl)
                    subst hga
                    clear HE evv hca
                    go_wp2
                    all_goals go_meet
                    all_goals rw [HE'.out]
                    all_goals exact ⟨_, _, rfl, cut_ge _, (one_new _ _ _ vv _ (hcs.out _)).1, fun b hb => by simp at hb; subst hb; exact hvl, (by omega), (one_new _ _ _ vv _ (hcs.out _)).2.2.1, (one_new _ _ _ vv _ (hcs.out _)).2.2.2⟩
                  · have HE := Hid.mk (HLc0.out hXy)
                    have ixX : decide ((X : Int) < (y : Int)) = false := by simp; omega
                    have ixX2 : ¬ (X : Int) < (y : Int) := by omega
                    go_wp2
                    all_goals go_meet
                    all_goals rw [HE.out]
                    all_goals exact ⟨_, _, rfl, Nat.le_refl _, (nil_new _ _).1, fun b hb => by simp at hb, Nat.le_refl _, (nil_new _ _).2.1, (nil_new _ _).2.2⟩
                case rest =>
                  obtain ⟨g1, c1, rfl, hc1, hr1, hb1, hg1, hg1', hk1⟩ := hcut
                  have T9 := Hid.mk (T8'.out.keep hk1)
                  have O9 := Hid.mk (T9.out.own 2 (by omega))
                  have hB9 : B2 ≤ wc.heap.size := by have := hk1.size; omega
                  have HG9 : Hid (∀ b, b < 3 → (v3 vb' vs' u15 b).ownBlock ≠ some g1) := Hid.mk (fun b hb hq => by have := own_block_lt (T8'.out.own b hb) g1 (by rw [mem_own]; exact hq); omega)
                  have K9 : Hid (Kept [] w2 wc) := Hid.mk (K8.out.trans hk1)
                  have HR9 := Hid.mk hr1
                  have HB9 := Hid.mk hb1
                  obtain ⟨w9, rfl⟩ : ∃ w9, w9 = wc := ⟨_, rfl⟩
                  clear hr1 hb1 hk1 T8' K8 hc8 hA8 HRD8
                  go_wp2_with (at_builtin; refine wpList_app1 w9 rfl _ _ 34 B2 40 j0 (.slice none 0 0) 24 Try.underlying34 gi gz0 gz1 gz2 rfl (by decide) rfl u15 k (fl (f8 2) k) (by rfl) O9.out (.slice (some ⟨g1, 0, none⟩) (Lc k).length c1) (by rfl) rfl hB9 (by omega) ?_; intro vc' wA hsA hkA hlA)
                  have TA := T9.out.app (a := 2) (gn := g1) (c := c1) (V2 := fun b => if b = 2 then vc' else v3 vb' vs' u15 b) (kk2 := fun b => if b = 2 then k + 1 else v3 (k + 1) (k + 1) k b) (f2 := fun b i => if b = 2 ∧ i = k then .slice (some ⟨g1, 0, none⟩) (Lc k).length c1 else f8 b i) (val := .slice (some ⟨g1, 0, none⟩) (Lc k).length c1) (by omega) rfl hc1 HR9.out HB9.out hg1' HG9.out hsA hkA hlA (fun b hb => if_neg hb) (fun b hb => if_neg hb) rfl (fun b hb => by funext i; rw [if_neg (fun h => hb h.1)]) (fun i => by by_cases e : i = k; rw [if_pos ⟨rfl, e⟩, if_pos (show i = v3 (k + 1) (k + 1) k 2 from e)]; rw [if_neg (fun h => e h.2), if_neg (show ¬ i = v3 (k + 1) (k + 1) k 2 from e)])
                  have TA' := Hid.mk (TA.congr (V2 := v3 vb' vs' vc') (kk2 := fun _ => k + 1) (fun a ha => by by_cases e : a = 2; rw [if_pos e, e]; rfl; rw [if_neg e]; exact (v3_2 ha e)) (fun a ha => by by_cases e : a = 2; rw [if_pos e]; rw [if_neg e]; unfold v3; split; rfl; rw [if_pos (by omega)]))
                  have KA : Hid (Kept [] w2 wA) := Hid.mk (K9.out.step hkA (fun x hx => .inr (by have := own_loE O9.out x hx; have := EB2.out; omega)))
                  clear TA hsA hkA hlA
                  go_roundw
                  case rel => exact ⟨k + 1, _, by omega, by go_num, TA'.out, KA.out⟩
                  case measure => simp [intOf]; omega
        · obtain rfl : n = k := by omega
          obtain ⟨ab, cb, hvb, _, hmb, hbb⟩ := hT.mc (a := 0) (by omega)
          obtain ⟨as_, cs_, hvs, _, hms, hbs⟩ := hT.mc (a := 1) (by omega)
          obtain ⟨ac, cc, hvc, _, hmc, hbc⟩ := hT.mc (a := 2) (by omega)
          have hvb' : u13 = .slice ab n cb := hvb
          have hvs' : u14 = .slice as_ n cs_ := hvs
          have hvc' : u15 = .slice ac n cc := hvc
          have hWL : W = wx (fun i => (L i).length) n := by rw [EW.out]; exact (wx_congr (fun i _ => Hsz.out i)).symm
          have CA : Hid (∀ u, Kept [] wr u → Calls Try.prog 13 #[.slice ao n c, .int .i64 (P : Int)] u fun e w' => ∃ g, e = .returned (.tuple #[.slice (some ⟨g, 0, none⟩) P P, .int .i64 0]) ∧ Mr w' g P W (mk (ll L n)) ∧ Kept [] u w') := Hid.mk (fun u hu => by
            have := make_good ao n c P L wr u (HST.out.keep hkr).mc (HST.out.keep hkr).bm hn hP (fun i _ => Hln.out i) hu
            rw [← hWL] at this
            exact this)
          have CB : Hid (∀ u, Kept [] wr u → Calls Try.prog 13 #[.slice ab n cb, .int .i64 (P : Int)] u fun e w' => ∃ g, e = .returned (.tuple #[.slice (some ⟨g, 0, none⟩) P P, .int .i64 0]) ∧ Mr w' g P W (mk (ll Lb n)) ∧ Kept [] u w') := Hid.mk (fun u hu => by
            have := make_good ab n cb P Lb wr u hmb hbb hn hP (fun i _ => by rw [ELb.out, sLb, rg_length]; exact Hln.out i) hu
            rw [show wx (fun i => (Lb i).length) n = W from by rw [hWL, ELb.out]; exact sLb_wx L M nm_ n] at this
            exact this)
          have CS : Hid (∀ u, Kept [] wr u → Calls Try.prog 13 #[.slice as_ n cs_, .int .i64 (P : Int)] u fun e w' => ∃ g, e = .returned (.tuple #[.slice (some ⟨g, 0, none⟩) P P, .int .i64 0]) ∧ Mr w' g P W (fun i x => mk (ll L n) i x ^^^ mk (ll Lb n) i x) ∧ Kept [] u w') := Hid.mk (fun u hu => by
            have := make_good as_ n cs_ P Ls wr u hms hbs hn hP (fun i _ => by rw [ELs.out, sLs, rg_length]; exact Hln.out i) hu
            rw [show wx (fun i => (Ls i).length) n = W from by rw [hWL, ELs.out]; exact sLs_wx L M nm_ n, show mk (ll Ls n) = fun i x => mk (ll L n) i x ^^^ mk (ll Lb n) i x from by rw [ELs.out, ELb.out]; funext i x; exact sums_mk L M nm_ n i x] at this
            exact this)
          have CC : Hid (∃ Wc, (X < W → Wc = 1) ∧ ∀ u, Kept [] wr u → Calls Try.prog 13 #[.slice ac n cc, .int .i64 (P : Int)] u fun e w' => ∃ g, e = .returned (.tuple #[.slice (some ⟨g, 0, none⟩) P P, .int .i64 0]) ∧ Mr w' g P Wc (mk (ll Lc n)) ∧ Kept [] u w') := Hid.mk ⟨wx (fun i => (Lc i).length) n, fun h => by rw [ELc.out]; exact sLc_wx L X n (by rw [← hWL]; exact h), fun u hu => make_good ac n cc P Lc wr u hmc hbc hn hP (fun i _ => by have := sLc_len L X i; rw [ELc.out]; omega) hu⟩
          have HCM : Hid (∀ i, mk (ll Lc n) i 0 = mk (ll L n) i X) := Hid.mk (fun i => by rw [ELc.out]; exact col_mk L X n i)
          obtain ⟨Wc, hWc, CC'⟩ := CC.out
          have CD := Hid.mk CC'
          have HWc := Hid.mk hWc
          have KR := Hid.mk (Kept.refl [] wr)
          obtain ⟨fa, efa⟩ : ∃ fa, fa = mk (ll L n) := ⟨_, rfl⟩
          obtain ⟨fb, efb⟩ : ∃ fb, fb = mk (ll Lb n) := ⟨_, rfl⟩
          obtain ⟨fc, efc⟩ : ∃ fc, fc = mk (ll Lc n) := ⟨_, rfl⟩
          have HFL : Hid (∀ i x, fa i x < 256 ∧ fb i x < 256) := Hid.mk (fun i x => by rw [efa, efb]; exact ⟨mk_lt _ _ _, mk_lt _ _ _⟩)
          rw [← efa] at CA CS HCM
          rw [← efb] at CB CS
          rw [← efc] at CD HCM
          have KW := Hid.mk (HK2.out.trans hkr)
          subst hvb' hvs' hvc'
          clear hvb hvs hvc hmb hbb hms hbs hmc hbc hT CC CC' hWc hWL HRW HST HNIL Hm ELb ELs ELc efa efb efc EB2 HK2 EW Hsz Hbl Hln hkr
          obtain ⟨w3, rfl⟩ : ∃ w3, w3 = wr := ⟨_, rfl⟩
          go_wp2_with (go_at_call 13; first | (refine (CD.out _ ((kA.trans kB).trans kS)).mono ?_; rintro e w7 ⟨gC, rfl, hC, kC⟩) | (refine (CS.out _ (kA.trans kB)).mono ?_; rintro e w6 ⟨gS, rfl, hS, kS⟩) | (refine (CB.out _ kA).mono ?_; rintro e w5 ⟨gB, rfl, hB, kB⟩) | (refine (CA.out _ KR.out).mono ?_; rintro e w4 ⟨gA, rfl, hA, kA⟩))
          have HA := Hid.mk (((hA.keep kB).keep kS).keep kC)
          have HB := Hid.mk ((hB.keep kS).keep kC)
          have HS := Hid.mk (hS.keep kC)
          have HC := Hid.mk hC
          have KF : Hid (Kept [] w3 w7) := Hid.mk (((kA.trans kB).trans kS).trans kC)
          clear hA hB hS hC kA kB kS kC CA CB CS CD KR
          have HWW := Hid.mk hW
          go_loopw [29] (fun i wr => ∃ k : Nat, k ≤ P ∧ i = .int .i64 (k : Int) ∧ Kept [] w7 wr) (fun i _ => P - (intOf i).toNat)
          case atStart => exact ⟨0, by omega, rfl, Kept.refl _ _⟩
          case round =>
            obtain ⟨k, hk, rfl, hkr⟩ := hrel
            by_cases hlt : k < P
            · obtain ⟨BA, oA, hA1, hA2⟩ := (HA.out.keep hkr) k hlt
              obtain ⟨BB, oB, hB1, hB2⟩ := (HB.out.keep hkr) k hlt
              obtain ⟨BS, oS, hS1, hS2⟩ := (HS.out.keep hkr) k hlt
              have ix : (k : Int) < (P : Int) := by omega
              have HKR := Hid.mk hkr
              clear hA2 hB2 hS2 hkr
              go_wp2
              go_quiet (fail)
              go_wp2
              go_loopw [30] (fun i wr => ∃ t : Nat, t ≤ W ∧ i = .int .i64 (t : Int) ∧ Kept [] w7 wr) (fun i _ => W - (intOf i).toNat)
              case atStart => exact ⟨0, by omega, rfl, HKR.out.drewN _⟩
              case round =>
                obtain ⟨t, ht, rfl, hkt⟩ := hrel
                have HKT := Hid.mk hkt
                clear hA1 hB1 hS1
                obtain ⟨BA, oA, hA1, hA2⟩ := (HA.out.keep hkt) k hlt
                by_cases htl : t < W
                · obtain ⟨BB, oB, hB1, hB2⟩ := (HB.out.keep hkt) k hlt
                  obtain ⟨BS, oS, hS1, hS2⟩ := (HS.out.keep hkt) k hlt
                  have a2 := hA2 t htl
                  have b2 := hB2 t htl
                  have s2 : wr.cell? ⟨BS, oS + t, none⟩ = some (.int .u8 ((fa k t ^^^ fb k t : Nat) : Int)) := hS2 t htl
                  have hal := (HFL.out k t).1
                  have hbl := (HFL.out k t).2
                  have hxor := u8_xor_nat (fa k t) (fb k t) hal hbl
                  have ixt : (t : Int) < (W : Int) := by omega
                  clear hA2 hB2 hS2 hkt
                  obtain ⟨va, eva⟩ : ∃ va, va = fa k t := ⟨_, rfl⟩
                  obtain ⟨vb, evb⟩ : ∃ vb, vb = fb k t := ⟨_, rfl⟩
                  rw [← eva] at a2 hxor hal s2
                  rw [← evb] at b2 hxor hbl s2
                  clear eva evb
                  go_wp2
                  go_quiet (fail)
                  go_wp2
                  go_roundw
                  case rel => exact ⟨t + 1, by omega, by go_num, HKT.out.drewN _⟩
                  case measure => simp [intOf]; omega
                · obtain rfl : W = t := by omega
                  by_cases hXW : X < W
                  · obtain ⟨BC, oC, hC1, hC2⟩ := (HC.out.keep hkt) k hlt
                    have hw1 := HWc.out hXW
                    subst hw1
                    have c2 := hC2 0 (by omega)
                    have a2 := hA2 X hXW
                    rw [HCM.out k, Nat.add_zero] at c2
                    obtain ⟨va, eva⟩ : ∃ va, va = fa k X := ⟨_, rfl⟩
                    rw [← eva] at a2 c2
                    have ixX : (X : Int) < (W : Int) := by omega
                    clear hA2 hC2 hkt eva
                    go_wp2
                    go_quiet (fail)
                    go_wp2
                    go_roundw
                    case rel => exact ⟨k + 1, by omega, by go_num, HKT.out.drewN _⟩
                    case measure => simp [intOf]; omega
                  · have ixX : decide ((X : Int) < (W : Int)) = false := by simp; omega
                    clear hA2 hkt
                    go_wp2
                    go_quiet (fail)
                    go_wp2
                    go_roundw
                    case rel => exact ⟨k + 1, by omega, by go_num, HKT.out.drewN _⟩
                    case measure => simp [intOf]; omega
            · obtain rfl : P = k := by omega
              have HKP := Hid.mk hkr
              clear hkr
              go_wp2
              go_ret
              exact ⟨rfl, (KW.out.trans KF.out).trans HKP.out⟩
end Go.Proofs.Ytmgfapooanpgfaa
