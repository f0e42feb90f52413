import Derived.Test.YtmgfapooanpgfaaBc
namespace Go.Proofs.Ytmgfapooanpgfaa
open Go.RowKit

set_option maxHeartbeats 16000000 in
set_option maxRecDepth 1000000 in
theorem back_any (lo : Option Addr) (nl cl : Nat) (S : Nat → ByteArray) (p : Int) (xo : Option Addr) (m0 cx : Nat) (q : Nat → Int) (w : World) (hl : Sv w lo nl (fun i => .string (S i))) (hnl : nl ≤ 140737488355328) (hp : -9223372036854775808 ≤ p ∧ p ≤ 9223372036854775807) (hx : RdI w xo q m0) (hq : ∀ i, i < m0 → -9223372036854775808 ≤ q i ∧ q i ≤ 9223372036854775807) (hm0 : m0 ≤ 140737488355328) :
    Calls Try.prog 4 #[.slice lo nl cl, .int .i64 p, .slice xo m0 cx] w fun e w' => e = .returned (.bool true) ∧ Kept [] w w' := by
  obtain ⟨i0, hi, hz0, hz1, hz2⟩ := info_parts Try.infoI
  obtain ⟨j0, gi, gz0, gz1, gz2⟩ := info_parts Try.infoS
  have C1 := Hid.mk awake_any
  have C3 : Hid (∀ u, Calls Try.prog 12 #[.int .i64 p, .int .i64 17] u fun e w' => e = .returned (.int .i64 ((pick p 17).toNat : Int)) ∧ w' = u) := Hid.mk (fun u => (pick_any p 17 u hp.1 hp.2 (by omega)).mono (by
    rintro e w' ⟨rfl, rfl⟩
    exact ⟨by rw [Int.toNat_of_nonneg (pick_lo p 17 (by omega))], rfl⟩))
  have hP : (pick p 17).toNat ≤ 16 := by have := pick_lo p 17 (by omega); have := pick_hi p 17 (by omega); omega
  obtain ⟨P, eP⟩ : ∃ P, P = (pick p 17).toNat := ⟨_, rfl⟩
  rw [← eP] at C3 hP
  clear eP
  obtain ⟨n, en⟩ : ∃ n, n = min nl 200 := ⟨_, rfl⟩
  have hn : n ≤ 200 := by omega
  have Hbl : Hid (∀ i, i < n → Byts (rowS (S i))) := Hid.mk (fun i _ => byl_byts _)
  have Hln : Hid (∀ i, (rowS (S i)).length ≤ 16777216) := Hid.mk (fun i => rowS_len _)
  obtain ⟨L, eL⟩ : ∃ L, L = (fun i => rowS (S i)) := ⟨_, rfl⟩
  have Hbl : Hid (∀ i, i < n → Byts (L i)) := Hid.mk (by rw [eL]; exact fun i _ => byl_byts _)
  have Hln : Hid (∀ i, (L i).length ≤ 16777216) := Hid.mk (by rw [eL]; exact fun i => rowS_len _)
  have C2 : Hid (∀ w1, Kept [] w w1 → Calls Try.prog 11 #[.slice lo nl cl] w1 fun e w' => ∃ ao c fr ks, e = .returned (.slice ao n c) ∧ (ao = none → n = 0 ∧ c = 0) ∧ St w' ks ao n fr L ∧ (∀ x ∈ ks, w1.heap.size ≤ x ∧ x < w'.heap.size) ∧ Kept [] w1 w') := Hid.mk (fun w1 hk => by subst eL; subst en; exact rowsOf_st lo nl cl S w1 (hl.keep hk) hnl)
  clear eL hl en
  have Hx := Hid.mk hx
  have Hq := Hid.mk hq
  clear hx hq
  have C4 := Hid.mk (fun w1 w2 ao c fr ks h0 h1 h2 => make_st ao n c P L fr ks w1 w2 h0 h1 h2 hn hP Hln.out)
  go_enter Try.func4, Try.ntmps4
  go_wp2_with (first | (go_at_call 8; refine (C1.out _).mono ?_; rintro e w1 ⟨rfl, hk1⟩) | (go_at_call 11; refine (C2.out _ hk1).mono ?_; rintro e w2 ⟨ao, c, fr, ks0, rfl, hnil, hst2, hks2, hk2⟩) | (go_at_call 12; refine (C3.out _).mono ?_; rintro e w2' ⟨rfl, hw⟩; obtain rfl := hw.symm) | (go_at_call 13; refine (C4.out _ _ _ _ _ _ hk2 hst2 hks2).mono ?_; rintro e w3 ⟨g, ks, fm, rfl, hr3, hm3, hks3, hne3, hgm, hk3⟩))
  have HK3 : Hid (Kept [] w w3) := Hid.mk (hk1.trans hk3)
  have HKS : Hid (∀ x ∈ ks, w.heap.size ≤ x) := Hid.mk (fun x hx => Nat.le_trans hk1.size (hks3 x hx).1)
  have HKS2 : Hid (∀ x ∈ ks, x < w3.heap.size) := Hid.mk (fun x hx => (hks3 x hx).2)
  have HR3 := Hid.mk hr3
  have HM3 := Hid.mk hm3
  have HNE := Hid.mk hne3
  have HGM := Hid.mk hgm
  have HNIL := Hid.mk hnil
  clear hst2 hks2 hk2 hr3 hm3 hks3 hne3 hgm hk3 hk1 hnil C1 C2 C3 C4
  obtain ⟨sz, esz⟩ : ∃ sz : Nat → Nat, sz = fun i => (L i).length := ⟨_, rfl⟩
  have Hsz : Hid (∀ i, (L i).length = sz i) := Hid.mk (fun i => by rw [esz])
  rw [← esz] at HM3
  clear esz
  obtain ⟨B3, eB3⟩ : ∃ B3, B3 = w3.heap.size := ⟨_, rfl⟩
  have EB3 := Hid.mk eB3
  clear eB3
  go_loopw [11, 12, 13, 14] (fun vs t vw i wr => ∃ k : Nat, k ≤ n ∧ i = .int .i64 (k : Int) ∧ t = .int .i64 (wx sz k : Int) ∧ wr.ownsRow B3 3 1 vs k (fl (vI sz) k) ∧ wr.ownsRow B3 9 1 vw k (fl (fun i => .string (bstr (L i))) k) ∧ Kept [] w3 wr) (fun _ _ _ i _ => n - (intOf i).toNat)
  case atStart => exact ⟨0, by omega, rfl, rfl, ⟨rfl, .inl ⟨rfl, rfl⟩⟩, ⟨rfl, .inl ⟨rfl, rfl⟩⟩, Kept.refl _ _⟩
  case round =>
    obtain ⟨k, hk, rfl, rfl, hs, hw, hkr⟩ := hrel
    by_cases hlt : k < n
    · have HRD : Hid (∀ u, Kept [] w3 u → ∃ gr bo bc, ao = some ⟨gr, 0, none⟩ ∧ u.cell? ⟨gr, k, none⟩ = some (.slice bo (sz k) bc) ∧ Sem.run Try.prog (convert 40 9 (.slice bo (sz k) bc)) u = .ok (.string (bstr (L k))) u) := Hid.mk (fun u hu => by
        obtain ⟨gr, e, hgr, hc0, _⟩ := (HR3.out.keep hu).at hlt
        obtain ⟨bo, bc, hf, _, hrd, _, _⟩ := (HR3.out.keep hu).row k hlt
        rw [hf] at hc0
        have hcv := reads_str hrd bc
        rw [Hsz.out k] at hc0 hcv
        exact ⟨gr, bo, bc, e, hc0, hcv⟩)
      obtain ⟨gr, bo, bc, hao, hc0, _⟩ := HRD.out wr hkr
      have ix : (k : Int) < (n : Int) := by omega
      have Hx1 : Hid (wx sz (k + 1) = max (wx sz k) (sz k)) := Hid.mk rfl
      have hBw : B3 ≤ wr.heap.size := by have := EB3.out; have := hkr.size; omega
      have Hs := Hid.mk hs
      have Hw := Hid.mk hw
      have Hkr := Hid.mk hkr
      have Hao := Hid.mk hao
      have Hfs := Hid.mk (fl_one (vI sz) k (.int .i64 (sz k : Int)) rfl)
      have Hfw := Hid.mk (fl_one (fun i => Value.string (bstr (L i))) k (.string (bstr (L k))) rfl)
      obtain ⟨x, e⟩ : ∃ x, x = wx sz k := ⟨_, rfl⟩
      rw [← e] at Hx1 ⊢
      clear e
      obtain ⟨y, e⟩ : ∃ y, y = sz k := ⟨_, rfl⟩
      rw [← e] at Hx1 hc0 HRD Hfs
      clear e hs hw hkr
      subst hao
      go_upto_region 14 with (at_builtin; refine wpList_app1 wr rfl _ _ 30 B3 3 i0 (.int .i64 0) 8 Try.underlying30 hi hz0 hz1 hz2 rfl (by decide) rfl u11 k (fl (vI sz) k) (by rfl) Hs.out (.int .i64 (y : Int)) (by rfl) rfl hBw (by omega) ?_; intro vs' w4 hs4 hk4 hl4)
      have HK4 : Hid (Kept [] w3 w4) := Hid.mk (Hkr.out.step hk4 (fun x hx => .inr (by have := own_loE Hs.out x hx; have := EB3.out; omega)))
      have Hs4 := Hid.mk hs4
      rw [Hfs.out] at Hs4
      have Hw4 := Hid.mk (hk4.row Hw.out (own_ne2 Hs.out Hw.out (by decide)))
      obtain ⟨gr4, bo4, bc4, hao4, hc4, hcv4⟩ := HRD.out w4 HK4.out
      cases hao4
      have hBw4 : B3 ≤ w4.heap.size := by have := hk4.size; omega
      clear hs4 hc0 hk4 hl4
      go_upto_region 15 with (fail)
      rw [max_int]
      obtain ⟨mx, emx⟩ : ∃ mx, mx = max x y := ⟨_, rfl⟩
      rw [← emx]
      rw [← emx] at Hx1
      clear emx
      go_wp2_with (at_builtin; refine wpList_app1 w4 rfl _ _ 29 B3 9 j0 (.string ⟨#[]⟩) 16 Try.underlying29 gi gz0 gz1 gz2 rfl (by decide) rfl u13 k (fl (fun i => .string (bstr (L i))) k) (by rfl) Hw4.out (.string (bstr (L k))) (by rfl) rfl hBw4 (by omega) ?_; intro vw' w5 hs5 hk5 hl5)
      have Hs5 := hk5.row Hs4.out (own_ne2 Hw4.out Hs4.out (by decide))
      have Hw5 := hs5
      rw [Hfw.out] at Hw5
      have HK5 : Kept [] w3 w5 := HK4.out.step hk5 (fun x hx => .inr (by have := own_loE Hw4.out x hx; have := EB3.out; omega))
      exact ⟨⟨k + 1, by omega, by go_num, by rw [Hx1.out], Hs5, Hw5, HK5⟩, by simp [intOf]; omega⟩
    · obtain rfl : n = k := by omega
      obtain ⟨Mk, eMk⟩ : ∃ Mk : Nat → List Nat, Mk = fun j => rg (mk (ll L n) j) (wx sz n) := ⟨_, rfl⟩
      have EMk := Hid.mk eMk
      rw [← eMk] at HM3
      obtain ⟨W, eW⟩ : ∃ W, W = wx sz n := ⟨_, rfl⟩
      have HMl : Hid (∀ j, (Mk j).length = W) := Hid.mk (fun j => by rw [eMk, eW, rg_length])
      have EW := Hid.mk eW
      rw [← eW]
      clear eW eMk
      obtain ⟨WT, eWT⟩ : ∃ WT : Nat → List Nat, WT = fun i => if i < n then L i else Mk (i - n) := ⟨_, rfl⟩
      have HWT1 : Hid (∀ i, i < n → WT i = L i) := Hid.mk (fun i hi => by rw [eWT]; exact if_pos hi)
      have HWT2 : Hid (∀ i, WT (n + i) = Mk i) := Hid.mk (fun i => by rw [eWT]; show (if n + i < n then _ else _) = _; rw [if_neg (by omega), Nat.add_sub_cancel_left])
      have HS4 := Hid.mk hs
      have HW4 : Hid (wr.ownsRow B3 9 1 u13 n (fl (fun i => .string (bstr (WT i))) n)) := Hid.mk (by rw [fl_congr (g := fun i => .string (bstr (L i))) (fun i hi => by rw [HWT1.out i hi])]; exact hw)
      have HK4 := Hid.mk hkr
      clear hs hw hkr eWT
      go_wp2
      go_loopw [13, 15] (fun vw i wr1 => ∃ k : Nat, k ≤ P ∧ i = .int .i64 (k : Int) ∧ wr1.ownsRow B3 9 1 vw (n + k) (fl (fun i => .string (bstr (WT i))) (n + k)) ∧ wr1.ownsRow B3 3 1 u11 n (fl (vI sz) n) ∧ Kept [] w3 wr1) (fun _ i _ => P - (intOf i).toNat)
      case atStart => exact ⟨0, by omega, rfl, HW4.out, HS4.out, HK4.out⟩
      case round =>
        obtain ⟨k, hk, rfl, hw, hs, hkr⟩ := hrel
        clear HW4 HS4 HK4
        by_cases hlt : k < P
        · have HRD : Hid (∀ u, Kept [] w3 u → ∃ bo bc, u.cell? ⟨g, k, none⟩ = some (.slice bo W bc) ∧ Sem.run Try.prog (convert 40 9 (.slice bo W bc)) u = .ok (.string (bstr (WT (n + k)))) u) := Hid.mk (fun u hu => by
            obtain ⟨g2, e, _, hc0, _⟩ := (HM3.out.keep hu).at hlt
            cases e
            obtain ⟨bo, bc, hf, _, hrd, _, _⟩ := (HM3.out.keep hu).row k hlt
            rw [hf] at hc0
            have hcv := reads_str hrd bc
            rw [HMl.out k] at hc0 hcv
            rw [HWT2.out k]
            exact ⟨bo, bc, hc0, hcv⟩)
          obtain ⟨bo, bc, hc0, hcv0⟩ := HRD.out wr hkr
          have ix : (k : Int) < (P : Int) := by omega
          have hBw : B3 ≤ wr.heap.size := by have := EB3.out; have := hkr.size; omega
          have Hs := Hid.mk hs
          have Hw := Hid.mk hw
          have Hkr := Hid.mk hkr
          have Hfw := Hid.mk (fl_one (fun i => Value.string (bstr (WT i))) (n + k) (.string (bstr (WT (n + k)))) rfl)
          clear hs hw hkr
          go_wp2_with (at_builtin; refine wpList_app1 wr rfl _ _ 29 B3 9 j0 (.string ⟨#[]⟩) 16 Try.underlying29 gi gz0 gz1 gz2 rfl (by decide) rfl u13 (n + k) (fl (fun i => .string (bstr (WT i))) (n + k)) (by rfl) Hw.out (.string (bstr (WT (n + k)))) (by rfl) rfl hBw (by omega) ?_; intro vw' w5 hs5 hk5 hl5)
          have Hs5 := hk5.row Hs.out (own_ne2 Hw.out Hs.out (by decide))
          rw [Hfw.out] at hs5
          have HK5 : Kept [] w3 w5 := Hkr.out.step hk5 (fun x hx => .inr (by have := own_loE Hw.out x hx; have := EB3.out; omega))
          exact ⟨⟨k + 1, by omega, by go_num, hs5, Hs5, HK5⟩, by simp [intOf]; omega⟩
        · obtain rfl : P = k := by omega
          have HS4 := Hid.mk hs
          have HW4 := Hid.mk hw
          have HK4 := Hid.mk hkr
          have HR4 := Hid.mk (HR3.out.keep hkr)
          have HM4 := Hid.mk (HM3.out.keep hkr)
          have HBw4 : Hid (B3 ≤ wr.heap.size) := Hid.mk (by have := EB3.out; have := hkr.size; omega)
          clear hs hw hkr HR3 HM3
          go_wp2
          obtain ⟨w5, rfl⟩ : ∃ w5, w5 = wr := ⟨_, rfl⟩
          have HKw : Hid (Kept [] w w5) := Hid.mk (HK3.out.trans HK4.out)
          obtain ⟨B5, eB5⟩ : ∃ B5, B5 = w5.heap.size := ⟨_, rfl⟩
          have EB5 := Hid.mk eB5
          clear eB5
          have HU : Hid (∀ x ∈ u11.ownBlock.toList, x < B5) := Hid.mk (fun x hx => by
            rw [mem_own] at hx
            have := EB5.out
            rcases HS4.out.2 with ⟨e, _⟩ | ⟨g, cap, cur, e, _, hg, _⟩
            · rw [e] at hx; simp [Value.ownBlock] at hx
            · rw [e] at hx; simp [Value.ownBlock] at hx; subst hx; have := lt_of_block hg; omega)
          have HKB : Hid (∀ x ∈ ks, w.heap.size ≤ x ∧ x < w5.heap.size) := Hid.mk (fun x hx => ⟨HKS.out x hx, Nat.lt_of_lt_of_le (HKS2.out x hx) HK4.out.size⟩)
          go_loopw [16, 17] (fun vg i wr1 => ∃ (i_ m : Nat) (lf : Nat → Nat) (Lr Lm : Nat → List Nat) (Fr Fm : Nat → Value), i_ ≤ m0 ∧ m ≤ P ∧ i = .int .i64 (i_ : Int) ∧ L3 wr1 w ks ao g n P B5 B3 m vg u13 u11 lf Lr Lm L Mk Fr Fm WT sz) (fun _ i _ => m0 - (intOf i).toNat)
          case atStart => exact ⟨0, 0, fun _ => 0, L, Mk, fr, fm, by omega, by omega, rfl, ⟨⟨rfl, .inl ⟨rfl, rfl⟩⟩, fun t ht => by omega, HR4.out, HM4.out, fun _ _ _ => rfl, fun _ _ _ => rfl, HW4.out, HS4.out, HKw.out, by have := EB5.out; omega, HKB.out⟩⟩
          case round =>
            obtain ⟨i_, m, lf, Lr, Lm, Fr, Fm, hi1, hm1, rfl, h3⟩ := hrel
            clear HR4 HM4 HW4 HS4 HK4
            by_cases hcnd : i_ < m0 ∧ m < P
            · obtain ⟨gx, ox, hxo, hcx'⟩ := Hx.out.at hcnd.1
              have hcx := cell_keep h3.kw hcx' (by simp)
              have hqi := Hq.out i_ hcnd.1
              have C5 : Hid (∀ u, Calls Try.prog 12 #[.int .i64 (q i_), .int .i64 ((n : Int) + (P : Int))] u fun e w' => e = .returned (.int .i64 ((pick (q i_) ((n : Int) + (P : Int))).toNat : Int)) ∧ w' = u) := Hid.mk (fun u => (pick_any (q i_) _ u hqi.1 hqi.2 (by omega)).mono (by
                rintro e w' ⟨rfl, rfl⟩
                exact ⟨by rw [Int.toNat_of_nonneg (pick_lo _ _ (by omega))], rfl⟩))
              have hkk : (pick (q i_) ((n : Int) + (P : Int))).toNat < n + P := by have := pick_lo (q i_) ((n : Int) + (P : Int)) (by omega); have := pick_hi (q i_) ((n : Int) + (P : Int)) (by omega); omega
              obtain ⟨kk, ekk⟩ : ∃ kk, kk = (pick (q i_) ((n : Int) + (P : Int))).toNat := ⟨_, rfl⟩
              rw [← ekk] at C5 hkk
              obtain ⟨qi, eqi⟩ : ∃ qi, qi = q i_ := ⟨_, rfl⟩
              rw [← eqi] at C5 hcx
              clear ekk eqi hqi hcx'
              obtain ⟨wao, wc, rfl⟩ := own_form h3.ww
              have ixl : (i_ : Int) < (m0 : Int) := by omega
              obtain ⟨vao, vc, rfl⟩ := own_form h3.ov
              have ixm : decide ((m : Int) < (P : Int)) = true := by simp; omega
              have ixm2 : m < P := hcnd.2
              subst hxo
              have H3 := Hid.mk h3
              have hb5 := h3.b5
              have HV := Hid.mk h3.ov
              clear h3
              go_upto_region 28 with (first | (go_at_call 12; refine (C5.out _).mono ?_; rintro e w6 ⟨rfl, hw⟩; obtain rfl := hw.symm) | (at_builtin; refine wpList_app1 wr rfl _ _ 30 B5 3 i0 (.int .i64 0) 8 Try.underlying30 hi hz0 hz1 hz2 rfl (by decide) rfl (.slice vao m vc) m (fl (vI lf) m) (by rfl) HV.out (.int .i64 (kk : Int)) (by rfl) rfl hb5 (by omega) ?_; intro vg' w6 hg6 hk6 hl6))
              have h6 := H3.out.app (lf' := fun t => if t = m then kk else lf t) (fun t ht => if_neg (by omega)) (if_pos rfl) HU.out (by have := EB5.out; have := HKw.out.size; omega) hkk hg6 hk6 hl6
              have HG6 : Hid (gon (fun t => if t = m then kk else lf t) (m + 1) kk = true) := Hid.mk (gon_iff.2 ⟨m, by omega, if_pos rfl⟩)
              clear H3 HV hg6 hk6 hl6 hb5
              obtain ⟨lf', elf⟩ : ∃ lf', lf' = (fun t => if t = m then kk else lf t) := ⟨_, rfl⟩
              rw [← elf] at h6 HG6
              clear elf
              by_cases hkn : kk < n
              · obtain ⟨gr, rfl, _, hcr, hfr, _⟩ := h6.sr.at hkn
                have hcl := conv_lit w6
                have hA : ∀ cs, (litW w6 cs).cell? ⟨gr, kk, none⟩ = some (Fr kk) := fun cs => cell_keep (litW_kept w6 cs) hcr (by simp)
                have hF : ∀ cs, (litW w6 cs).frozen? ⟨gr, kk, none⟩ = false := fun cs => fz_keep (litW_kept w6 cs) hcr hfr (by simp)
                have hgk : gr ∈ ks := by
                  obtain ⟨g2, e, hm, _⟩ := h6.sr.at hkn
                  cases e
                  rcases List.mem_append.1 hm with h | h
                  · exact absurd h (h6.sr.not_own h6.ov (by decide) (by omega) gr rfl)
                  · exact h
                have hne : gr ≠ g := by rcases HNE.out gr rfl with h | h; exact h; omega
                have H7 := Hid.mk (h6.rows (l := [105, 116, 32, 105, 115, 32, 108, 111, 115, 116]) hne hgk hkn HG6.out (by intro b hb; simp at hb; omega) (litW_kept w6 _) (litW_reads w6 _) (by rw [litW_size]; omega))
                clear h6 hcr hfr
                have ixk : (kk : Int) < (n : Int) := by omega
                go_wp2
                exact ⟨⟨i_ + 1, m + 1, lf', _, _, _, _, by omega, by omega, by go_num, H7.out⟩, by simp [intOf]; omega⟩
              · obtain ⟨g2, e2, _, hcr, hfr, _⟩ := h6.sm.at (i := kk - n) (by omega)
                cases e2
                have hA : ∀ ob, (w6.alloc ob).cell? ⟨g, kk - n, none⟩ = some (Fm (kk - n)) := fun ob => cell_keep (alloc_kept w6 ob) hcr (by simp)
                have hF : ∀ ob, (w6.alloc ob).frozen? ⟨g, kk - n, none⟩ = false := fun ob => fz_keep (alloc_kept w6 ob) hcr hfr (by simp)
                have H7 := Hid.mk (h6.more (k := kk - n) (l := [1, 2, 3]) HNE.out HGM.out (by omega) (by rw [show n + (kk - n) = kk by omega]; exact HG6.out) (by intro b hb; simp at hb; omega) (alloc_kept w6 (.cells ([1, 2, 3].map byt).toArray 5)) (alloc_reads w6 _) (by rw [World.size_alloc]; omega))
                clear h6 hcr hfr
                obtain ⟨d, rfl⟩ : ∃ d, kk = n + d := ⟨kk - n, by omega⟩
                rw [Nat.add_sub_cancel_left] at hA hF H7
                have hsub : ((n + d : Nat) : Int) - (n : Int) = (d : Int) := by omega
                have ixk : (d : Int) < (P : Int) := by omega
                have hdn : decide (((n + d : Nat) : Int) < (n : Int)) = false := by simp; omega
                go_wp2
                exact ⟨⟨i_ + 1, m + 1, lf', _, _, _, _, by omega, by omega, by go_num, H7.out⟩, by simp [intOf]; omega⟩
            · by_cases hc1 : i_ < m0
              · have hmP : m = P := by omega
                have ixl : (i_ : Int) < (m0 : Int) := by omega
                have ixm : decide ((m : Int) < (P : Int)) = false := by simp; omega
                have ixm2 : ¬ m < P := by omega
                clear hmP hcnd
                have H3 := Hid.mk h3
                obtain ⟨wao, wc, rfl⟩ := own_form h3.ww
                obtain ⟨vao, vc, rfl⟩ := own_form h3.ov
                obtain ⟨so, cs, rfl⟩ := own_form h3.ss
                have C6 := Hid.mk (l3_back h3 hn hP hm1 HNIL.out Hsz.out (fun i => by rw [← Hsz.out]; exact Hln.out i) Hbl.out EMk.out HWT1.out HWT2.out)
                clear h3
                go_wp2_with (go_at_call 14; refine C6.out.mono ?_; rintro e w7 ⟨G, rfl, hrow7, hk7⟩)
                have HR7 := Hid.mk hrow7
                have HW7 := Hid.mk ((own_sv2 H3.out.ww).keep hk7)
                have HK7 := Hid.mk (H3.out.kw.trans hk7)
                clear hrow7 hk7 C6 H3
                go_loopw [21] (fun i wr1 => ∃ k : Nat, k ≤ n + P ∧ i = .int .i64 (k : Int) ∧ wr1.heap = w7.heap ∧ Kept [] w7 wr1) (fun i _ => n + P - (intOf i).toNat)
                case atStart => exact ⟨0, by omega, rfl, rfl, Kept.refl _ _⟩
                case round =>
                  obtain ⟨k, hk, rfl, hhp, hkr⟩ := hrel
                  by_cases hlt : k < n + P
                  · obtain ⟨bo, l, hc7, hcv⟩ := HR7.out k hlt
                    have hc := cell_keep hkr hc7 (by simp)
                    obtain ⟨gw, ow, rfl, hcw'⟩ := HW7.out.at hlt
                    have hcw := cell_keep hkr hcw' (by simp)
                    have hcd := hcv wr.drew hhp
                    have Hhp := Hid.mk hhp
                    have Hkr := Hid.mk hkr
                    obtain ⟨z, ez⟩ : ∃ z, z = bstr (WT k) := ⟨_, rfl⟩
                    rw [← ez] at hcd hcw
                    have ix : (k : Int) < ((n : Int) + (P : Int)) := by omega
                    have hzz : (z.toList == z.toList) = true := by simp
                    clear ez hcv hc7 hcw' hhp hkr
                    go_wp2
                    go_region_law (fail)
                    all_goals go_wp2
                    all_goals exact ⟨⟨k + 1, by omega, by go_num, Hhp.out, Hkr.out.drew⟩, by simp [intOf]; omega⟩
                  · obtain rfl : k = n + P := by omega
                    have HK8 := Hid.mk (HK7.out.trans hkr)
                    clear hkr hhp
                    go_wp2
                    go_ret
                    exact ⟨rfl, HK8.out⟩
              · have ixl : ¬ i_ < m0 := hc1
                have ixl2 : decide ((i_ : Int) < (m0 : Int)) = false := by simp; omega
                clear hcnd hc1
                have H3 := Hid.mk h3
                obtain ⟨wao, wc, rfl⟩ := own_form h3.ww
                obtain ⟨vao, vc, rfl⟩ := own_form h3.ov
                obtain ⟨so, cs, rfl⟩ := own_form h3.ss
                have C6 := Hid.mk (l3_back h3 hn hP hm1 HNIL.out Hsz.out (fun i => by rw [← Hsz.out]; exact Hln.out i) Hbl.out EMk.out HWT1.out HWT2.out)
                clear h3
                go_wp2_with (go_at_call 14; refine C6.out.mono ?_; rintro e w7 ⟨G, rfl, hrow7, hk7⟩)
                have HR7 := Hid.mk hrow7
                have HW7 := Hid.mk ((own_sv2 H3.out.ww).keep hk7)
                have HK7 := Hid.mk (H3.out.kw.trans hk7)
                clear hrow7 hk7 C6 H3
                go_loopw [21] (fun i wr1 => ∃ k : Nat, k ≤ n + P ∧ i = .int .i64 (k : Int) ∧ wr1.heap = w7.heap ∧ Kept [] w7 wr1) (fun i _ => n + P - (intOf i).toNat)
                case atStart => exact ⟨0, by omega, rfl, rfl, Kept.refl _ _⟩
                case round =>
                  obtain ⟨k, hk, rfl, hhp, hkr⟩ := hrel
                  by_cases hlt : k < n + P
                  · obtain ⟨bo, l, hc7, hcv⟩ := HR7.out k hlt
                    have hc := cell_keep hkr hc7 (by simp)
                    obtain ⟨gw, ow, rfl, hcw'⟩ := HW7.out.at hlt
                    have hcw := cell_keep hkr hcw' (by simp)
                    have hcd := hcv wr.drew hhp
                    have Hhp := Hid.mk hhp
                    have Hkr := Hid.mk hkr
                    obtain ⟨z, ez⟩ : ∃ z, z = bstr (WT k) := ⟨_, rfl⟩
                    rw [← ez] at hcd hcw
                    have ix : (k : Int) < ((n : Int) + (P : Int)) := by omega
                    have hzz : (z.toList == z.toList) = true := by simp
                    clear ez hcv hc7 hcw' hhp hkr
                    go_wp2
                    go_region_law (fail)
                    all_goals go_wp2
                    all_goals exact ⟨⟨k + 1, by omega, by go_num, Hhp.out, Hkr.out.drew⟩, by simp [intOf]; omega⟩
                  · obtain rfl : k = n + P := by omega
                    have HK8 := Hid.mk (HK7.out.trans hkr)
                    clear hkr hhp
                    go_wp2
                    go_ret
                    exact ⟨rfl, HK8.out⟩
end Go.Proofs.Ytmgfapooanpgfaa
