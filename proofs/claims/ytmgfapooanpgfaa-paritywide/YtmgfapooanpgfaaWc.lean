import Derived.Test.YtmgfapooanpgfaaWb
namespace Go.Proofs.Ytmgfapooanpgfaa
open Go.RowKit

/-- Wide rows that came in. -/
def Ws (w : World) (lo : Option Addr) (nl : Nat) (fm fs : Nat → Int) : Prop := nl = 0 ∨ ∃ g off, lo = some ⟨g, off, none⟩ ∧ ∀ i, i < nl → w.cell? ⟨g, off + i * 2, none⟩ = some (.int .i64 (fm i)) ∧ w.cell? ⟨g, off + i * 2 + 1, none⟩ = some (.int .i64 (fs i))
theorem Ws.keep {w w' : World} {lo : Option Addr} {nl : Nat} {fm fs : Nat → Int} (h : Ws w lo nl fm fs) (hk : Kept [] w w') : Ws w' lo nl fm fs := by
  rcases h with h | ⟨g, off, e, hc⟩
  · exact .inl h
  · exact .inr ⟨g, off, e, fun i hi => ⟨cell_keep hk (hc i hi).1 (by simp), cell_keep hk (hc i hi).2 (by simp)⟩⟩
theorem Ws.at {w : World} {lo : Option Addr} {nl : Nat} {fm fs : Nat → Int} (h : Ws w lo nl fm fs) {i : Nat} (hi : i < nl) : ∃ g off, lo = some ⟨g, off, none⟩ ∧ w.cell? ⟨g, off + i * 2, none⟩ = some (.int .i64 (fm i)) ∧ w.cell? ⟨g, off + i * 2 + 1, none⟩ = some (.int .i64 (fs i)) := by
  rcases h with h | ⟨g, off, e, hc⟩
  · omega
  · exact ⟨g, off, e, hc i hi⟩

theorem wrapI (a b : Nat) (h : a + b < 1000000) : IntKind.i64.wrap ((a : Int) + (b : Int)) = ((a + b : Nat) : Int) := by
  simp only [IntKind.wrap, IntKind.bits, IntKind.signed]; simp; omega
theorem own_base {w : World} {B B' e n : Nat} {v : Value} {xs : List Value} (h : w.ownsRow B e 1 v n xs) (hB : B' ≤ B) : w.ownsRow B' e 1 v n xs := by
  refine ⟨h.1, ?_⟩
  rcases h.2 with h1 | ⟨g, cap, cur, h1, h2, h3⟩
  · exact .inl h1
  · exact .inr ⟨g, cap, cur, h1, by omega, h3⟩

set_option maxHeartbeats 16000000 in
set_option maxRecDepth 1000000 in
theorem comes_any (lo : Option Addr) (nl cl : Nat) (fm fs : Nat → Int) (ao : Option Addr) (n c : Nat) (so : Option Addr) (cs g P : Nat) (xo : Option Addr) (m0 cx : Nat) (q : Nat → Int) (ks : List Nat) (fr fmo : Nat → Value) (L Mk WT : Nat → List Nat) (sz : Nat → Nat) (B3 : Nat) (w w3 : World)
    (hl : Ws w lo nl fm fs) (hfm : ∀ i, i < nl → -9223372036854775808 ≤ fm i ∧ fm i ≤ 9223372036854775807) (hnl : n ≤ nl) (hn : n ≤ 5) (hP0 : 1 ≤ P) (hP : P ≤ 4)
    (hL : ∀ i, i < n → L i = rg (wb (fs i)) (wl (fm i))) (HR3 : Hid (St w3 ks ao n fr L)) (HM3 : Hid (St w3 ks (some ⟨g, 0, none⟩) P fmo Mk)) (eB3 : Hid (w.heap.size ≤ B3 ∧ B3 ≤ w3.heap.size)) (HS3 : Hid (w3.ownsRow B3 3 1 (.slice so n cs) n (fl (vI sz) n)))
    (EMk : Hid (Mk = fun j => rg (mk (ll L n) j) (wx sz n))) (Hsz : Hid (∀ i, (L i).length = sz i)) (Hln : Hid (∀ i, sz i ≤ 16777216)) (Hbl : Hid (∀ i, i < n → Byts (L i))) (HWT1 : Hid (∀ i, i < n → WT i = L i)) (HWT2 : Hid (∀ i, WT (n + i) = Mk i))
    (HKS : Hid (∀ x ∈ ks, w.heap.size ≤ x ∧ x < w3.heap.size)) (HNE : Hid (∀ g2, ao = some ⟨g2, 0, none⟩ → g2 ≠ g ∨ n = 0)) (HGM : Hid (g ∈ ks)) (HNIL : Hid (ao = none → n = 0 ∧ c = 0)) (HK3 : Hid (Kept [] w w3))
    (hx : RdI w xo q m0) (hq : ∀ i, i < m0 → -9223372036854775808 ≤ q i ∧ q i ≤ 9223372036854775807) (hm0 : m0 ≤ 140737488355328) :
    Calls Try.prog 18 #[.slice lo nl cl, .slice ao n c, .slice so n cs, .slice (some ⟨g, 0, none⟩) P P, .slice xo m0 cx] w3 fun e w' => e = .returned (.bool true) ∧ Kept [] w w' := by
  obtain ⟨i0, hi, hz0, hz1, hz2⟩ := info_parts Try.infoI
  obtain ⟨j0, gi, gz0, gz1, gz2⟩ := info_parts Try.infoS
  have Hl := Hid.mk hl
  have Hfm := Hid.mk hfm
  have HL := Hid.mk hL
  have Hx := Hid.mk hx
  have Hq := Hid.mk hq
  obtain ⟨W, eW⟩ : ∃ W, W = wx sz n := ⟨_, rfl⟩
  have HMl : Hid (∀ j, (Mk j).length = W) := Hid.mk (fun j => by rw [EMk.out, eW, rg_length])
  clear hl hfm hL hx hq eW
  go_enter Try.func18, Try.ntmps18
  go_wp2
  go_loopw [12, 13] (fun vw i wr1 => ∃ k : Nat, k ≤ P ∧ i = .int .i64 (k : Int) ∧ wr1.ownsRow w3.heap.size 9 1 vw k (fl (fun i => .string (bstr (WT (n + i)))) k) ∧ wr1.ownsRow B3 3 1 (.slice so n cs) n (fl (vI sz) n) ∧ Kept [] w3 wr1) (fun _ i _ => P - (intOf i).toNat)
  case atStart => exact ⟨0, by omega, rfl, ⟨rfl, .inl ⟨rfl, rfl⟩⟩, HS3.out, Kept.refl _ _⟩
  case round =>
    obtain ⟨k, hk, rfl, hw, hs, hkr⟩ := hrel
    by_cases hlt : k < P
    · have HRD : Hid (∀ u, Kept [] w3 u → ∃ bo bc, u.cell? ⟨g, k, none⟩ = some (.slice bo W bc) ∧ Sem.run Try.prog (convert 40 9 (.slice bo W bc)) u = .ok (.string (bstr (WT (n + k)))) u) := Hid.mk (fun u hu => by
        obtain ⟨g2, e, _, hc0, _⟩ := (HM3.out.keep hu).at hlt
        cases e
        obtain ⟨bo, bc, hf, _, hrd, _, _⟩ := (HM3.out.keep hu).row k hlt
        rw [hf] at hc0
        have hcv := reads_str hrd bc
        rw [HMl.out k] at hc0 hcv
        rw [HWT2.out k]
        exact ⟨bo, bc, hc0, hcv⟩)
      obtain ⟨bo, bc, hc0, hcv0⟩ := HRD.out wr hkr
      have ix : (k : Int) < (P : Int) := by omega
      have hBw : w3.heap.size ≤ wr.heap.size := hkr.size
      have Hs := Hid.mk hs
      have Hw := Hid.mk hw
      have Hkr := Hid.mk hkr
      have Hfw := Hid.mk (fl_one (fun i => Value.string (bstr (WT (n + i)))) k (.string (bstr (WT (n + k)))) rfl)
      clear hs hw hkr
      go_wp2_with (at_builtin; refine wpList_app1 wr rfl _ _ 29 w3.heap.size 9 j0 (.string ⟨#[]⟩) 16 Try.underlying29 gi gz0 gz1 gz2 rfl (by decide) rfl u12 k (fl (fun i => .string (bstr (WT (n + i)))) k) (by rfl) Hw.out (.string (bstr (WT (n + k)))) (by rfl) rfl hBw (by omega) ?_; intro vw' w5 hs5 hk5 hl5)
      have Hs5 := hk5.row Hs.out (own_ne2 Hw.out Hs.out (by decide))
      rw [Hfw.out] at hs5
      have HK5 : Kept [] w3 w5 := Hkr.out.step hk5 (fun x hx => .inr (own_loE Hw.out x hx))
      exact ⟨⟨k + 1, by omega, by go_num, hs5, Hs5, HK5⟩, by simp [intOf]; omega⟩
    · obtain rfl : P = k := by omega
      have HW4 : Hid (wr.ownsRow B3 9 1 u12 P (fl (fun i => .string (bstr (WT (n + i)))) P)) := Hid.mk (own_base hw eB3.out.2)
      have HS4 := Hid.mk hs
      have HK4 := Hid.mk hkr
      have HR4 := Hid.mk (HR3.out.keep hkr)
      have HM4 := Hid.mk (HM3.out.keep hkr)
      clear hs hw hkr HR3 HM3 HS3
      go_wp2
      obtain ⟨w5, rfl⟩ : ∃ w5, w5 = wr := ⟨_, rfl⟩
      have HKw : Hid (Kept [] w w5) := Hid.mk (HK3.out.trans HK4.out)
      obtain ⟨B5, eB5⟩ : ∃ B5, B5 = w5.heap.size := ⟨_, rfl⟩
      have EB5 := Hid.mk eB5
      clear eB5
      have HU : Hid (∀ x ∈ (Value.slice so n cs).ownBlock.toList, x < B5) := Hid.mk (fun x hx => by have := EB5.out; have := own_block_lt HS4.out x hx; omega)
      have HKB : Hid (∀ x ∈ ks, w.heap.size ≤ x ∧ x < w5.heap.size) := Hid.mk (fun x hx => ⟨(HKS.out x hx).1, Nat.lt_of_lt_of_le (HKS.out x hx).2 HK4.out.size⟩)
      go_loopw [14, 15] (fun vg i wr1 => ∃ (i_ m : Nat) (lf : Nat → Nat) (Lr Lm : Nat → List Nat) (Fr Fm : Nat → Value), i_ ≤ m0 ∧ m ≤ P ∧ i = .int .i64 (i_ : Int) ∧ L4 wr1 w ks ao g n P B5 B3 m vg u12 (.slice so n cs) lf Lr Lm L Mk Fr Fm WT sz) (fun _ i _ => m0 - (intOf i).toNat)
      case atStart => exact ⟨0, 0, fun _ => 0, L, Mk, fr, fmo, by omega, by omega, rfl, ⟨⟨rfl, .inl ⟨rfl, rfl⟩⟩, fun t ht => by omega, HR4.out, HM4.out, fun _ _ _ => rfl, fun _ _ _ => rfl, HW4.out, HS4.out, HKw.out, by have := EB5.out; omega, HKB.out⟩⟩
      case round =>
        obtain ⟨i_, m, lf, Lr, Lm, Fr, Fm, hi1, hm1, rfl, h3⟩ := hrel
        clear HR4 HM4 HW4 HS4 HK4
        by_cases hcnd : i_ < m0 ∧ m < P
        · obtain ⟨gx, ox, hxo, hcx'⟩ := Hx.out.at hcnd.1
          have hcx := cell_keep h3.kw hcx' (by simp)
          have hqi := Hq.out i_ hcnd.1
          have C5 : Hid (∀ u, Calls Try.prog 12 #[.int .i64 (q i_), .int .i64 ((n : Int) + (P : Int))] u fun e w' => e = .returned (.int .i64 ((pick (q i_) ((n : Int) + (P : Int))).toNat : Int)) ∧ w' = u) := Hid.mk (fun u => (pick_any (q i_) _ u hqi.1 hqi.2 (by omega)).mono (by
            rintro e w' ⟨rfl, rfl⟩
            exact ⟨by rw [Int.toNat_of_nonneg (pick_lo _ _ (by omega))], rfl⟩))
          have hkk : (pick (q i_) ((n : Int) + (P : Int))).toNat < n + P := by have := pick_lo (q i_) ((n : Int) + (P : Int)) (by omega); have := pick_hi (q i_) ((n : Int) + (P : Int)) (by omega); omega
          obtain ⟨kk, ekk⟩ : ∃ kk, kk = (pick (q i_) ((n : Int) + (P : Int))).toNat := ⟨_, rfl⟩
          rw [← ekk] at C5 hkk
          obtain ⟨qi, eqi⟩ : ∃ qi, qi = q i_ := ⟨_, rfl⟩
          rw [← eqi] at C5 hcx
          clear ekk eqi hqi hcx'
          obtain ⟨wao, wc, rfl⟩ := own_form h3.ww
          have ixl : (i_ : Int) < (m0 : Int) := by omega
          obtain ⟨vao, vc, rfl⟩ := own_form h3.ov
          have ixm : decide ((m : Int) < (P : Int)) = true := by simp; omega
          have ixm2 : m < P := hcnd.2
          subst hxo
          have H3 := Hid.mk h3
          have hb5 := h3.b5
          have HV := Hid.mk h3.ov
          clear h3
          go_upto_region 13 with (first | (go_at_call 12; refine (C5.out _).mono ?_; rintro e w6 ⟨rfl, hw⟩; obtain rfl := hw.symm) | (at_builtin; refine wpList_app1 wr rfl _ _ 30 B5 3 i0 (.int .i64 0) 8 Try.underlying30 hi hz0 hz1 hz2 rfl (by decide) rfl (.slice vao m vc) m (fl (vI lf) m) (by rfl) HV.out (.int .i64 (kk : Int)) (by rfl) rfl hb5 (by omega) ?_; intro vg' w6 hg6 hk6 hl6))
          have h6 := H3.out.app (lf' := fun t => if t = m then kk else lf t) (fun t ht => if_neg (by omega)) (if_pos rfl) HU.out (by have := EB5.out; have := HKw.out.size; omega) hkk hg6 hk6 hl6
          have HG6 : Hid (gon (fun t => if t = m then kk else lf t) (m + 1) kk = true) := Hid.mk (gon_iff.2 ⟨m, by omega, if_pos rfl⟩)
          clear H3 HV hg6 hk6 hl6 hb5
          obtain ⟨lf', elf⟩ : ∃ lf', lf' = (fun t => if t = m then kk else lf t) := ⟨_, rfl⟩
          rw [← elf] at h6 HG6
          clear elf
          by_cases hkn : kk < n
          · obtain ⟨gr, rfl, _, hcr, hfr, _⟩ := h6.sr.at hkn
            have hgk : gr ∈ ks := by
              obtain ⟨g2, e, hm, _⟩ := h6.sr.at hkn
              cases e
              rcases List.mem_append.1 hm with h | h
              · exact absurd h (h6.sr.not_own h6.ov (by decide) (by omega) gr rfl)
              · exact h
            have hne : gr ≠ g := by rcases HNE.out gr rfl with h | h; exact h; omega
            have H7 := Hid.mk (h6.rows hne hgk hkn HG6.out)
            clear h6
            have ixk : (kk : Int) < (n : Int) := by omega
            go_wp2
            exact ⟨⟨i_ + 1, m + 1, lf', _, _, _, _, by omega, by omega, by go_num, H7.out⟩, by simp [intOf]; omega⟩
          · obtain ⟨d, rfl⟩ : ∃ d, kk = n + d := ⟨kk - n, by omega⟩
            obtain ⟨g2, e2, _, hcr, hfr, _⟩ := h6.sm.at (i := d) (by omega)
            cases e2
            have H7 := Hid.mk (h6.more (k := d) HNE.out HGM.out (by omega) HG6.out)
            clear h6
            have hsub : ((n + d : Nat) : Int) - (n : Int) = (d : Int) := by omega
            have ixk : (d : Int) < (P : Int) := by omega
            have hdn : decide (((n + d : Nat) : Int) < (n : Int)) = false := by simp; omega
            go_wp2
            exact ⟨⟨i_ + 1, m + 1, lf', _, _, _, _, by omega, by omega, by go_num, H7.out⟩, by simp [intOf]; omega⟩
        · by_cases hc1 : i_ < m0
          · have hmP : m = P := by omega
            have ixl : (i_ : Int) < (m0 : Int) := by omega
            have ixm : decide ((m : Int) < (P : Int)) = false := by simp; omega
            have ixm2 : ¬ m < P := by omega
            clear hmP hcnd
            have H3 := Hid.mk h3
            obtain ⟨wao, wc, rfl⟩ := own_form h3.ww
            obtain ⟨vao, vc, rfl⟩ := own_form h3.ov
            have C6 := Hid.mk (l4_back h3 (by omega) (by omega) hm1 HNIL.out Hsz.out (fun i => by rw [← Hsz.out]; rw [Hsz.out]; exact Hln.out i) Hbl.out EMk.out HWT1.out HWT2.out)
            clear h3
            go_wp2_with (go_at_call 14; refine C6.out.mono ?_; rintro e w7 ⟨G, rfl, hrow7, hk7⟩)
            have HR7 := Hid.mk hrow7
            have HW7 := Hid.mk ((own_sv2 H3.out.ww).keep hk7)
            have HK7 := Hid.mk (H3.out.kw.trans hk7)
            clear hrow7 hk7 C6 H3
            go_loopw [19] (fun i wr1 => ∃ k : Nat, k ≤ n ∧ i = .int .i64 (k : Int) ∧ Kept [] w7 wr1) (fun i _ => n - (intOf i).toNat)
            case atStart => exact ⟨0, by omega, rfl, Kept.refl _ _⟩
            case round =>
              obtain ⟨k, hk, rfl, hkr⟩ := hrel
              by_cases hlt : k < n
              · obtain ⟨bo, l, hc7, hcv⟩ := HR7.out k (by omega)
                obtain ⟨gw, ow, rfl, hw1, hw2⟩ := (Hl.out.keep (HK7.out.trans hkr)).at (i := k) (by omega)
                have Hkr := Hid.mk hkr
                have hz : bstr (WT k) = bstr (rg (wb (fs k)) (wl (fm k))) := by rw [HWT1.out k hlt, HL.out k hlt]
                obtain ⟨z, ez⟩ : ∃ z, z = bstr (WT k) := ⟨_, rfl⟩
                have HCV : Hid (∀ u, Kept [] w7 u → u.cell? ⟨G, k, none⟩ = some (.slice bo l l) ∧ Sem.run Try.prog (convert 40 9 (.slice bo l l)) u = .ok (.string z) u) := Hid.mk (fun u hu => ⟨cell_keep hu hc7 (by simp), by rw [ez]; exact hcv u hu⟩)
                have hb := Hfm.out k (by omega)
                have HCR : Hid (∀ u, Calls Try.prog 15 #[.agg #[.int .i64 (fm k), .int .i64 (fs k)]] u fun e w' => ∃ g N, e = .returned (.slice (some ⟨g, 0, none⟩) N N) ∧ Kept [] u w' ∧ Sem.run Try.prog (convert 40 9 (.slice (some ⟨g, 0, none⟩) N N)) w' = .ok (.string z) w') := Hid.mk (fun u => (wrow_any (fm k) (fs k) u hb.1 hb.2).mono (by
                  rintro e w' ⟨g, rfl, hr, _, hk⟩
                  refine ⟨g, wl (fm k), rfl, hk, ?_⟩
                  have := reads_str hr.reads (wl (fm k))
                  rw [rg_length] at this
                  rw [this, ez, hz]))
                clear hz ez hcv hc7
                obtain ⟨c0, v0⟩ := HCV.out wr.drew hkr.drew
                have ix : (k : Int) < (n : Int) := by omega
                have ixl : (k : Int) < (nl : Int) := by omega
                have ixa : (k : Int) < ((n : Int) + (P : Int)) := by omega
                have hzz : (z.toList == z.toList) = true := by simp
                generalize fm k = a1 at *
                generalize fs k = a2 at *
                clear hkr hb
                go_wp2_with (fail)
                go_region_law (go_simp; go_at_call 15; refine (HCR.out _).mono ?_; rintro e w9 ⟨g9, N9, rfl, k9, cv9⟩; obtain ⟨c9, v9⟩ := HCV.out w9 (Hkr.out.drew.trans k9); have HK9 : Hid (Kept [] w7 w9) := Hid.mk (Hkr.out.drew.trans k9))
                all_goals go_wp2
                all_goals exact ⟨⟨k + 1, by omega, by go_num, HK9.out⟩, by simp [intOf]; omega⟩
              · have HKa := Hid.mk hkr
                clear hkr
                go_wp2
                clear hk hlt
                go_loopw [20] (fun i wr1 => ∃ k : Nat, k ≤ P ∧ i = .int .i64 (k : Int) ∧ Kept [] w7 wr1) (fun i _ => P - (intOf i).toNat)
                case atStart => exact ⟨0, by omega, rfl, HKa.out⟩
                case round =>
                  obtain ⟨k, hk, rfl, hkr⟩ := hrel
                  by_cases hlt : k < P
                  · obtain ⟨bo, l, hc7, hcv⟩ := HR7.out (n + k) (by omega)
                    have hc := cell_keep hkr hc7 (by simp)
                    obtain ⟨gw, ow, rfl, hcw'⟩ := HW7.out.at hlt
                    have hcw := cell_keep hkr hcw' (by simp)
                    have hcd := hcv wr.drew hkr.drew
                    have Hkr := Hid.mk hkr
                    obtain ⟨z, ez⟩ : ∃ z, z = bstr (WT (n + k)) := ⟨_, rfl⟩
                    rw [← ez] at hcd hcw
                    have ix : (k : Int) < (P : Int) := by omega
                    obtain ⟨j, hj⟩ : ∃ j, n + k = j := ⟨_, rfl⟩
                    have hwr : IntKind.i64.wrap ((n : Int) + (k : Int)) = (j : Int) := by rw [← hj]; exact wrapI _ _ (by omega)
                    have ixa : (j : Int) < ((n : Int) + (P : Int)) := by omega
                    rw [hj] at hc
                    have hzz : (z.toList == z.toList) = true := by simp
                    clear ez hcv hc7 hcw' hkr hj
                    go_wp2_with (fail)
                    go_region_law (fail)
                    all_goals go_wp2
                    all_goals exact ⟨⟨k + 1, by omega, by go_num, Hkr.out.drew⟩, by simp [intOf]; omega⟩
                  · have HK8 := Hid.mk (HK7.out.trans hkr)
                    clear hkr
                    go_wp2
                    go_ret
                    exact ⟨rfl, HK8.out⟩
          · have ixl : ¬ i_ < m0 := hc1
            have ixl2 : decide ((i_ : Int) < (m0 : Int)) = false := by simp; omega
            clear hcnd hc1
            have H3 := Hid.mk h3
            obtain ⟨wao, wc, rfl⟩ := own_form h3.ww
            obtain ⟨vao, vc, rfl⟩ := own_form h3.ov
            have C6 := Hid.mk (l4_back h3 (by omega) (by omega) hm1 HNIL.out Hsz.out (fun i => by rw [← Hsz.out]; rw [Hsz.out]; exact Hln.out i) Hbl.out EMk.out HWT1.out HWT2.out)
            clear h3
            go_wp2_with (go_at_call 14; refine C6.out.mono ?_; rintro e w7 ⟨G, rfl, hrow7, hk7⟩)
            have HR7 := Hid.mk hrow7
            have HW7 := Hid.mk ((own_sv2 H3.out.ww).keep hk7)
            have HK7 := Hid.mk (H3.out.kw.trans hk7)
            clear hrow7 hk7 C6 H3
            go_loopw [19] (fun i wr1 => ∃ k : Nat, k ≤ n ∧ i = .int .i64 (k : Int) ∧ Kept [] w7 wr1) (fun i _ => n - (intOf i).toNat)
            case atStart => exact ⟨0, by omega, rfl, Kept.refl _ _⟩
            case round =>
              obtain ⟨k, hk, rfl, hkr⟩ := hrel
              by_cases hlt : k < n
              · obtain ⟨bo, l, hc7, hcv⟩ := HR7.out k (by omega)
                obtain ⟨gw, ow, rfl, hw1, hw2⟩ := (Hl.out.keep (HK7.out.trans hkr)).at (i := k) (by omega)
                have Hkr := Hid.mk hkr
                have hz : bstr (WT k) = bstr (rg (wb (fs k)) (wl (fm k))) := by rw [HWT1.out k hlt, HL.out k hlt]
                obtain ⟨z, ez⟩ : ∃ z, z = bstr (WT k) := ⟨_, rfl⟩
                have HCV : Hid (∀ u, Kept [] w7 u → u.cell? ⟨G, k, none⟩ = some (.slice bo l l) ∧ Sem.run Try.prog (convert 40 9 (.slice bo l l)) u = .ok (.string z) u) := Hid.mk (fun u hu => ⟨cell_keep hu hc7 (by simp), by rw [ez]; exact hcv u hu⟩)
                have hb := Hfm.out k (by omega)
                have HCR : Hid (∀ u, Calls Try.prog 15 #[.agg #[.int .i64 (fm k), .int .i64 (fs k)]] u fun e w' => ∃ g N, e = .returned (.slice (some ⟨g, 0, none⟩) N N) ∧ Kept [] u w' ∧ Sem.run Try.prog (convert 40 9 (.slice (some ⟨g, 0, none⟩) N N)) w' = .ok (.string z) w') := Hid.mk (fun u => (wrow_any (fm k) (fs k) u hb.1 hb.2).mono (by
                  rintro e w' ⟨g, rfl, hr, _, hk⟩
                  refine ⟨g, wl (fm k), rfl, hk, ?_⟩
                  have := reads_str hr.reads (wl (fm k))
                  rw [rg_length] at this
                  rw [this, ez, hz]))
                clear hz ez hcv hc7
                obtain ⟨c0, v0⟩ := HCV.out wr.drew hkr.drew
                have ix : (k : Int) < (n : Int) := by omega
                have ixl : (k : Int) < (nl : Int) := by omega
                have ixa : (k : Int) < ((n : Int) + (P : Int)) := by omega
                have hzz : (z.toList == z.toList) = true := by simp
                generalize fm k = a1 at *
                generalize fs k = a2 at *
                clear hkr hb
                go_wp2_with (fail)
                go_region_law (go_simp; go_at_call 15; refine (HCR.out _).mono ?_; rintro e w9 ⟨g9, N9, rfl, k9, cv9⟩; obtain ⟨c9, v9⟩ := HCV.out w9 (Hkr.out.drew.trans k9); have HK9 : Hid (Kept [] w7 w9) := Hid.mk (Hkr.out.drew.trans k9))
                all_goals go_wp2
                all_goals exact ⟨⟨k + 1, by omega, by go_num, HK9.out⟩, by simp [intOf]; omega⟩
              · have HKa := Hid.mk hkr
                clear hkr
                go_wp2
                clear hk hlt
                go_loopw [20] (fun i wr1 => ∃ k : Nat, k ≤ P ∧ i = .int .i64 (k : Int) ∧ Kept [] w7 wr1) (fun i _ => P - (intOf i).toNat)
                case atStart => exact ⟨0, by omega, rfl, HKa.out⟩
                case round =>
                  obtain ⟨k, hk, rfl, hkr⟩ := hrel
                  by_cases hlt : k < P
                  · obtain ⟨bo, l, hc7, hcv⟩ := HR7.out (n + k) (by omega)
                    have hc := cell_keep hkr hc7 (by simp)
                    obtain ⟨gw, ow, rfl, hcw'⟩ := HW7.out.at hlt
                    have hcw := cell_keep hkr hcw' (by simp)
                    have hcd := hcv wr.drew hkr.drew
                    have Hkr := Hid.mk hkr
                    obtain ⟨z, ez⟩ : ∃ z, z = bstr (WT (n + k)) := ⟨_, rfl⟩
                    rw [← ez] at hcd hcw
                    have ix : (k : Int) < (P : Int) := by omega
                    obtain ⟨j, hj⟩ : ∃ j, n + k = j := ⟨_, rfl⟩
                    have hwr : IntKind.i64.wrap ((n : Int) + (k : Int)) = (j : Int) := by rw [← hj]; exact wrapI _ _ (by omega)
                    have ixa : (j : Int) < ((n : Int) + (P : Int)) := by omega
                    rw [hj] at hc
                    have hzz : (z.toList == z.toList) = true := by simp
                    clear ez hcv hc7 hcw' hkr hj
                    go_wp2_with (fail)
                    go_region_law (fail)
                    all_goals go_wp2
                    all_goals exact ⟨⟨k + 1, by omega, by go_num, Hkr.out.drew⟩, by simp [intOf]; omega⟩
                  · have HK8 := Hid.mk (HK7.out.trans hkr)
                    clear hkr
                    go_wp2
                    go_ret
                    exact ⟨rfl, HK8.out⟩
end Go.Proofs.Ytmgfapooanpgfaa
