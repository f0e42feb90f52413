import Derived.Test.YtmgfapooanpgfaaWc
namespace Go.Proofs.Ytmgfapooanpgfaa
open Go.RowKit

/-- Make of such rows; what else lies there stays. -/
theorem make_st2 (ao : Option Addr) (n c P : Nat) (L : Nat → List Nat) (fr : Nat → Value) (ks : List Nat) (w w2 : World) (hk0 : Kept [] w w2) (hst : St w2 ks ao n fr L) (hks : ∀ x ∈ ks, w.heap.size ≤ x ∧ x < w2.heap.size) (hn : n ≤ 200) (hP : P ≤ 16) (hL : ∀ i, (L i).length ≤ 16777216) :
    Calls Try.prog 13 #[.slice ao n c, .int .i64 (P : Int)] w2 fun e w3 => ∃ g ks' fm, e = .returned (.tuple #[.slice (some ⟨g, 0, none⟩) P P, .int .i64 0]) ∧ St w3 ks' ao n fr L ∧ St w3 ks' (some ⟨g, 0, none⟩) P fm (fun j => rg (mk (ll L n) j) (wx (fun i => (L i).length) n)) ∧ (∀ x ∈ ks', w.heap.size ≤ x ∧ x < w3.heap.size) ∧ (∀ g2, ao = some ⟨g2, 0, none⟩ → g2 ≠ g ∨ n = 0) ∧ g ∈ ks' ∧ Kept [] w2 w3 := by
  have hW : wdt (ll L n) ≤ 16777216 := by rw [wdt_ll]; exact wx_le (fun i _ => hL i)
  refine (make_any ao n c P (ll L n) w2 hst.mc hst.bm (ll_length _ _) hn hP (fun j hj => by rw [ll_getD _ _ _ hj]; have := hL j; omega)).mono ?_
  intro e w3 h
  unfold MkPost at h
  rw [if_pos hW] at h
  obtain ⟨g, B, Z, he, hct, hcn, hZ, hg, hB, hk⟩ := h
  rw [wdt_ll] at hct hcn
  have hsz := hk0.size
  refine ⟨g, g :: ks, fun j => .slice (some ⟨B, po (fun _ => wx (fun i => (L i).length) n) j, none⟩) (wx (fun i => (L i).length) n) (wx (fun i => (L i).length) n), he, (hst.change (ks' := g :: ks) (fun x hx => ?_) (fun _ g2 _ h => by simp [h])).keep hk, ⟨.inr ⟨g, _, rfl, by simp, hct.out, fun i hi => ?_⟩, fun j hj => ?_⟩, fun x hx => ?_, fun g2 e => ?_, by simp, hk⟩
  · rcases List.mem_cons.1 hx with h | h
    · right; omega
    · exact .inl h
  · rw [List.getElem?_toArray, fl_at _ _ _ hi]
  · obtain ⟨_, h2⟩ := hct.at hcn hj
    refine ⟨_, _, by rw [rg_length], by rw [rg_length]; exact Nat.le_refl _, h2, rg_byts (fun _ _ => mk_lt _ _ _), fun g2 off e => ⟨fun hm => ?_, ?_⟩⟩
    · cases e
      rcases List.mem_cons.1 hm with h | h
      · exact hct.ne h.symm
      · have := (hks _ h).2; omega
    · cases e; exact hct.row.lt
  · rcases List.mem_cons.1 hx with h | h
    · subst h; exact ⟨by omega, hct.out.lt⟩
    · exact ⟨(hks x h).1, Nat.lt_of_lt_of_le (hks x h).2 hk.size⟩
  · by_cases h0 : n = 0
    · exact .inr h0
    · left
      obtain ⟨g3, e3, hm, _, _⟩ := hst.at (i := 0) (by omega)
      rw [e] at e3
      cases e3
      have := (hks g2 hm).2
      omega

theorem row_own {w : World} {B e n g : Nat} {V : Value} {xs : List Value} {l : List Nat} (h : w.ownsRow B e 1 V n xs) (hr : Row w g l) (he : e ≠ 5) : g ∉ V.ownBlock.toList := by
  rw [mem_own]
  intro hv
  rcases h.2 with ⟨e, _⟩ | ⟨g2, cap, cur, e, _, hg, _⟩
  · rw [e] at hv; simp [Value.ownBlock] at hv
  · rw [e] at hv
    simp [Value.ownBlock] at hv
    subst hv
    unfold Row at hr
    rw [hg] at hr
    simp at hr
    exact he hr.2
/-- A list of rows that grows, each in a block of its own. -/
structure RwJ (B : Nat) (w : World) (V : Value) (k : Nat) (f : Nat → Value) (L : Nat → List Nat) : Prop where
  own : w.ownsRow B 40 1 V k (fl f k)
  row : ∀ i, i < k → ∃ g, f i = .slice (some ⟨g, 0, none⟩) (L i).length (L i).length ∧ Row w g (L i) ∧ B ≤ g
theorem RwJ.keep {B : Nat} {w w' : World} {V : Value} {k : Nat} {f : Nat → Value} {L : Nat → List Nat} (h : RwJ B w V k f L) (hk : Kept [] w w') : RwJ B w' V k f L :=
  ⟨hk.row h.own (by simp), fun i hi => by obtain ⟨g, h1, h2, h3⟩ := h.row i hi; exact ⟨g, h1, h2.keep hk (by simp), h3⟩⟩
theorem RwJ.kept {B B' e m : Nat} {w w' : World} {V U : Value} {k : Nat} {f : Nat → Value} {L : Nat → List Nat} {xs : List Value} (h : RwJ B w V k f L) (hU : w.ownsRow B' e 1 U m xs) (hk : Kept U.ownBlock.toList w w') (h40 : e ≠ 40) (h5 : e ≠ 5) : RwJ B w' V k f L :=
  ⟨hk.row h.own (own_ne2 hU h.own h40), fun i hi => by obtain ⟨g, h1, h2, h3⟩ := h.row i hi; exact ⟨g, h1, h2.keep hk (row_own hU h2 h5), h3⟩⟩
theorem RwJ.step {B : Nat} {w w' : World} {V V' : Value} {k gn : Nat} {f : Nat → Value} {L : Nat → List Nat} (h : RwJ B w V k f L) (hr : Row w gn (L k)) (hB : B ≤ gn) (ho : w'.ownsRow B 40 1 V' (k + 1) (fl f k ++ [.slice (some ⟨gn, 0, none⟩) (L k).length (L k).length])) (hk : Kept V.ownBlock.toList w w') :
    RwJ B w' V' (k + 1) (fun i => if i = k then .slice (some ⟨gn, 0, none⟩) (L k).length (L k).length else f i) L := by
  refine ⟨?_, fun i hi => ?_⟩
  · rw [fl_congr (f := f) (g := fun i => if i = k then .slice (some ⟨gn, 0, none⟩) (L k).length (L k).length else f i) (fun i hi => by rw [if_neg (by omega)]), fl_one _ k _ (by rw [if_pos rfl])] at ho
    exact ho
  · by_cases e : i = k
    · subst e
      exact ⟨gn, if_pos rfl, hr.keep hk (row_own h.own hr (by decide)), hB⟩
    · obtain ⟨g, h1, h2, h3⟩ := h.row i (by omega)
      exact ⟨g, by rw [if_neg e]; exact h1, h2.keep hk (row_own h.own h2 (by decide)), h3⟩
theorem RwJ.rwi {B : Nat} {w : World} {V : Value} {k : Nat} {f : Nat → Value} {L : Nat → List Nat} (h : RwJ B w V k f L) : RwI B w V k f L :=
  ⟨h.own, fun i hi => by
    obtain ⟨g, h1, h2, h3⟩ := h.row i hi
    exact ⟨g, _, h1, Nat.le_refl _, h2.reads, h3, h2.lt, fun e => row_own h.own h2 (by decide) (by rw [mem_own]; exact e)⟩⟩

set_option maxHeartbeats 16000000 in
set_option maxRecDepth 1000000 in
theorem wide_law (lo : Option Addr) (nl cl : Nat) (fm fs : Nat → Int) (p : Int) (xo : Option Addr) (m0 cx : Nat) (q : Nat → Int) (w : World) (hl : Ws w lo nl fm fs) (hfm : ∀ i, i < nl → -9223372036854775808 ≤ fm i ∧ fm i ≤ 9223372036854775807) (hnl : nl ≤ 140737488355328) (hp : -9223372036854775808 ≤ p ∧ p ≤ 9223372036854775807) (hx : RdI w xo q m0) (hq : ∀ i, i < m0 → -9223372036854775808 ≤ q i ∧ q i ≤ 9223372036854775807) (hm0 : m0 ≤ 140737488355328) :
    Calls Try.prog 6 #[.slice lo nl cl, .int .i64 p, .slice xo m0 cx] w fun e w' => e = .returned (.bool true) ∧ Kept [] w w' := by
  obtain ⟨i0, hi, hz0, hz1, hz2⟩ := info_parts Try.infoI
  obtain ⟨j0, gi, gz0, gz1, gz2⟩ := info_parts Try.infoR
  have C3 : Hid (∀ u, Calls Try.prog 12 #[.int .i64 p, .int .i64 4] u fun e w' => e = .returned (.int .i64 ((pick p 4).toNat : Int)) ∧ w' = u) := Hid.mk (fun u => (pick_any p 4 u hp.1 hp.2 (by omega)).mono (by
    rintro e w' ⟨rfl, rfl⟩
    exact ⟨by rw [Int.toNat_of_nonneg (pick_lo p 4 (by omega))], rfl⟩))
  have hP : (pick p 4).toNat < 4 := by have := pick_lo p 4 (by omega); have := pick_hi p 4 (by omega); omega
  generalize (pick p 4).toNat = a at *
  have Hl := Hid.mk hl
  have Hfm := Hid.mk hfm
  have Hx := Hid.mk hx
  have Hq := Hid.mk hq
  obtain ⟨L, eL⟩ : ∃ L : Nat → List Nat, L = fun i => rg (wb (fs i)) (wl (fm i)) := ⟨_, rfl⟩
  have HL : Hid (∀ i, L i = rg (wb (fs i)) (wl (fm i))) := Hid.mk (fun i => by rw [eL])
  obtain ⟨sz, esz⟩ : ∃ sz : Nat → Nat, sz = fun i => wl (fm i) := ⟨_, rfl⟩
  have Hsz : Hid (∀ i, (L i).length = sz i) := Hid.mk (fun i => by rw [eL, esz]; simp [rg_length])
  have Hln : Hid (∀ i, sz i ≤ 70000) := Hid.mk (fun i => by rw [esz]; exact wl_le _)
  have HCR : Hid (∀ i, i < nl → ∀ u, Calls Try.prog 15 #[.agg #[.int .i64 (fm i), .int .i64 (fs i)]] u fun e w' => ∃ g, e = .returned (.slice (some ⟨g, 0, none⟩) (sz i) (sz i)) ∧ Row w' g (L i) ∧ u.heap.size ≤ g ∧ Kept [] u w') := Hid.mk (fun i hi u => by
    rw [eL, esz]
    have := hfm i hi
    exact wrow_any (fm i) (fs i) u this.1 this.2)
  have Hbl : Hid (∀ i, Byts (L i)) := Hid.mk (fun i => by rw [eL]; exact rg_byts (fun _ _ => wb_lt _ _))
  clear hl hfm hx hq hp eL esz
  go_enter Try.func6, Try.ntmps6
  go_wp2_with (fail)
  refine (awake_any w).mono ?_
  rintro e w1 ⟨rfl, hk1⟩
  have HK1 := Hid.mk hk1
  clear hk1
  obtain ⟨P, eP⟩ : ∃ P : Nat, (1 : Int) + (a : Int) = (P : Int) := ⟨1 + a, by omega⟩
  go_wp2_with (go_at_call 12; refine (C3.out _).mono ?_; rintro e w2' ⟨rfl, hw⟩; obtain rfl := hw.symm)
  have hP1 : 1 ≤ P := by omega
  have hP2 : P ≤ 4 := by omega
  clear eP hP C3
  go_loopw [8, 9, 10, 11] (fun vr vs t i wr => ∃ (k : Nat) (f : Nat → Value), k ≤ nl ∧ k ≤ 5 ∧ i = .int .i64 (k : Int) ∧ t = .int .i64 (wx sz k : Int) ∧ RwJ w1.heap.size wr vr k f L ∧ wr.ownsRow w1.heap.size 3 1 vs k (fl (vI sz) k) ∧ Kept [] w1 wr) (fun _ _ _ i _ => 5 - (intOf i).toNat)
  case atStart => exact ⟨0, fun _ => .slice none 0 0, by omega, by omega, rfl, rfl, ⟨⟨rfl, .inl ⟨rfl, rfl⟩⟩, fun i hi => by omega⟩, ⟨rfl, .inl ⟨rfl, rfl⟩⟩, Kept.refl _ _⟩
  case round =>
    obtain ⟨k, f, hk, hk5, rfl, rfl, hR, hs, hkr⟩ := hrel
    have hwx : wx sz k ≤ 70000 := wx_le (fun i _ => Hln.out i)
    by_cases hcnd : k < nl ∧ k < 5
    · obtain ⟨gw, ow, rfl, hw1, hw2⟩ := (Hl.out.keep (HK1.out.trans hkr)).at (i := k) hcnd.1
      have C15 := Hid.mk (HCR.out k hcnd.1)
      have HCN := Hid.mk hcnd
      have ix : (k : Int) < (nl : Int) := by omega
      have ix5 : decide ((k : Int) < 5) = true := by simp; omega
      have hszk := Hln.out k
      have HR := Hid.mk hR
      have HS := Hid.mk hs
      have HK := Hid.mk hkr
      obtain ⟨vao, vc, rfl⟩ := own_form hR.own
      obtain ⟨sao, sc, rfl⟩ := own_form hs
      have Hx1 : Hid (wx sz (k + 1) = max (wx sz k) (sz k)) := Hid.mk rfl
      generalize fm k = a1 at *
      generalize fs k = a2 at *
      clear hR hs hkr hcnd
      go_upto_region 10 with (first | (go_at_call 15; refine (C15.out _).mono ?_; rintro e w9 ⟨g9, rfl, r9, hg9, k9⟩; have HR9 := Hid.mk r9; have HG9 := Hid.mk hg9; have HK9 := Hid.mk k9; clear r9 hg9 k9) | (at_builtin; refine wpList_app1 w9 rfl _ _ 34 w1.heap.size 40 j0 (.slice none 0 0) 24 Try.underlying34 gi gz0 gz1 gz2 rfl (by decide) rfl (.slice vao k vc) k (fl f k) (by rfl) (HK9.out.row HR.out.own (by simp)) (.slice (some ⟨g9, 0, none⟩) (sz k) (sz k)) (by rfl) rfl (Nat.le_trans HK.out.size HK9.out.size) (by omega) ?_; intro vr' w10 ho10 hk10 hl10))
      rw [← Hsz.out] at ho10
      have R10 := (HR.out.keep HK9.out).step HR9.out (Nat.le_trans HK.out.size HG9.out) ho10 hk10
      rw [Hsz.out] at R10 ho10
      have S10 := hk10.row (HK9.out.row HS.out (by simp)) (own_ne2 (HK9.out.row HR.out.own (by simp)) (HK9.out.row HS.out (by simp)) (by decide))
      have K10 : Kept [] w1 w10 := (HK.out.trans HK9.out).step hk10 (fun x hx => .inr (own_loE HR.out.own x hx))
      obtain ⟨vao2, vc2, rfl⟩ := own_form ho10
      obtain ⟨gr, or_, hgr, hcr⟩ := (own_sv2 R10.own).at (i := k) (by omega)
      rw [if_pos rfl] at hcr
      subst hgr
      have HR10 := Hid.mk R10
      have HS10 := Hid.mk S10
      have HK10 := Hid.mk K10
      have hB10 : w1.heap.size ≤ w10.heap.size := K10.size
      have ixr : (k : Int) < ((k : Int) + 1) := by omega
      clear R10 S10 K10 ho10 hk10 hl10 HR HS HK HR9 HG9 HK9 C15 hw1 hw2
      go_upto_region 11 with (at_builtin; refine wpList_app1 w10 rfl _ _ 30 w1.heap.size 3 i0 (.int .i64 0) 8 Try.underlying30 hi hz0 hz1 hz2 rfl (by decide) rfl (.slice sao k sc) k (fl (vI sz) k) (by rfl) HS10.out (.int .i64 (sz k : Int)) (by rfl) rfl hB10 (by omega) ?_; intro vs' w11 ho11 hk11 hl11)
      have R11 := HR10.out.kept HS10.out hk11 (by decide) (by decide)
      have K11 : Kept [] w1 w11 := HK10.out.step hk11 (fun x hx => .inr (own_loE HS10.out x hx))
      have hcr2 : w11.cell? ⟨gr, or_ + k, none⟩ = some (.slice (some ⟨g9, 0, none⟩) (sz k) (sz k)) := by
        obtain ⟨g2, o2, e2, hc2⟩ := (own_sv2 R11.own).at (i := k) (by omega)
        cases e2
        rw [if_pos rfl] at hc2
        exact hc2
      rw [fl_one _ k _ (show Value.int .i64 (sz k : Int) = vI sz k from rfl)] at ho11
      have HR11 := Hid.mk R11
      have HS11 := Hid.mk ho11
      have HK11 := Hid.mk K11
      obtain ⟨x, ex⟩ : ∃ x, x = wx sz k := ⟨_, rfl⟩
      obtain ⟨y, ey⟩ : ∃ y, y = sz k := ⟨_, rfl⟩
      rw [← ex, ← ey] at Hx1
      rw [← ex] at hwx
      rw [← ey] at hcr2 hszk HR11
      rw [← ex, ← ey]
      clear ex ey R11 K11 ho11 hk11 hl11 HR10 HS10 HK10 hcr
      by_cases hxy : x < y
      · have HM : Hid (wx sz (k + 1) = y) := Hid.mk (by rw [Hx1.out]; omega)
        go_wp2
        exact ⟨⟨k + 1, _, by have := HCN.out; omega, by have := HCN.out; omega, by go_num, by rw [HM.out], HR11.out, HS11.out, HK11.out⟩, by have := HCN.out; simp [intOf]; omega⟩
      · have HM : Hid (wx sz (k + 1) = x) := Hid.mk (by rw [Hx1.out]; omega)
        go_wp2
        exact ⟨⟨k + 1, _, by have := HCN.out; omega, by have := HCN.out; omega, by go_num, by rw [HM.out], HR11.out, HS11.out, HK11.out⟩, by have := HCN.out; simp [intOf]; omega⟩
    · by_cases hc1 : k < nl
      · have ix : (k : Int) < (nl : Int) := by omega
        have ix5 : decide ((k : Int) < 5) = false := by simp; omega
        clear hcnd
        have HR := Hid.mk hR
        have HS := Hid.mk hs
        have HK := Hid.mk hkr
        obtain ⟨ao, c, hV, hnil, hst⟩ := St.own hR.rwi (fun i _ => Hbl.out i)
        subst hV
        obtain ⟨so, cs, rfl⟩ := own_form hs
        have HNIL := Hid.mk hnil
        have C13 := Hid.mk (make_st2 ao k c P L f _ w1 wr hkr hst (fun x hx => ⟨own_loE hR.own x hx, own_block_lt hR.own x hx⟩) (by omega) (by omega) (fun i => by rw [Hsz.out]; have := Hln.out i; omega))
        rw [show wx (fun i => (L i).length) k = wx sz k from wx_congr (fun i _ => Hsz.out i)] at C13
        clear hR hs hkr hnil hst
        go_upto_region 13 with (go_at_call 13; refine C13.out.mono ?_; rintro e w4 ⟨g, ks, fmo, rfl, hr4, hm4, hks4, hne4, hgm4, hk4⟩; have HR4 := Hid.mk hr4; have HM4 := Hid.mk hm4; have HKS4 := Hid.mk hks4; have HNE := Hid.mk hne4; have HGM := Hid.mk hgm4; have HK4 := Hid.mk hk4; clear hr4 hm4 hks4 hne4 hgm4 hk4)
        clear C13
        have HS4 := Hid.mk (HK4.out.row HS.out (by simp))
        have HK14 := Hid.mk (HK.out.trans HK4.out)
        clear HR HS HK HK4
        obtain ⟨W, eW⟩ : ∃ W, W = wx sz k := ⟨_, rfl⟩
        obtain ⟨Mk, eMk⟩ : ∃ Mk : Nat → List Nat, Mk = fun j => rg (mk (ll L k) j) (wx sz k) := ⟨_, rfl⟩
        have EMk := Hid.mk eMk
        have HMk : Hid (∀ j, Mk j = rg (mk (ll L k) j) W) := Hid.mk (fun j => by rw [eMk, eW])
        rw [← eMk] at HM4
        rw [← eW] at hwx ⊢
        have EW := Hid.mk eW
        clear eW eMk
        by_cases h0 : k = 0
        · subst h0
          obtain ⟨g2, e2, _, hc0, _⟩ := HM4.out.at (i := 0) (by omega)
          cases e2
          obtain ⟨bo, bc, hf, _⟩ := HM4.out.row 0 (by omega)
          have hw0 : (Mk 0).length = 0 := by rw [HMk.out, rg_length, EW.out]; rfl
          rw [hf, hw0] at hc0
          clear hf hw0
          go_wp2
          go_ret
          exact ⟨rfl, HK1.out.trans HK14.out⟩
        · have hb0 : ((k : Int) == 0) = false := by simp; omega
          have C16 := Hid.mk (cauchy_ok P k w4 (by omega) (by omega) (by omega))
          go_upto_region 18 with (go_at_call 16; refine C16.out.mono ?_; rintro e w5 ⟨gc, bs, rfl, hM5, hgc, hbs, hk5⟩; have HC5 := Hid.mk hM5; have HK5 := Hid.mk hk5; clear hM5 hgc hbs hk5)
          clear C16
          go_wp2
          go_loopw [16] (fun i wq => ∃ j : Nat, j ≤ P ∧ i = .int .i64 (j : Int) ∧ Kept [] w5 wq) (fun i _ => P - (intOf i).toNat)
          case atStart => exact ⟨0, by omega, rfl, Kept.refl _ _⟩
          case round =>
            obtain ⟨j, hj, rfl, hkq⟩ := hrel
            obtain ⟨wi, ewi⟩ : ∃ wi, wi = wr := ⟨_, rfl⟩
            subst ewi
            have HKq := Hid.mk hkq
            clear hkq
            by_cases hjP : j < P
            · obtain ⟨g2, e2, _, hcm, _⟩ := (HM4.out.keep (HK5.out.trans HKq.out)).at hjP
              cases e2
              obtain ⟨bom, bcm, hfm_, _, hrm, _⟩ := (HM4.out.keep (HK5.out.trans HKq.out)).row j hjP
              have hMl : (Mk j).length = W := by rw [HMk.out, rg_length]
              rw [hfm_, hMl] at hcm
              have hcc := (HC5.out.keep0 HKq.out).out j hjP
              have HRM := Hid.mk hrm
              have HRC := Hid.mk ((HC5.out.keep0 HKq.out).row j hjP)
              obtain ⟨bj, ebj⟩ : ∃ bj, bj = bs j := ⟨_, rfl⟩
              rw [← ebj] at hcc HRC
              have ixj : (j : Int) < (P : Int) := by omega
              clear hfm_ hMl hrm ebj
              go_wp2
              go_loopw [17] (fun i wq => ∃ X : Nat, X ≤ W + 200 ∧ i = .int .i64 (X : Int) ∧ Kept [] wi wq) (fun i _ => W + 1000 - (intOf i).toNat)
              case atStart => exact ⟨0, by omega, rfl, Kept.refl _ _⟩
              case round =>
                obtain ⟨X, hX, rfl, hkx⟩ := hrel
                have HKx := Hid.mk hkx
                clear hkx
                by_cases hXW : X < W
                · have ixX : (X : Int) < (W : Int) := by omega
                  go_wp2
                  go_loopw [18, 19] (fun sm_ i wq => ∃ K : Nat, K ≤ k ∧ i = .int .i64 (K : Int) ∧ sm_ = .int .u8 (sm (fun t => mu (cf j t) (fn (ll L k) t X)) K : Int) ∧ Kept [] wi wq) (fun _ i _ => k - (intOf i).toNat)
                  case atStart => exact ⟨0, by omega, rfl, rfl, HKx.out⟩
                  case round =>
                    obtain ⟨K, hKk, rfl, rfl, hky⟩ := hrel
                    have HKy := Hid.mk hky
                    clear hky
                    have hsm := sm_lt (fun t => mu (cf j t) (fn (ll L k) t X)) K (fun _ _ => mu_lt _ _)
                    by_cases hKlt : K < k
                    · obtain ⟨gr, er, _, hcr, _⟩ := (HR4.out.keep ((HK5.out.trans HKq.out).trans HKy.out)).at hKlt
                      obtain ⟨bo, bc, hfr, _, hrd, _⟩ := (HR4.out.keep ((HK5.out.trans HKq.out).trans HKy.out)).row K hKlt
                      subst er
                      rw [hfr, Hsz.out] at hcr
                      have hfn : fn (ll L k) K X = (L K).getD X 0 := by unfold fn; rw [ll_getD _ _ _ hKlt]
                      have HNx : Hid (sm (fun t => mu (cf j t) (fn (ll L k) t X)) (K + 1) = sm (fun t => mu (cf j t) (fn (ll L k) t X)) K ^^^ mu (cf j K) ((L K).getD X 0)) := Hid.mk (by rw [← hfn]; rfl)
                      have ixK : (K : Int) < (k : Int) := by omega
                      have hszK := Hln.out K
                      clear hfr hfn
                      by_cases hXs : X < sz K
                      · have ixs : (X : Int) < (sz K : Int) := by omega
                        obtain ⟨gb, ob, hgb, hcb⟩ : ∃ gb ob, bo = some ⟨gb, ob, none⟩ ∧ wr.cell? ⟨gb, ob + X, none⟩ = some (.int .u8 ((L K).getD X 0 : Nat)) := by
                          rcases hrd with h | ⟨gb, ob, h1, h2⟩
                          · have := Hsz.out K; rw [h] at this; simp at this; omega
                          · exact ⟨gb, ob, h1, h2 X (by rw [Hsz.out]; exact hXs)⟩
                        subst hgb
                        have hcq := ((HRC.out.keep HKy.out (by simp)).at (j := K) (by rw [rg_length]; exact hKlt))
                        rw [rg_getD _ _ _ hKlt] at hcq
                        have hLb := getD_lt (L K) X (Hbl.out K)
                        have hcfb := cf_lo j K
                        have hccy := cell_keep HKy.out hcc (by simp)
                        have Hxor := Hid.mk (u8_xor_nat (sm (fun t => mu (cf j t) (fn (ll L k) t X)) K) (mu (cf j K) ((L K).getD X 0)) hsm (mu_lt _ _))
                        rw [← HNx.out] at Hxor
                        have CM := Hid.mk (fun u => mul_any (cf j K) ((L K).getD X 0) hcfb hLb u)
                        generalize (L K).getD X 0 = y at *
                        generalize cf j K = z at *
                        obtain ⟨s2, es2⟩ : ∃ s2, sm (fun t => mu (cf j t) (fn (ll L k) t X)) (K + 1) = s2 := ⟨_, rfl⟩
                        have HS2 := Hid.mk es2
                        rw [es2] at Hxor
                        generalize sm (fun t => mu (cf j t) (fn (ll L k) t X)) K = s1 at *
                        clear hrd HNx hLb hcfb hsm hcc es2
                        have hxor := Hxor.out
                        go_wp2_with (fail)
                        go_quiet ((go_at_call 17; exact Calls.quiet_of (CM.out _)))
                        go_wp2
                        exact ⟨⟨K + 1, by omega, by go_num, by rw [HS2.out], HKy.out.drewN _⟩, by simp [intOf]; omega⟩
                      · have hdx : decide ((X : Int) < (sz K : Int)) = false := by simp; omega
                        have h0 : (L K).getD X 0 = 0 := by rw [List.getD_eq_getElem?_getD, List.getElem?_eq_none (by rw [Hsz.out]; omega)]; rfl
                        rw [h0, mu_zero, Nat.xor_zero] at HNx
                        obtain ⟨s1, es1⟩ : ∃ s1, sm (fun t => mu (cf j t) (fn (ll L k) t X)) K = s1 := ⟨_, rfl⟩
                        rw [es1] at HNx ⊢
                        clear hrd h0 hsm hcc es1
                        go_wp2
                        exact ⟨⟨K + 1, by omega, by go_num, by rw [HNx.out], HKy.out⟩, by simp [intOf]; omega⟩
                    · obtain rfl : k = K := by omega
                      have hcmy := cell_keep HKy.out hcm (by simp)
                      obtain ⟨gb, ob, hgb, hcb⟩ : ∃ gb ob, bom = some ⟨gb, ob, none⟩ ∧ wr.cell? ⟨gb, ob + X, none⟩ = some (.int .u8 ((Mk j).getD X 0 : Nat)) := by
                        rcases HRM.out.keep HKy.out with h | ⟨gb, ob, h1, h2⟩
                        · have : (Mk j).length = W := by rw [HMk.out, rg_length]
                          rw [h] at this; simp at this; omega
                        · exact ⟨gb, ob, h1, h2 X (by rw [HMk.out, rg_length]; exact hXW)⟩
                      subst hgb
                      rw [HMk.out, rg_getD _ _ _ hXW] at hcb
                      have emk : mk (ll L k) j X = sm (fun t => mu (cf j t) (fn (ll L k) t X)) k := by unfold mk; rw [ll_length]
                      rw [emk] at hcb
                      generalize sm (fun t => mu (cf j t) (fn (ll L k) t X)) k = s1 at *
                      clear emk hcc hcm
                      go_wp2
                      exact ⟨⟨X + 1 + W / 500, by omega, by go_num, HKy.out⟩, by simp [intOf]; omega⟩
                · go_wp2
                  exact ⟨⟨j + 1, by omega, by go_num, HKq.out.trans HKx.out⟩, by simp [intOf]; omega⟩
            · have HK6 := Hid.mk ((HK14.out.trans HK5.out).trans HKq.out)
              have HR6 := Hid.mk (HR4.out.keep (HK5.out.trans HKq.out))
              have HM6 := Hid.mk (HM4.out.keep (HK5.out.trans HKq.out))
              have HS6 := Hid.mk ((HK5.out.trans HKq.out).row HS4.out (by simp))
              have CB := Hid.mk (comes_any lo nl cl fm fs ao k c so cs g P xo m0 cx q ks f fmo L Mk (fun i => if i < k then L i else Mk (i - k)) sz w1.heap.size w wi Hl.out Hfm.out (by omega) (by omega) hP1 hP2 (fun i _ => HL.out i) HR6 HM6 (Hid.mk ⟨HK1.out.size, HK6.out.size⟩) HS6 EMk Hsz (Hid.mk (fun i => by have := Hln.out i; omega)) (Hid.mk (fun i _ => Hbl.out i)) (Hid.mk (fun i hi => if_pos hi)) (Hid.mk (fun i => by show (if k + i < k then _ else _) = _; rw [if_neg (by omega), Nat.add_sub_cancel_left])) (Hid.mk (fun x hx => ⟨Nat.le_trans HK1.out.size (HKS4.out x hx).1, Nat.lt_of_lt_of_le (HKS4.out x hx).2 (HK5.out.trans HKq.out).size⟩)) HNE HGM HNIL (Hid.mk (HK1.out.trans HK6.out)) Hx.out Hq.out hm0)
              go_wp2_with (go_at_call 18; refine CB.out.mono ?_; rintro e w9 ⟨rfl, hk9⟩)
              go_ret
              exact ⟨rfl, hk9⟩
      · have ix : decide ((k : Int) < (nl : Int)) = false := by simp; omega
        clear hcnd
        have HR := Hid.mk hR
        have HS := Hid.mk hs
        have HK := Hid.mk hkr
        obtain ⟨ao, c, hV, hnil, hst⟩ := St.own hR.rwi (fun i _ => Hbl.out i)
        subst hV
        obtain ⟨so, cs, rfl⟩ := own_form hs
        have HNIL := Hid.mk hnil
        have C13 := Hid.mk (make_st2 ao k c P L f _ w1 wr hkr hst (fun x hx => ⟨own_loE hR.own x hx, own_block_lt hR.own x hx⟩) (by omega) (by omega) (fun i => by rw [Hsz.out]; have := Hln.out i; omega))
        rw [show wx (fun i => (L i).length) k = wx sz k from wx_congr (fun i _ => Hsz.out i)] at C13
        clear hR hs hkr hnil hst
        go_upto_region 13 with (go_at_call 13; refine C13.out.mono ?_; rintro e w4 ⟨g, ks, fmo, rfl, hr4, hm4, hks4, hne4, hgm4, hk4⟩; have HR4 := Hid.mk hr4; have HM4 := Hid.mk hm4; have HKS4 := Hid.mk hks4; have HNE := Hid.mk hne4; have HGM := Hid.mk hgm4; have HK4 := Hid.mk hk4; clear hr4 hm4 hks4 hne4 hgm4 hk4)
        clear C13
        have HS4 := Hid.mk (HK4.out.row HS.out (by simp))
        have HK14 := Hid.mk (HK.out.trans HK4.out)
        clear HR HS HK HK4
        obtain ⟨W, eW⟩ : ∃ W, W = wx sz k := ⟨_, rfl⟩
        obtain ⟨Mk, eMk⟩ : ∃ Mk : Nat → List Nat, Mk = fun j => rg (mk (ll L k) j) (wx sz k) := ⟨_, rfl⟩
        have EMk := Hid.mk eMk
        have HMk : Hid (∀ j, Mk j = rg (mk (ll L k) j) W) := Hid.mk (fun j => by rw [eMk, eW])
        rw [← eMk] at HM4
        rw [← eW] at hwx ⊢
        have EW := Hid.mk eW
        clear eW eMk
        by_cases h0 : k = 0
        · subst h0
          obtain ⟨g2, e2, _, hc0, _⟩ := HM4.out.at (i := 0) (by omega)
          cases e2
          obtain ⟨bo, bc, hf, _⟩ := HM4.out.row 0 (by omega)
          have hw0 : (Mk 0).length = 0 := by rw [HMk.out, rg_length, EW.out]; rfl
          rw [hf, hw0] at hc0
          clear hf hw0
          go_wp2
          go_ret
          exact ⟨rfl, HK1.out.trans HK14.out⟩
        · have hb0 : ((k : Int) == 0) = false := by simp; omega
          have C16 := Hid.mk (cauchy_ok P k w4 (by omega) (by omega) (by omega))
          go_upto_region 18 with (go_at_call 16; refine C16.out.mono ?_; rintro e w5 ⟨gc, bs, rfl, hM5, hgc, hbs, hk5⟩; have HC5 := Hid.mk hM5; have HK5 := Hid.mk hk5; clear hM5 hgc hbs hk5)
          clear C16
          go_wp2
          go_loopw [16] (fun i wq => ∃ j : Nat, j ≤ P ∧ i = .int .i64 (j : Int) ∧ Kept [] w5 wq) (fun i _ => P - (intOf i).toNat)
          case atStart => exact ⟨0, by omega, rfl, Kept.refl _ _⟩
          case round =>
            obtain ⟨j, hj, rfl, hkq⟩ := hrel
            obtain ⟨wi, ewi⟩ : ∃ wi, wi = wr := ⟨_, rfl⟩
            subst ewi
            have HKq := Hid.mk hkq
            clear hkq
            by_cases hjP : j < P
            · obtain ⟨g2, e2, _, hcm, _⟩ := (HM4.out.keep (HK5.out.trans HKq.out)).at hjP
              cases e2
              obtain ⟨bom, bcm, hfm_, _, hrm, _⟩ := (HM4.out.keep (HK5.out.trans HKq.out)).row j hjP
              have hMl : (Mk j).length = W := by rw [HMk.out, rg_length]
              rw [hfm_, hMl] at hcm
              have hcc := (HC5.out.keep0 HKq.out).out j hjP
              have HRM := Hid.mk hrm
              have HRC := Hid.mk ((HC5.out.keep0 HKq.out).row j hjP)
              obtain ⟨bj, ebj⟩ : ∃ bj, bj = bs j := ⟨_, rfl⟩
              rw [← ebj] at hcc HRC
              have ixj : (j : Int) < (P : Int) := by omega
              clear hfm_ hMl hrm ebj
              go_wp2
              go_loopw [17] (fun i wq => ∃ X : Nat, X ≤ W + 200 ∧ i = .int .i64 (X : Int) ∧ Kept [] wi wq) (fun i _ => W + 1000 - (intOf i).toNat)
              case atStart => exact ⟨0, by omega, rfl, Kept.refl _ _⟩
              case round =>
                obtain ⟨X, hX, rfl, hkx⟩ := hrel
                have HKx := Hid.mk hkx
                clear hkx
                by_cases hXW : X < W
                · have ixX : (X : Int) < (W : Int) := by omega
                  go_wp2
                  go_loopw [18, 19] (fun sm_ i wq => ∃ K : Nat, K ≤ k ∧ i = .int .i64 (K : Int) ∧ sm_ = .int .u8 (sm (fun t => mu (cf j t) (fn (ll L k) t X)) K : Int) ∧ Kept [] wi wq) (fun _ i _ => k - (intOf i).toNat)
                  case atStart => exact ⟨0, by omega, rfl, rfl, HKx.out⟩
                  case round =>
                    obtain ⟨K, hKk, rfl, rfl, hky⟩ := hrel
                    have HKy := Hid.mk hky
                    clear hky
                    have hsm := sm_lt (fun t => mu (cf j t) (fn (ll L k) t X)) K (fun _ _ => mu_lt _ _)
                    by_cases hKlt : K < k
                    · obtain ⟨gr, er, _, hcr, _⟩ := (HR4.out.keep ((HK5.out.trans HKq.out).trans HKy.out)).at hKlt
                      obtain ⟨bo, bc, hfr, _, hrd, _⟩ := (HR4.out.keep ((HK5.out.trans HKq.out).trans HKy.out)).row K hKlt
                      subst er
                      rw [hfr, Hsz.out] at hcr
                      have hfn : fn (ll L k) K X = (L K).getD X 0 := by unfold fn; rw [ll_getD _ _ _ hKlt]
                      have HNx : Hid (sm (fun t => mu (cf j t) (fn (ll L k) t X)) (K + 1) = sm (fun t => mu (cf j t) (fn (ll L k) t X)) K ^^^ mu (cf j K) ((L K).getD X 0)) := Hid.mk (by rw [← hfn]; rfl)
                      have ixK : (K : Int) < (k : Int) := by omega
                      have hszK := Hln.out K
                      clear hfr hfn
                      by_cases hXs : X < sz K
                      · have ixs : (X : Int) < (sz K : Int) := by omega
                        obtain ⟨gb, ob, hgb, hcb⟩ : ∃ gb ob, bo = some ⟨gb, ob, none⟩ ∧ wr.cell? ⟨gb, ob + X, none⟩ = some (.int .u8 ((L K).getD X 0 : Nat)) := by
                          rcases hrd with h | ⟨gb, ob, h1, h2⟩
                          · have := Hsz.out K; rw [h] at this; simp at this; omega
                          · exact ⟨gb, ob, h1, h2 X (by rw [Hsz.out]; exact hXs)⟩
                        subst hgb
                        have hcq := ((HRC.out.keep HKy.out (by simp)).at (j := K) (by rw [rg_length]; exact hKlt))
                        rw [rg_getD _ _ _ hKlt] at hcq
                        have hLb := getD_lt (L K) X (Hbl.out K)
                        have hcfb := cf_lo j K
                        have hccy := cell_keep HKy.out hcc (by simp)
                        have Hxor := Hid.mk (u8_xor_nat (sm (fun t => mu (cf j t) (fn (ll L k) t X)) K) (mu (cf j K) ((L K).getD X 0)) hsm (mu_lt _ _))
                        rw [← HNx.out] at Hxor
                        have CM := Hid.mk (fun u => mul_any (cf j K) ((L K).getD X 0) hcfb hLb u)
                        generalize (L K).getD X 0 = y at *
                        generalize cf j K = z at *
                        obtain ⟨s2, es2⟩ : ∃ s2, sm (fun t => mu (cf j t) (fn (ll L k) t X)) (K + 1) = s2 := ⟨_, rfl⟩
                        have HS2 := Hid.mk es2
                        rw [es2] at Hxor
                        generalize sm (fun t => mu (cf j t) (fn (ll L k) t X)) K = s1 at *
                        clear hrd HNx hLb hcfb hsm hcc es2
                        have hxor := Hxor.out
                        go_wp2_with (fail)
                        go_quiet ((go_at_call 17; exact Calls.quiet_of (CM.out _)))
                        go_wp2
                        exact ⟨⟨K + 1, by omega, by go_num, by rw [HS2.out], HKy.out.drewN _⟩, by simp [intOf]; omega⟩
                      · have hdx : decide ((X : Int) < (sz K : Int)) = false := by simp; omega
                        have h0 : (L K).getD X 0 = 0 := by rw [List.getD_eq_getElem?_getD, List.getElem?_eq_none (by rw [Hsz.out]; omega)]; rfl
                        rw [h0, mu_zero, Nat.xor_zero] at HNx
                        obtain ⟨s1, es1⟩ : ∃ s1, sm (fun t => mu (cf j t) (fn (ll L k) t X)) K = s1 := ⟨_, rfl⟩
                        rw [es1] at HNx ⊢
                        clear hrd h0 hsm hcc es1
                        go_wp2
                        exact ⟨⟨K + 1, by omega, by go_num, by rw [HNx.out], HKy.out⟩, by simp [intOf]; omega⟩
                    · obtain rfl : k = K := by omega
                      have hcmy := cell_keep HKy.out hcm (by simp)
                      obtain ⟨gb, ob, hgb, hcb⟩ : ∃ gb ob, bom = some ⟨gb, ob, none⟩ ∧ wr.cell? ⟨gb, ob + X, none⟩ = some (.int .u8 ((Mk j).getD X 0 : Nat)) := by
                        rcases HRM.out.keep HKy.out with h | ⟨gb, ob, h1, h2⟩
                        · have : (Mk j).length = W := by rw [HMk.out, rg_length]
                          rw [h] at this; simp at this; omega
                        · exact ⟨gb, ob, h1, h2 X (by rw [HMk.out, rg_length]; exact hXW)⟩
                      subst hgb
                      rw [HMk.out, rg_getD _ _ _ hXW] at hcb
                      have emk : mk (ll L k) j X = sm (fun t => mu (cf j t) (fn (ll L k) t X)) k := by unfold mk; rw [ll_length]
                      rw [emk] at hcb
                      generalize sm (fun t => mu (cf j t) (fn (ll L k) t X)) k = s1 at *
                      clear emk hcc hcm
                      go_wp2
                      exact ⟨⟨X + 1 + W / 500, by omega, by go_num, HKy.out⟩, by simp [intOf]; omega⟩
                · go_wp2
                  exact ⟨⟨j + 1, by omega, by go_num, HKq.out.trans HKx.out⟩, by simp [intOf]; omega⟩
            · have HK6 := Hid.mk ((HK14.out.trans HK5.out).trans HKq.out)
              have HR6 := Hid.mk (HR4.out.keep (HK5.out.trans HKq.out))
              have HM6 := Hid.mk (HM4.out.keep (HK5.out.trans HKq.out))
              have HS6 := Hid.mk ((HK5.out.trans HKq.out).row HS4.out (by simp))
              have CB := Hid.mk (comes_any lo nl cl fm fs ao k c so cs g P xo m0 cx q ks f fmo L Mk (fun i => if i < k then L i else Mk (i - k)) sz w1.heap.size w wi Hl.out Hfm.out (by omega) (by omega) hP1 hP2 (fun i _ => HL.out i) HR6 HM6 (Hid.mk ⟨HK1.out.size, HK6.out.size⟩) HS6 EMk Hsz (Hid.mk (fun i => by have := Hln.out i; omega)) (Hid.mk (fun i _ => Hbl.out i)) (Hid.mk (fun i hi => if_pos hi)) (Hid.mk (fun i => by show (if k + i < k then _ else _) = _; rw [if_neg (by omega), Nat.add_sub_cancel_left])) (Hid.mk (fun x hx => ⟨Nat.le_trans HK1.out.size (HKS4.out x hx).1, Nat.lt_of_lt_of_le (HKS4.out x hx).2 (HK5.out.trans HKq.out).size⟩)) HNE HGM HNIL (Hid.mk (HK1.out.trans HK6.out)) Hx.out Hq.out hm0)
              go_wp2_with (go_at_call 18; refine CB.out.mono ?_; rintro e w9 ⟨rfl, hk9⟩)
              go_ret
              exact ⟨rfl, hk9⟩
end Go.Proofs.Ytmgfapooanpgfaa
