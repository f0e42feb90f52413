import Derived.Test.YtjnmnkheichflabTh
import Derived.Test.YtjnmnkheichflabCa
import Derived.Test.YtjnmnkheichflabCh2
import Derived.Test.YtjnmnkheichflabN3
import Derived.Deep.DeepCutAuto
namespace Go.Proofs.Ytjnmnkheichflab
open Go.RowKit

/-- All fit into an int. -/
def Ints (zs : List Int) : Prop := ∀ z ∈ zs, -9223372036854775808 ≤ z ∧ z ≤ 9223372036854775807
theorem Ints.at {zs : List Int} (h : Ints zs) {i : Nat} (hi : i < zs.length) : -9223372036854775808 ≤ zs.getD i 0 ∧ zs.getD i 0 ≤ 9223372036854775807 := h _ (by simp [hi])

/-- A part of Cauchy's matrix; what is sought of it. -/
def pf (r s : Nat → Nat) : Nat → Nat → Nat := fun i j => cf (r i) (s j)
theorem pf_lo (r s : Nat → Nat) : Lo (pf r s) := fun _ _ => cf_lo _ _
def wf (i j : Nat) : Nat := if j = 0 then i % 256 else 3 * i % 256
theorem wf_lo : Lo wf := fun i j => by unfold wf; split <;> omega
theorem wf_row (i : Nat) : (rg (wf i) 2).map byt = [.int .u8 ((i % 256 : Nat) : Int), .int .u8 ((3 * i % 256 : Nat) : Int)] := rfl

/-- Each part can be solved. -/
theorem part_full {n c k : Nat} {r s : Nat → Nat} (hnc : n + c ≤ 256) (hr : ∀ i, i < k → r i < n) (hs : ∀ i, i < k → s i < c) (ir : ∀ i j, i < k → j < k → r i = r j → i = j) (is : ∀ i j, i < k → j < k → s i = s j → i = j) (B : Nat → Nat → Nat) :
    ∃ X Y, gt k (fn (mf (pf r s) k k)) B k = some (X, Y) := by
  refine gt_full (fn_mf_lo (pf_lo r s) k k) (fun x hx h => ?_) k (Nat.le_refl _)
  refine cauchy_ker k (fun i => 255 - r i) s x (fun i hi => by have := hr i hi; show 255 - r i < 256; omega) (fun j hj => by have := hs j hj; omega) hx (fun i j hi hj e => ir i j hi hj (by have := hr i hi; have := hr j hj; have e2 : 255 - r i = 255 - r j := e; omega)) is (fun i j hi hj => by have := hr i hi; have := hs j hj; show 255 - r i ≠ s j; omega) (fun i hi => ?_)
  rw [← h i hi]
  unfold ap
  exact sm_congr k (fun j hj => by rw [mf_fn _ _ _ _ _ hi hj]; rfl)

theorem own_lt {w : World} {B n e : Nat} {V : Value} {xs : List Value} (h : w.ownsRow B e 1 V n xs) : ∀ g, V.ownBlock = some g → g < w.heap.size := by
  intro g hg
  rcases h.2 with ⟨rfl, _⟩ | ⟨g2, cap, cur, rfl, _, hh, _⟩
  · simp [Value.ownBlock] at hg
  · simp [Value.ownBlock] at hg
    subst hg; exact lt_of_block hh

set_option maxHeartbeats 8000000 in
set_option maxRecDepth 1000000 in
theorem cauchyLaw_any (a0 a1 a2 : Option Addr) (q0 q1 q2 m0 m1 m2 : Nat) (z0 z1 z2 : List Int) (w : World) (r0 : RdI w a0 z0) (r1 : RdI w a1 z1) (r2 : RdI w a2 z2) (i0 : Ints z0) (i1 : Ints z1) (i2 : Ints z2) (l0 : z0.length = m0) (l1 : z1.length = m1) (l2 : z2.length = m2)
    (b0 : m0 ≤ 17592186043904) (b1 : m1 ≤ 17592186043904) (b2 : m2 ≤ 17592186043904) :
    Calls Try.prog 6 #[.slice a0 m0 q0, .slice a1 m1 q1, .slice a2 m2 q2] w fun e w' => e = .returned (.bool true) ∧ Kept [] w w' := by
  have R0 := Hid.mk r0
  have R1 := Hid.mk r1
  have R2 := Hid.mk r2
  have I0 := Hid.mk i0
  have I1 := Hid.mk i1
  have I2 := Hid.mk i2
  have L0 := Hid.mk l0
  have L1 := Hid.mk l1
  have L2 := Hid.mk l2
  clear r0 r1 r2 i0 i1 i2 l0 l1 l2
  go_enter Try.func6, Try.ntmps6
  go_upto_if 28 with (go_at_call 7; refine (alive_any _).mono ?_; rintro e w1 ⟨rfl, hq1⟩; have hk1 := Qt.kept hq1 []; clear hq1)
  have HK1 := Hid.mk hk1
  clear hk1
  go_cut [8, 9] (fun s8 s9 wc => ∃ n c : Nat, 1 ≤ n ∧ 1 ≤ c ∧ n + c ≤ 256 ∧ s8 = .int .i64 (n : Int) ∧ s9 = .int .i64 (c : Int) ∧ Kept [] w wc)
  case first =>
    by_cases h : 0 < m0
    · obtain ⟨g, off, hao, hc⟩ := (R0.out.keep HK1.out).cell (i := 0) (by have := L0.out; omega)
      have hz := I0.out.at (i := 0) (by have := L0.out; omega)
      obtain ⟨z, ez⟩ : ∃ z, z = z0.getD 0 0 := ⟨_, rfl⟩
      rw [← ez] at hc hz
      rw [Nat.add_zero] at hc
      have p1 := pick_lo z 255 (by decide)
      have p2 := pick_hi z 255 (by decide)
      have C0 := Hid.mk (fun w => pick_any z 255 w hz.1 hz.2 (by decide))
      obtain ⟨P, eP⟩ : ∃ P, P = pick z 255 := ⟨_, rfl⟩
      rw [← eP] at p1 p2 C0
      obtain ⟨n, hn⟩ : ∃ n : Nat, 1 + P = (n : Int) := ⟨(1 + P).toNat, by omega⟩
      have ix : (0 : Int) < (m0 : Int) := by omega
      subst hao
      clear ez eP h
      go_wp2_with (go_at_call 18; refine (C0.out _).mono ?_; rintro e w' ⟨rfl, hw⟩; obtain rfl := hw.symm)
      all_goals go_meet
      all_goals first
        | exact ⟨n, 4, by omega, by omega, by omega, rfl, rfl, HK1.out⟩
        | exact ⟨n, 256 - n, by omega, by omega, by omega, rfl, congrArg (Value.int .i64) (by omega), HK1.out⟩
    · obtain rfl : m0 = 0 := by omega
      go_wp2
      all_goals go_meet
      all_goals exact ⟨3, 4, by omega, by omega, by omega, rfl, rfl, HK1.out⟩
  case rest =>
    obtain ⟨n, c, n1, c1, nc, rfl, rfl, hk2⟩ := hcut
    clear HK1
    have HK2 := Hid.mk hk2
    clear hk2
    go_upto_if 40 with (fail)
    go_cut [9] (fun s9 wc => ∃ c : Nat, 1 ≤ c ∧ n + c ≤ 256 ∧ s9 = .int .i64 (c : Int) ∧ Kept [] w wc)
    case first =>
      by_cases h : 1 < m0
      · obtain ⟨g, off, hao, hc⟩ := (R0.out.keep HK2.out).cell (i := 1) (by have := L0.out; omega)
        have hz := I0.out.at (i := 1) (by have := L0.out; omega)
        obtain ⟨z, ez⟩ : ∃ z, z = z0.getD 1 0 := ⟨_, rfl⟩
        rw [← ez] at hc hz
        have p1 := pick_lo z (256 - (n : Int)) (by omega)
        have p2 := pick_hi z (256 - (n : Int)) (by omega)
        have C0 := Hid.mk (fun w => pick_any z (256 - (n : Int)) w hz.1 hz.2 (by omega))
        obtain ⟨P, eP⟩ : ∃ P, P = pick z (256 - (n : Int)) := ⟨_, rfl⟩
        rw [← eP] at p1 p2 C0
        obtain ⟨c', hn⟩ : ∃ c' : Nat, 1 + P = (c' : Int) := ⟨(1 + P).toNat, by omega⟩
        have ix : (1 : Int) < (m0 : Int) := by omega
        subst hao
        clear ez eP h
        go_wp2_with (go_at_call 18; refine (C0.out _).mono ?_; rintro e w' ⟨rfl, hw⟩; obtain rfl := hw.symm)
        all_goals go_meet
        all_goals exact ⟨c', by omega, by omega, rfl, HK2.out⟩
      · have h1 : ¬ (1 : Int) < (m0 : Int) := by omega
        go_wp2
        all_goals go_meet
        all_goals exact ⟨c, by omega, by omega, rfl, HK2.out⟩
    case rest =>
      obtain ⟨c, c1, nc, rfl, hk3⟩ := hcut
      clear HK2
      have HK3 := Hid.mk hk3
      clear hk3
      go_upto_region 10 with (fail)
      go_cut [10] (fun s10 wc => ∃ k : Nat, 1 ≤ k ∧ k ≤ n ∧ k ≤ c ∧ s10 = .int .i64 (k : Int) ∧ Kept [] w wc)
      case first =>
        go_wp2
        all_goals go_meet
        all_goals first
          | exact ⟨2, by omega, by omega, by omega, rfl, HK3.out⟩
          | exact ⟨n, by omega, by omega, by omega, rfl, HK3.out⟩
          | exact ⟨c, by omega, by omega, by omega, rfl, HK3.out⟩
      case rest =>
        obtain ⟨k, k1, kn, kc, rfl, hk4⟩ := hcut
        clear HK3
        have HK4 := Hid.mk hk4
        clear hk4
        go_upto_if 54 with (fail)
        go_cut [10] (fun s10 wc => ∃ k : Nat, 1 ≤ k ∧ k ≤ n ∧ k ≤ c ∧ s10 = .int .i64 (k : Int) ∧ Kept [] w wc)
        case first =>
          by_cases h : 2 < m0
          · obtain ⟨g, off, hao, hc⟩ := (R0.out.keep HK4.out).cell (i := 2) (by have := L0.out; omega)
            have hz := I0.out.at (i := 2) (by have := L0.out; omega)
            obtain ⟨z, ez⟩ : ∃ z, z = z0.getD 2 0 := ⟨_, rfl⟩
            rw [← ez] at hc hz
            have ix : (2 : Int) < (m0 : Int) := by omega
            subst hao
            clear ez h
            by_cases hnc : n ≤ c
            · have p1 := pick_lo z (n : Int) (by omega)
              have p2 := pick_hi z (n : Int) (by omega)
              have C0 := Hid.mk (fun w => pick_any z (n : Int) w hz.1 hz.2 (by omega))
              obtain ⟨P, eP⟩ : ∃ P, P = pick z (n : Int) := ⟨_, rfl⟩
              rw [← eP] at p1 p2 C0
              obtain ⟨k', hn⟩ : ∃ c' : Nat, 1 + P = (c' : Int) := ⟨(1 + P).toNat, by omega⟩
              have hmin : (n : Int) ≤ (c : Int) := by omega
              have hmin2 : ¬ (c : Int) < (n : Int) := by omega
              clear eP
              go_wp2_with (go_at_call 18; refine (C0.out _).mono ?_; rintro e w' ⟨rfl, hw⟩; obtain rfl := hw.symm)
              all_goals go_meet
              all_goals exact ⟨k', by omega, by omega, by omega, rfl, HK4.out⟩
            · have p1 := pick_lo z (c : Int) (by omega)
              have p2 := pick_hi z (c : Int) (by omega)
              have C0 := Hid.mk (fun w => pick_any z (c : Int) w hz.1 hz.2 (by omega))
              obtain ⟨P, eP⟩ : ∃ P, P = pick z (c : Int) := ⟨_, rfl⟩
              rw [← eP] at p1 p2 C0
              obtain ⟨k', hn⟩ : ∃ c' : Nat, 1 + P = (c' : Int) := ⟨(1 + P).toNat, by omega⟩
              have hmin : (c : Int) < (n : Int) := by omega
              have hmin2 : ¬ (n : Int) ≤ (c : Int) := by omega
              clear eP
              go_wp2_with (go_at_call 18; refine (C0.out _).mono ?_; rintro e w' ⟨rfl, hw⟩; obtain rfl := hw.symm)
              all_goals go_meet
              all_goals exact ⟨k', by omega, by omega, by omega, rfl, HK4.out⟩
          · have h1 : ¬ (2 : Int) < (m0 : Int) := by omega
            go_wp2
            all_goals go_meet
            all_goals exact ⟨k, by omega, by omega, by omega, rfl, HK4.out⟩
        case rest =>
          obtain ⟨k, k1, kn, kc, rfl, hk5⟩ := hcut
          clear HK4
          have HK5 := Hid.mk hk5
          clear hk5
          go_wp2_with (fail)
          refine (cauchy_ok n c _ n1 c1 nc).mono ?_
          rintro e w6 ⟨gm, bm, rfl, hM, _, _, hk6⟩
          have HK6 := Hid.mk (HK5.out.trans hk6)
          have M := Hid.mk hM
          clear hM hk6 HK5
          go_wp2_with (fail)
          refine (chosen_any a1 q1 m1 n k z1 w6 (R1.out.keep HK6.out) L1.out I1.out (by omega) kn (by omega) (by omega)).mono ?_
          rintro e w7 ⟨V1, r, rfl, hG1, hr1, hr2, hk7⟩
          obtain ⟨g1, cap1, rfl, hc1, _, _⟩ := hG1.cell (by omega)
          have HK7 := Hid.mk (HK6.out.trans hk7)
          replace M := Hid.mk (M.out.keep0 hk7)
          have HC1 := Hid.mk hc1
          have Hr1 := Hid.mk hr1
          have Hr2 := Hid.mk hr2
          clear hG1 hr1 hr2 hk7 HK6 hc1
          go_wp2_with (fail)
          refine (chosen_any a2 q2 m2 c k z2 w7 (R2.out.keep HK7.out) L2.out I2.out (by omega) kc (by omega) (by omega)).mono ?_
          rintro e w8 ⟨V2, s, rfl, hG2, hs1, hs2, hk8⟩
          obtain ⟨g2, cap2, rfl, hc2, _, _⟩ := hG2.cell (by omega)
          have HK8 := Hid.mk (HK7.out.trans hk8)
          replace M := Hid.mk (M.out.keep0 hk8)
          replace HC1 := Hid.mk (fun i hi => cell_keep hk8 (HC1.out i hi) (by simp))
          have HC2 := Hid.mk hc2
          have Hs1 := Hid.mk hs1
          have Hs2 := Hid.mk hs2
          clear hG2 hs1 hs2 hk8 HK7 hc2
          obtain ⟨B, eB⟩ : ∃ B, B = w8.heap.size := ⟨_, rfl⟩
          have EB := Hid.mk eB
          clear eB
          go_wp2
          go_loopw [15, 16, 17] (fun P W s17 wr => ∃ (t : Nat) (bp bw : Nat → Nat), t ≤ k ∧ s17 = .int .i64 (t : Int) ∧ Gl B wr P t bp k (pf r s) ∧ Gl B wr W t bw 2 wf ∧ (∀ g, P.ownBlock = some g → W.ownBlock ≠ some g) ∧ Below B w8 wr ∧ B ≤ wr.heap.size) (fun _ _ s17 _ => k - (intOf s17).toNat)
          case atStart => exact ⟨0, fun _ => 0, fun _ => 0, by omega, rfl, Gl.start B w8 _ _ _, Gl.start B w8 _ _ _, fun g h => by simp [Value.ownBlock] at h, Below.refl _ _, by rw [EB.out]; exact Nat.le_refl _⟩
          case round =>
            obtain ⟨t, bp, bw, ht, rfl, hgp, hgw, hpw, hbw, hsz⟩ := hrel
            have GP := Hid.mk hgp
            have GW := Hid.mk hgw
            have HN := Hid.mk hpw
            have HB := Hid.mk hbw
            have HS := Hid.mk hsz
            clear hgp hgw hpw hbw hsz
            by_cases hlt : t < k
            · obtain ⟨i0, hi, hz0, hz1, hz2⟩ := info_parts Try.info5
              obtain ⟨j0, gi, gz0, gz1, gz2⟩ := info_parts Try.infoR
              go_wp2_with (at_make; refine wpList_make_full _ rfl _ _ 31 rfl 0 5 i0 (.int .u8 0) 1 Try.underlying31 hi hz0 hz1 _ _ _ _ k rfl rfl (by omega) (by omega) ?b2 ?b3 (by omega) ?_)
              case b2 => rw [hz2]; omega
              case b3 => unfold maxLen; omega
              intro w3 ho3 hg3
              have hk3 := Kept.of_grown hg3
              have hr3 := row_heap ho3 rfl
              rw [toList_madeCells_one, rg_none] at hr3
              obtain ⟨b, hb⟩ : ∃ b, b = wr.heap.size := ⟨_, rfl⟩
              rw [← hb] at hr3 ⊢
              have R3 : Hid (Row w3 b (rg (fun _ => 0) k)) := Hid.mk hr3
              have BB : Hid (B ≤ b) := Hid.mk (by rw [hb]; exact HS.out)
              have PL : Hid (∀ g, u15.ownBlock = some g → g < b) := Hid.mk (fun g h => by rw [hb]; exact own_lt GP.out.own g h)
              have WL : Hid (∀ g, u16.ownBlock = some g → g < b) := Hid.mk (fun g h => by rw [hb]; exact own_lt GW.out.own g h)
              have RL1 : Hid (∀ i, i < t → bp i < b) := Hid.mk (fun i h => by rw [hb]; exact (GP.out.row i h).lt)
              have RL2 : Hid (∀ i, i < t → bw i < b) := Hid.mk (fun i h => by rw [hb]; exact (GW.out.row i h).lt)
              replace GP := Hid.mk (GP.out.keep0 hk3)
              replace GW := Hid.mk (GW.out.keep0 hk3)
              replace HB := Hid.mk (HB.out.trans (hk3.below HS.out (by simp)))
              replace HS : Hid (B ≤ w3.heap.size) := Hid.mk (Nat.le_trans HS.out hk3.size)
              clear hr3 hb ho3 hg3 hk3 hi hz0 hz1 hz2
              have hrt := Hr1.out t hlt
              obtain ⟨rt, ert⟩ : ∃ rt, rt = r t := ⟨_, rfl⟩
              have Ert := Hid.mk ert
              rw [← ert] at hrt
              clear ert
              go_wp2
              go_loopw [19] (fun s19 wx => ∃ j : Nat, j ≤ k ∧ s19 = .int .i64 (j : Int) ∧ Row wx b (rg (upt j (fun _ => 0) (pf r s t)) k) ∧ Kept [b] w3 wx) (fun s19 _ => k - (intOf s19).toNat)
              case atStart => exact ⟨0, by omega, rfl, by rw [upt_zero]; exact R3.out, Kept.refl _ _⟩
              case round =>
                obtain ⟨j, hj, rfl, hrow, hkx⟩ := hrel
                by_cases hjt : j < k
                · have hkk : Kept [] w8 wr := Kept.of_below (by
                    have h1 := HB.out.trans (hkx.below HS.out (fun x hx => by simp at hx; subst hx; exact BB.out))
                    rw [EB.out] at h1; exact h1)
                  have e1 := cell_keep hkk (HC1.out t hlt) (by simp)
                  have e2 := cell_keep hkk (HC2.out j hjt) (by simp)
                  have hsj := Hs1.out j hjt
                  rw [← Ert.out] at e1
                  have mm := M.out.keep0 hkk
                  have e3 := mm.out rt hrt
                  have e4 := (mm.row rt hrt).at (j := s j) (by rw [rg_length]; exact hsj)
                  rw [rg_getD _ _ _ hsj] at e4
                  have hcell := hrow.at (j := j) (by rw [rg_length]; exact hjt)
                  rw [rg_getD _ _ _ hjt, upt_at] at hcell
                  have hfz := hrow.fz j
                  have Hset := Hid.mk (fun q u hu => (hrow.keep ((Kept.refl [] wr).drewN q) (by simp)).set (q := pf r s t) (u := u) hu)
                  have Hv : Hid (pf r s t j = cf rt (s j)) := Hid.mk (by unfold pf; rw [Ert.out])
                  have Hkx := Hid.mk hkx
                  obtain ⟨sj, esj⟩ : ∃ sj, sj = s j := ⟨_, rfl⟩
                  rw [← esj] at e2 hsj e4 Hv
                  obtain ⟨v, ev⟩ : ∃ v, v = cf rt sj := ⟨_, rfl⟩
                  rw [← ev] at e4 Hv
                  clear esj ev hrow hkx hkk mm
                  have x1 : (t : Int) < (k : Int) := by omega
                  have x2 : (j : Int) < (k : Int) := by omega
                  have x3 : (rt : Int) < (n : Int) := by omega
                  have x4 : (sj : Int) < (c : Int) := by omega
                  have x5 : decide ((c : Int) ≤ (sj : Int)) = false := by simp; omega
                  go_wp2
                  go_quiet (fail)
                  go_wp2
                  go_region_law (fail)
                  all_goals go_wp2
                  all_goals go_roundw
                  all_goals first
                    | exact ⟨j + 1, by omega, by go_num, Hset.out _ _ (by rw [Hv.out]; rfl), (Hkx.out.drewN _).setCell (p := ⟨b, j, none⟩) (.inl (by simp)) _⟩
                    | (simp [intOf]; omega)
                · obtain rfl : j = k := by omega
                  rw [upt_full] at hrow
                  have hPb : ∀ g, u15.ownBlock = some g → g ∉ [b] := fun g hg => by have := PL.out g hg; simp; omega
                  have hWb : ∀ g, u16.ownBlock = some g → g ∉ [b] := fun g hg => by have := WL.out g hg; simp; omega
                  replace GP := Hid.mk (GP.out.keep hkx hPb (fun i hi => by have := RL1.out i hi; simp; omega))
                  replace GW := Hid.mk (GW.out.keep hkx hWb (fun i hi => by have := RL2.out i hi; simp; omega))
                  replace HB := Hid.mk (HB.out.trans (hkx.below HS.out (fun x hx => by simp at hx; subst hx; exact BB.out)))
                  replace HS : Hid (B ≤ wr.heap.size) := Hid.mk (Nat.le_trans HS.out hkx.size)
                  have Hrow := Hid.mk hrow
                  have Bsz : Hid (b < wr.heap.size) := Hid.mk (Row.lt hrow)
                  clear hrow hkx R3 hPb hWb
                  go_wp2_with (at_builtin; refine wpList_append_own_at _ rfl _ _ 22 rfl B 31 j0 (.slice none 0 0) 1 24 Try.underlying22 gi gz0 gz1 gz2 rfl (by decide) _ t (sl bp j t) rfl (GP.out.own.alloc _) ⟨wr.heap.size, 0, none⟩ 1 1 [.slice (some ⟨b, 0, none⟩) j j] rfl rfl (cell_one_new _ _ _) ?c2 ?c3 ?c4 ?c5 ?_)
                  case c2 => intro u hu; simp at hu; subst hu; rfl
                  case c3 => unfold maxLen; omega
                  case c4 => omega
                  case c5 => rw [World.size_alloc]; have := HS.out; omega
                  intro V' w5 ho5 hg5 _ hob5
                  have hk5 : Kept u15.ownBlock.toList wr w5 := ((Kept.refl _ wr).alloc _).step (Kept.of_grown hg5) (fun x hx => .inl hx)
                  have GW5 := Hid.mk (GW.out.keep hk5 (fun g hg hm => HN.out g (mem_own.1 hm) hg) (fun i hi hm => own_row GP.out.own (GW.out.row i hi) (mem_own.1 hm)))
                  have GP5 := Hid.mk (GP.out.step Hrow.out RL1.out BB.out ho5 hk5)
                  have HN5 : Hid (∀ g, V'.ownBlock = some g → u16.ownBlock ≠ some g) := Hid.mk (fun g hg hw => by
                    rcases hob5 with h | h
                    · exact HN.out g (h ▸ hg) hw
                    · have h2 : g = wr.heap.size + 1 := by rw [h] at hg; simpa [World.size_alloc] using hg.symm
                      have := WL.out g hw
                      have := Bsz.out
                      omega)
                  have HB5 := Hid.mk (HB.out.trans (GP.out.below HS.out hk5))
                  have HS5 : Hid (B ≤ w5.heap.size) := Hid.mk (Nat.le_trans HS.out hk5.size)
                  clear ho5 hg5 hob5 hk5 GP GW HB HS Hrow RL1 RL2 PL WL HN Bsz BB
                  go_wp2_with (at_builtin; refine wpList_append_own_at _ rfl _ _ 22 rfl B 31 j0 (.slice none 0 0) 1 24 Try.underlying22 gi gz0 gz1 gz2 rfl (by decide) _ t (sl bw 2 t) rfl ((GW5.out.own.alloc _).alloc _) _ 1 1 [.slice (some ⟨w5.heap.size, 0, none⟩) 2 2] rfl rfl ?d1 ?d2 ?d3 ?d4 ?d5 ?_)
                  case d1 =>
                    have := cell_one_new (w5.alloc (.cells #[.int .u8 (t : Int), .int .u8 (3 * (t : Int) % 256)] 5)) (.slice (some ⟨w5.heap.size, 0, none⟩) 2 2) 31
                    simpa [World.size_alloc] using this
                  case d2 => intro u hu; simp at hu; subst hu; rfl
                  case d3 => unfold maxLen; omega
                  case d4 => omega
                  case d5 => rw [World.size_alloc, World.size_alloc]; have := HS5.out; omega
                  intro V6 w6 ho6 hg6 _ hob6
                  have kA : Kept [] w5 (w5.alloc (.cells #[.int .u8 (t : Int), .int .u8 (3 * (t : Int) % 256)] 5)) := (Kept.refl [] w5).alloc _
                  have hk6 : Kept u16.ownBlock.toList w5 w6 := (((Kept.refl _ w5).alloc _).alloc _).step (Kept.of_grown hg6) (fun x hx => .inl hx)
                  have hkW : Kept u16.ownBlock.toList (w5.alloc (.cells #[.int .u8 (t : Int), .int .u8 (3 * (t : Int) % 256)] 5)) w6 := ((Kept.refl _ _).alloc _).step (Kept.of_grown hg6) (fun x hx => .inl hx)
                  have hrow2 : Row (w5.alloc (.cells #[.int .u8 (t : Int), .int .u8 (3 * (t : Int) % 256)] 5)) w5.heap.size (rg (wf t) 2) := by
                    unfold Row
                    rw [heap_alloc_new, wf_row, Nat.mod_eq_of_lt (show t < 256 by omega)]
                    simp
                  have GW6 := Hid.mk ((GW5.out.keep0 kA).step hrow2 (fun i hi => (GW5.out.row i hi).lt) HS5.out ho6 hkW)
                  have GP6 := Hid.mk (GP5.out.keep hk6 (fun g hg hm => HN5.out g hg (mem_own.1 hm)) (fun i hi hm => own_row GW5.out.own (GP5.out.row i hi) (mem_own.1 hm)))
                  have HN6 : Hid (∀ g, V'.ownBlock = some g → V6.ownBlock ≠ some g) := Hid.mk (fun g hg hw => by
                    rcases hob6 with h | h
                    · exact HN5.out g hg (h ▸ hw)
                    · have h2 : g = w5.heap.size + 1 + 1 := by rw [h] at hw; simpa [World.size_alloc] using hw.symm
                      have := own_lt GP5.out.own g hg
                      omega)
                  have HB6 := Hid.mk (HB5.out.trans (GW5.out.below HS5.out hk6))
                  have HS6 : Hid (B ≤ w6.heap.size) := Hid.mk (Nat.le_trans HS5.out hk6.size)
                  clear ho6 hg6 hob6 hk6 hkW hrow2 kA GP5 GW5 HB5 HS5 HN5
                  go_wp2
                  go_roundw
                  case rel => exact ⟨t + 1, _, _, by omega, by go_num, GP6.out, GW6.out, HN6.out, HB6.out, HS6.out⟩
                  case measure => simp [intOf]; omega
            · obtain rfl : t = k := by omega
              obtain ⟨gp, cp, rfl, mp, _⟩ := GP.out.mt (by omega)
              obtain ⟨gw, cw, rfl, mw, _⟩ := GW.out.mt (by omega)
              obtain ⟨X, Y, hgt⟩ := part_full nc Hr1.out Hs1.out Hr2.out Hs2.out (fn (mf wf t 2))
              have hback := there_back (pf_lo r s) wf_lo hgt
              have lY : Hid (Lo Y) := Hid.mk (gt_lo2 (pf_lo r s) wf_lo hgt)
              have MP := Hid.mk mp
              have MW := Hid.mk mw
              have HG := Hid.mk hgt
              have HBk := Hid.mk hback
              have HKr : Hid (Kept [] w wr) := Hid.mk (HK8.out.trans (Kept.of_below (by have := HB.out; rw [EB.out] at this; exact this)))
              clear mp mw hgt hback GP GW HN HB HS M HC1 HC2 HK8
              go_wp2_with (fail)
              refine (solve_some _ _ _ _ t 2 _ _ X Y wr MP.out.reads MW.out.reads (pf_lo r s) wf_lo (by omega) (by omega) (by omega) HG.out).mono ?_
              rintro e wa ⟨gx, rfl, hxa, hka⟩
              have HX := Hid.mk hxa
              replace MP := Hid.mk (MP.out.keep0 hka)
              replace MW := Hid.mk (MW.out.keep0 hka)
              replace HKr := Hid.mk (HKr.out.trans hka)
              clear hxa hka
              go_wp2_with (fail)
              refine (times_k _ _ _ _ t t 2 _ _ wa MP.out.reads HX.out (pf_lo r s) lY.out (by omega) (by omega) (by omega) (by omega)).mono ?_
              rw [HBk.out]
              rintro e wb ⟨gy, rfl, hyb, hkb⟩
              have HY := Hid.mk hyb
              replace MW := Hid.mk (MW.out.keep0 hkb)
              replace HKr := Hid.mk (HKr.out.trans hkb)
              clear hyb hkb HX MP
              go_wp2_with (fail)
              refine (same_any _ _ _ _ t _ wb HY.out MW.out.reads (mf_length _ _ _) (by omega)).mono ?_
              rintro e wd ⟨rfl, hqd⟩
              replace HKr := Hid.mk (HKr.out.trans (Qt.kept hqd []))
              clear hqd HY MW
              go_wp2
              go_ret
              exact ⟨rfl, HKr.out⟩
end Go.Proofs.Ytjnmnkheichflab
