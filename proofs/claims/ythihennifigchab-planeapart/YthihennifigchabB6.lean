import Derived.Test.YthihennifigchabB5
import Derived.Test.YthihennifigchabB4
namespace Go.Proofs.Ythihennifigchab
open Go.RowKit

theorem pz_len {rw rh : Int} (h1 : 1 ≤ rw) (h2 : 1 ≤ rh) (h3 : rw ≤ 4096) (h4 : rh ≤ 4096) (i : Nat) : (pz rw rh i : Int) = wp rw (i : Int) * rh := by
  have := wpH (i : Int) h1 h3 h2 h4
  show ((wp rw (i : Int) * rh).toNat : Int) = _
  omega
theorem wp_mono {a b : Int} (p : Int) (h : a ≤ b) : wp a p ≤ wp b p := by
  unfold wp hf
  split <;> omega
theorem tot_mono {W H rw rh : Int} (A : Bool) (h1 : 1 ≤ rw) (h2 : 1 ≤ rh) (h3 : rw ≤ W) (h4 : rh ≤ H) : tot rw rh A ≤ tot W H A := by
  have a : rw * rh ≤ W * H := Int.mul_le_mul h3 h4 (by omega) (by omega)
  have b : hf rw * rh ≤ hf W * H := Int.mul_le_mul (by unfold hf; omega) h4 (by omega) (by unfold hf; omega)
  unfold tot
  split <;> omega
theorem crp_lt {wd ht X Y rw rh j : Nat} (h1 : X + rw ≤ wd) (h2 : Y + rh ≤ ht) (h3 : 1 ≤ rw) (hj : j < rw * rh) : (Y + j / rw) * wd + X + j % rw < wd * ht := by
  have hm := Nat.mod_lt j (show 0 < rw by omega)
  have hd : j / rw < rh := by
    rw [Nat.div_lt_iff_lt_mul (by omega)]
    rw [Nat.mul_comm] at hj
    exact hj
  have : (Y + j / rw + 1) * wd ≤ ht * wd := Nat.mul_le_mul_right _ (by omega)
  rw [Nat.add_mul, Nat.one_mul] at this
  rw [Nat.mul_comm wd ht]
  omega
theorem crp_crp (f : Nat → Nat) {wd X Y rw X' Y' r2 j : Nat} (h1 : X' + r2 ≤ rw) (h3 : 1 ≤ r2) : crp (crp f wd X Y rw) rw X' Y' r2 j = crp f wd (X + X') (Y + Y') r2 j := by
  unfold crp
  have hm := Nat.mod_lt j (show 0 < r2 by omega)
  have e1 : ((Y' + j / r2) * rw + X' + j % r2) / rw = Y' + j / r2 := by
    rw [Nat.add_assoc, Nat.mul_comm, Nat.mul_add_div (by omega), Nat.div_eq_of_lt (show X' + j % r2 < rw by omega), Nat.add_zero]
  have e2 : ((Y' + j / r2) * rw + X' + j % r2) % rw = X' + j % r2 := by
    rw [Nat.add_assoc, Nat.mul_comm, Nat.mul_add_mod, Nat.mod_eq_of_lt (show X' + j % r2 < rw by omega)]
  rw [e1, e2]
  congr 1
  simp only [Nat.add_assoc]

theorem whl_d {W H X Y rw rh : Int} (h : whl W H X Y rw rh = true) : (1 ≤ rw ∧ 1 ≤ rh ∧ 0 ≤ X ∧ 0 ≤ Y ∧ X + rw ≤ W ∧ Y + rh ≤ H) ∧ X % 2 = 0 ∧ (rw % 2 = 0 ∨ X + rw = W) := of_decide_eq_true h
/-- What is cut out may be. -/
theorem cut_vld {W H D X Y rw rh : Int} {A : Bool} {n : Nat} {ln : Nat → Nat} {F : Nat → Nat → Nat} (hv : Vld W H D A n ln F) (hw : whl W H X Y rw rh = true) : Vld rw rh D A n (pz rw rh) (cutF F W X Y rw) := by
  have h := whl_d hw
  have s := hv.shp
  refine ⟨⟨⟨h.1.1, by have := s.1; omega⟩, ⟨h.1.2.1, by have := s.2.1; omega⟩, s.2.2.1, Int.le_trans (tot_mono A h.1.1 h.1.2.1 (by omega) (by omega)) s.2.2.2⟩, hv.num, fun i _ => pz_len h.1.1 h.1.2.1 (by have := s.1; omega) (by have := s.2.1; omega) i, fun i hi j hj => ?_⟩
  have b := belongs_in (i : Int) s.1.1 h.1 h.2.1
  have hl := hv.len i hi
  have wl := wp_lo (i : Int) s.1.1
  refine hv.top i hi _ ?_
  have hj2 : j < (bW (i : Int) rw).toNat * rh.toNat := by
    have e : pz rw rh i = (bW (i : Int) rw).toNat * rh.toNat := by
      show (bW (i : Int) rw * rh).toNat = _
      rw [Int.toNat_mul (by omega) (by omega)]
    omega
  have hh := crp_lt (wd := (wp W (i : Int)).toNat) (ht := H.toNat) (X := (bX (i : Int) X).toNat) (Y := Y.toNat) (by omega) (by omega) (by omega) hj2
  have e2 : ln i = (wp W (i : Int)).toNat * H.toNat := by
    have : (ln i : Int).toNat = (wp W (i : Int) * H).toNat := by rw [hl]
    rw [Int.toNat_mul (by omega) (by have := s.2.1; omega)] at this
    omega
  rw [e2]
  exact hh
/-- Cut of cut. -/
theorem cut_cut {W H X Y rw rh X' Y' r2 h2 : Int} (F : Nat → Nat → Nat) (hw : whl W H X Y rw rh = true) (hq : whl rw rh X' Y' r2 h2 = true) (i j : Nat) : cutF (cutF F W X Y rw) rw X' Y' r2 i j = cutF F W (X + X') (Y + Y') r2 i j := by
  have a := whl_d hw
  have b := whl_d hq
  have c := belongs_in (i : Int) (show 1 ≤ rw by omega) b.1 b.2.1
  have e1 : bX (i : Int) (X + X') = bX (i : Int) X + bX (i : Int) X' := by
    unfold bX
    split <;> omega
  have p1 : 0 ≤ bX (i : Int) X := by unfold bX; split <;> omega
  show crp (crp (F i) (wp W (i : Int)).toNat (bX (i : Int) X).toNat Y.toNat (bW (i : Int) rw).toNat) (wp rw (i : Int)).toNat (bX (i : Int) X').toNat Y'.toNat (bW (i : Int) r2).toNat j = crp (F i) (wp W (i : Int)).toNat (bX (i : Int) (X + X')).toNat (Y + Y').toNat (bW (i : Int) r2).toNat j
  rw [show (wp rw (i : Int)) = bW (i : Int) rw from rfl] at c ⊢
  rw [crp_crp _ (by omega) (by omega), e1, Int.toNat_add p1 c.1, Int.toNat_add (by omega) (by omega)]
theorem cut_whl {W H X Y rw rh X' Y' r2 h2 : Int} (hw : whl W H X Y rw rh = true) (hq : whl rw rh X' Y' r2 h2 = true) : whl W H (X + X') (Y + Y') r2 h2 = true := by
  have a := whl_d hw
  have b := whl_d hq
  exact decide_eq_true ⟨⟨b.1.1, b.1.2.1, by omega, by omega, by omega, by omega⟩, by omega, by omega⟩

theorem vld_len {W H D : Int} {A : Bool} {n : Nat} {ln : Nat → Nat} {F : Nat → Nat → Nat} (hv : Vld W H D A n ln F) : ∀ i, i < n → ln i ≤ 9223372036854775807 := fun i hi => by
  have h1 := hv.len i hi
  have h2 := wpH (i : Int) hv.shp.1.1 hv.shp.1.2 hv.shp.2.1.1 hv.shp.2.1.2
  omega
theorem vld_num {W H D : Int} {A : Bool} {n : Nat} {ln : Nat → Nat} {F : Nat → Nat → Nat} (hv : Vld W H D A n ln F) : n ≤ 9223372036854775807 := by
  rw [hv.num]
  exact Nat.le_trans (np_hi A) (by decide)
theorem valid_yes {W H D : Int} {A : Bool} {po : Option Addr} {n c : Nat} {ln : Nat → Nat} {F : Nat → Nat → Nat} {w : World} (hr : Pl w po n ln F) (hv : Vld W H D A n ln F) :
    Calls Try.prog 26 #[frv W H D A po n c] w fun e w' => e = .returned (.int .i64 0) ∧ Kept [] w w' := by
  have h := valid_any W H D A po n c ln F w hr (vld_num hv) (vld_len hv)
  rwa [vE_zero.2 hv] at h
theorem same_yes {W H D : Int} {A : Bool} {po qo : Option Addr} {n c d : Nat} {ln : Nat → Nat} {F G : Nat → Nat → Nat} {w : World} (hr : Pl w po n ln F) (hs : Pl w qo n ln G) (hv : Vld W H D A n ln F) (h : ∀ i, i < n → ∀ j, j < ln i → F i j = G i j) :
    Calls Try.prog 19 #[frv W H D A po n c, frv W H D A qo n d] w fun e w' => e = .returned (.bool true) ∧ Kept [] w w' := by
  have e := same_any W H D A po qo n c n d ln ln F G w hr hs rfl (vld_num hv) (vld_len hv) (vld_len hv)
  rwa [alF_yes (fun i hi => eqL_yes (h i hi))] at e

/-- A place as a value. -/
abbrev atv (a b c : Int) : Value := .agg #[.int .i64 a, .int .i64 b, .int .i64 c]
/-- Three cells. -/
theorem tri {w : World} {B t : Nat} {a b c : Value} (h : w.heap[B]? = some (.cells #[a, b, c] t (0, 0))) :
    w.cell? ⟨B, 0, none⟩ = some a ∧ w.cell? ⟨B, 1, none⟩ = some b ∧ w.cell? ⟨B, 2, none⟩ = some c := by
  refine ⟨?_, ?_, ?_⟩
  all_goals (rw [cell_of_row _ _ _ _ _ _ h]; rfl)
/-- Blocks of a frame and two places. -/
theorem ent533 (w : World) (a0 a1 a2 a3 a4 b0 b1 b2 c0 c1 c2 : Value) (t t' t2 : Nat) :
    (((w.alloc (.cells #[a0, a1, a2, a3, a4] t (0, 0))).alloc (.cells #[b0, b1, b2] t' (0, 0))).alloc (.cells #[c0, c1, c2] t2 (0, 0))).heap[w.heap.size]? = some (.cells #[a0, a1, a2, a3, a4] t (0, 0)) ∧
    (((w.alloc (.cells #[a0, a1, a2, a3, a4] t (0, 0))).alloc (.cells #[b0, b1, b2] t' (0, 0))).alloc (.cells #[c0, c1, c2] t2 (0, 0))).heap[w.heap.size + 1]? = some (.cells #[b0, b1, b2] t' (0, 0)) ∧
    (((w.alloc (.cells #[a0, a1, a2, a3, a4] t (0, 0))).alloc (.cells #[b0, b1, b2] t' (0, 0))).alloc (.cells #[c0, c1, c2] t2 (0, 0))).heap[w.heap.size + 1 + 1]? = some (.cells #[c0, c1, c2] t2 (0, 0)) ∧
    Kept [] w (((w.alloc (.cells #[a0, a1, a2, a3, a4] t (0, 0))).alloc (.cells #[b0, b1, b2] t' (0, 0))).alloc (.cells #[c0, c1, c2] t2 (0, 0))) := by
  refine ⟨((alloc_kept _ _).trans (alloc_kept _ _)).heap (heap_alloc_new w _) (by simp), (alloc_kept _ _).heap ?_ (by simp), ?_, ((alloc_kept _ _).trans (alloc_kept _ _)).trans (alloc_kept _ _)⟩
  · have := heap_alloc_new (w.alloc (.cells #[a0, a1, a2, a3, a4] t (0, 0))) (.cells #[b0, b1, b2] t' (0, 0))
    rwa [World.size_alloc] at this
  · have := heap_alloc_new ((w.alloc (.cells #[a0, a1, a2, a3, a4] t (0, 0))).alloc (.cells #[b0, b1, b2] t' (0, 0))) (.cells #[c0, c1, c2] t2 (0, 0))
    rwa [World.size_alloc, World.size_alloc] at this

set_option maxHeartbeats 16000000 in
set_option maxRecDepth 1000000 in
theorem twice_any (W H D : Int) (A : Bool) (po : Option Addr) (n c : Nat) (ln : Nat → Nat) (F : Nat → Nat → Nat) (u1 x1 y1 u2 x2 y2 : Int) (w : World) (hr : Pc w po n ln F) (hn : n ≤ 9223372036854775807) (hln : ∀ i, i < n → ln i ≤ 9223372036854775807) (hF : ∀ i, i < n → ∀ j, j < ln i → F i j < 65536)
    (hx1 : -9223372036854775808 ≤ x1 ∧ x1 ≤ 9223372036854775807) (hy1 : -9223372036854775808 ≤ y1 ∧ y1 ≤ 9223372036854775807) (hx2 : -9223372036854775808 ≤ x2 ∧ x2 ≤ 9223372036854775807) (hy2 : -9223372036854775808 ≤ y2 ∧ y2 ≤ 9223372036854775807) :
    Calls Try.prog 6 #[frv W H D A po n c, atv u1 x1 y1, atv u2 x2 y2] w fun e w' => e = .returned (.bool true) ∧ Kept [] w w' := by
  have C1 := Hid.mk shown_any
  have CV := Hid.mk (fun u (hk : Kept [] w u) => rvalid_any W H D A po n c ln F u (hr.keep hk).pl hn hln hF)
  have N := ent533 w (.int .i64 W) (.int .i64 H) (.int .i64 D) (.bool A) (.slice po n c) (.int .i64 u1) (.int .i64 x1) (.int .i64 y1) (.int .i64 u2) (.int .i64 x2) (.int .i64 y2) 26 36 36
  obtain ⟨w1, ew1⟩ : ∃ w1, w1 = ((w.alloc (.cells #[.int .i64 W, .int .i64 H, .int .i64 D, .bool A, .slice po n c] 26 (0, 0))).alloc (.cells #[.int .i64 u1, .int .i64 x1, .int .i64 y1] 36 (0, 0))).alloc (.cells #[.int .i64 u2, .int .i64 x2, .int .i64 y2] 36 (0, 0)) := ⟨_, rfl⟩
  rw [← ew1] at N
  have HN := Hid.mk N
  have EW := Hid.mk ew1
  clear N ew1
  by_cases hz : vE W H D A n ln F = 0
  · have hv := vE_zero.1 hz
    rw [hz] at CV
    have hs := hv.shp
    have CW := Hid.mk (fun u => lwhole_any W H D x1 y1 A u hs.1 hs.2.1 hx1 hy1)
    have Hr := Hid.mk hr
    have Hv := Hid.mk hv
    clear hr hln hF hz hv hs
    go_enter Try.func6, Try.ntmps6
    go_upto_region 10 with (first | (go_at_call 25; refine (cut_any rw rh D X2 Y2 rw2 rh2 A (some ⟨ga, 0, none⟩) n n (pz rw rh) (cutF F W X Y rw) _ (hMa.keep (((alloc_kept w5 _).trans hk6).trans (alloc_kept w6 _))).pc VA.out hwq).mono ?_; rintro e w7 ⟨gb, bsb, rfl, hMb⟩; have MB := Hid.mk hMb; have VB := Hid.mk (cut_vld VA.out hwq); have K7 := Hid.mk ((K6.out.alloc _).trans hMb.kept); obtain ⟨⟨j0, j1, j2, j3, j4⟩, _⟩ := five (((K6a.out).trans ((alloc_kept w6 _).trans hMb.kept)).heap HN.out.1 (by simp)); obtain ⟨⟨q0, q1, q2, q3⟩, _⟩ := four (hMb.kept.heap (heap_alloc_new w6 _) (by simp)); obtain ⟨⟨p0, p1, p2, p3⟩, _⟩ := four (((hk6b.out).trans ((alloc_kept w6 _).trans hMb.kept)).heap (heap_alloc_new w4 _) (by simp)); have l70 := World.block_lt_of_cell? _ _ j0; have l71 := World.block_lt_of_cell? _ _ q0; have l72 := World.block_lt_of_cell? _ _ p0) | (go_at_call 24; refine (lwhole_any rw rh D x2 y2 A _ hb1 hb2 hx2 hy2).mono ?_; rintro e w6 ⟨X2, Y2, rw2, rh2, rfl, hwq, hk6⟩; have K6a := Hid.mk (((((((hk2.trans hk3).trans hk4)).alloc _).trans hMa.kept).alloc _).trans hk6); have K6 := Hid.mk (HN.out.2.2.2.trans K6a.out); have hk6b := Hid.mk ((hMa.kept.alloc _).trans hk6); obtain ⟨⟨i0, i1, i2, i3, i4⟩, _⟩ := five (hk6.heap (heap_alloc_new w5 _) (by simp)); have l60 := World.block_lt_of_cell? _ _ i0) | (go_at_call 25; refine (cut_any W H D X Y rw rh A po n c ln F _ (Hr.out.keep ((HN.out.2.2.2.trans ((hk2.trans hk3).trans hk4)).alloc _)) Hv.out hwh).mono ?_; rintro e w5 ⟨ga, bsa, rfl, hMa⟩; have VA := Hid.mk (cut_vld Hv.out hwh); obtain ⟨⟨h0, h1, h2, h3⟩, _⟩ := four (hMa.kept.heap (heap_alloc_new w4 _) (by simp)); obtain ⟨t0, t1, t2⟩ := tri ((((((hk2.trans hk3).trans hk4)).alloc _).trans hMa.kept).heap HN.out.2.2.1 (by simp)); have l50 := World.block_lt_of_cell? _ _ h0; have l51 := World.block_lt_of_cell? _ _ t0) | (go_at_call 24; refine (CW.out _).mono ?_; rintro e w4 ⟨X, Y, rw, rh, rfl, hwh, hk4⟩; obtain ⟨⟨f0, f1, f2, f3, f4⟩, _⟩ := five (((hk2.trans hk3).trans hk4).heap HN.out.1 (by simp)); have l40 := World.block_lt_of_cell? _ _ f0; have hb1 : 1 ≤ rw ∧ rw ≤ 4096 := by { have := whl_d hwh; have := Hv.out.shp.1; omega }; have hb2 : 1 ≤ rh ∧ rh ≤ 4096 := by { have := whl_d hwh; have := Hv.out.shp.2.1; omega }) | (go_at_call 8; rw [← EW.out]; refine (C1.out _).mono ?_; rintro e w2 ⟨rfl, hk2⟩; obtain ⟨⟨c0, c1, c2, c3, c4⟩, _⟩ := five (hk2.heap HN.out.1 (by simp))) | (go_at_call 13; refine (CV.out _ (HN.out.2.2.2.trans hk2)).mono ?_; rintro e w3 ⟨rfl, hk3⟩; obtain ⟨⟨d0, d1, d2, d3, d4⟩, _⟩ := five ((hk2.trans hk3).heap HN.out.1 (by simp)); obtain ⟨o0, o1, o2⟩ := tri ((hk2.trans hk3).heap HN.out.2.1 (by simp))))
    have w1d := whl_d hwh
    have w2d := whl_d hwq
    have hs1 := Hv.out.shp.1
    have hs2 := Hv.out.shp.2.1
    have e1 : 0 ≤ X ∧ X ≤ 4096 := by omega
    have e2 : 0 ≤ Y ∧ Y ≤ 4096 := by omega
    have e3 : 0 ≤ X2 ∧ X2 ≤ 4096 := by omega
    have e4 : 0 ≤ Y2 ∧ Y2 ≤ 4096 := by omega
    clear w1d w2d hs1 hs2
    go_wp2_with (fail)
    refine (cut_any W H D (X + X2) (Y + Y2) rw2 rh2 A po n c ln F _ (Hr.out.keep ((K7.out).alloc _)) Hv.out (cut_whl hwh hwq)).mono ?_
    rintro e w8 ⟨gc, bsc, rfl, hMc⟩
    obtain ⟨⟨b0, b1, b2, b3, b4⟩, _⟩ := five (hMc.kept.heap (heap_alloc_new w7 _) (by simp))
    have l80 := World.block_lt_of_cell? _ _ b0
    have K8 := Hid.mk ((K7.out.alloc _).trans hMc.kept)
    have KB8 := Hid.mk (((alloc_kept w7 (.cells #[.int .i64 rw2, .int .i64 rh2, .int .i64 D, .bool A, .slice (some ⟨gb, 0, none⟩) n n] 26 (0, 0))).trans hMc.kept))
    go_wp2_with (fail)
    refine (same_yes (MB.out.keep (KB8.out.trans (alloc_kept w8 _))).pl (hMc.keep (alloc_kept _ _)).pl VB.out (fun i _ j _ => cut_cut F hwh hwq i j)).mono ?_
    rintro e w9 ⟨rfl, hk9⟩
    obtain ⟨⟨a0, a1, a2, a3, a4⟩, _⟩ := five ((((hMc.kept).trans (alloc_kept _ _)).trans hk9).heap (heap_alloc_new w7 _) (by simp))
    go_wp2_with (fail)
    refine (valid_yes (MB.out.keep ((KB8.out.trans (alloc_kept w8 _)).trans hk9)).pl VB.out).mono ?_
    rintro e w10 ⟨rfl, hk10⟩
    go_wp2
    go_ret
    exact ⟨rfl, ((K8.out.alloc _).trans hk9).trans hk10⟩
  · have hne : (vE W H D A n ln F != 0) = true := by simpa using hz
    obtain ⟨x, ex⟩ : ∃ x, x = vE W H D A n ln F := ⟨_, rfl⟩
    rw [← ex] at CV hne
    clear hz ex hr hln hF
    go_enter Try.func6, Try.ntmps6
    go_wp2_with (first | (go_at_call 8; rw [← EW.out]; refine (C1.out _).mono ?_; rintro e w2 ⟨rfl, hk2⟩; obtain ⟨⟨c0, c1, c2, c3, c4⟩, _⟩ := five (hk2.heap HN.out.1 (by simp))) | (go_at_call 13; refine (CV.out _ (HN.out.2.2.2.trans hk2)).mono ?_; rintro e w3 ⟨rfl, hk3⟩))
    go_ret
    exact ⟨rfl, (HN.out.2.2.2.trans hk2).trans hk3⟩
end Go.Proofs.Ythihennifigchab
