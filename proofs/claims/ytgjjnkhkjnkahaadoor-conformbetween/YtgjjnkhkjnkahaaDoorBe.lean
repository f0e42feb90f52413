import Derived.Test.YtgjjnkhkjnkahaaDoorBd
namespace Go.Proofs.YtgjjnkhkjnkahaaDoor
open Go.RowKit

set_option maxHeartbeats 16000000 in
set_option maxRecDepth 1000000 in
theorem between_yes (W H D : Int) (A : Bool) (po : Option Addr) (n c : Nat) (ln : Nat → Nat) (F : Nat → Nat → Nat) (po2 : Option Addr) (c2 : Nat) (ln2 : Nat → Nat) (G : Nat → Nat → Nat) (p0 o0 : Int) (w : World) (hT : Tc.Tb w)
    (hr : Pl w po n ln F) (hr2 : Pl w po2 n ln2 G) (hv : Vld W H D A n ln F) (hv2 : Vld W H D A n ln2 G) (hp0 : -9223372036854775808 ≤ p0 ∧ p0 ≤ 9223372036854775807) (ho0 : -9223372036854775808 ≤ o0 ∧ o0 ≤ 9223372036854775807) :
    Calls Tryd.prog 4 #[frv W H D A po n c, frv W H D A po2 n c2, .int .i64 p0, .int .i64 o0] w fun e w' => e = .returned (.bool true) ∧ Kept [] w w' := by
  obtain ⟨w1, e1⟩ : ∃ w1, w.alloc (.cells #[.int .i64 W, .int .i64 H, .int .i64 D, .bool A, .slice po n c] 29 (0, 0)) = w1 := ⟨_, rfl⟩
  obtain ⟨w2, e2⟩ : ∃ w2, w1.alloc (.cells #[.int .i64 W, .int .i64 H, .int .i64 D, .bool A, .slice po2 n c2] 29 (0, 0)) = w2 := ⟨_, rfl⟩
  have k1 : Kept [] w w1 := by rw [← e1]; exact alloc_kept _ _
  have k2 : Kept [] w1 w2 := by rw [← e2]; exact alloc_kept _ _
  have b1 : w1.heap[w.heap.size]? = some (.cells #[.int .i64 W, .int .i64 H, .int .i64 D, .bool A, .slice po n c] 29 (0, 0)) := by rw [← e1]; exact heap_alloc_new _ _
  have b2 : w2.heap[w1.heap.size]? = some (.cells #[.int .i64 W, .int .i64 H, .int .i64 D, .bool A, .slice po2 n c2] 29 (0, 0)) := by rw [← e2]; exact heap_alloc_new _ _
  rw [show w1.heap.size = w.heap.size + 1 by rw [← e1, World.size_alloc]] at b2
  have K2 := Hid.mk (k1.trans k2)
  have HB := Hid.mk (And.intro (k2.heap b1 (by simp)) b2)
  have E1 := Hid.mk e1
  have E2 := Hid.mk e2
  have CA := Hid.mk (awake_any w2 (hT.keep (k1.trans k2)))
  obtain ⟨o, eo⟩ : ∃ o : Nat, 1 + plc o0 101 = (o : Int) := ⟨(1 + plc o0 101).toNat, by have := plc_lo o0 (n := 101) (by omega); omega⟩
  have ho : 1 ≤ o ∧ o ≤ 101 := by have := plc_lo o0 (n := 101) (by omega); have := plc_hi o0 (n := 101) (by omega); omega
  obtain ⟨p, ep⟩ : ∃ p : Nat, plc p0 (o : Int) = (p : Int) := ⟨(plc p0 (o : Int)).toNat, by have := plc_lo p0 (n := (o : Int)) (by omega); omega⟩
  have hp : p < o := by have := plc_hi p0 (n := (o : Int)) (by omega); omega
  obtain ⟨q, eq⟩ : ∃ q, plc o0 101 = q := ⟨_, rfl⟩
  have CO := Hid.mk (fun u => pick_any o0 101 u ho0 (by omega) (by omega))
  have CQ := Hid.mk (fun u => pick_any p0 (o : Int) u hp0 (by omega) (by omega))
  have hq := And.intro (plc_lo o0 (n := 101) (by omega)) (plc_hi o0 (n := 101) (by omega))
  rw [eq] at CO eo hq
  obtain ⟨hq0, hq1⟩ := hq
  rw [ep] at CQ
  have wo : wrap64 (1 + q) = (o : Int) := by rw [eo]; exact w64_in (by omega) (by omega)
  have wp1 : wrap64 ((p : Int) + 1) = ((p + 1 : Nat) : Int) := by rw [show (p : Int) + 1 = ((p + 1 : Nat) : Int) by omega]; exact w64_in (by omega) (by omega)
  have HO := Hid.mk (And.intro ho hp)
  have CM1 : Hid (∀ u (z : Nat), Kept [] w u → z ≤ o → Calls Tryd.prog 7 #[frv W H D A po n c, frv W H D A po2 n c2, .int .i64 (z : Int), .int .i64 (o : Int)] u fun e w' => ∃ g bs, e = .returned (.tuple #[frv W H D A (some ⟨g, 0, none⟩) n n, .int .i64 0]) ∧ Mk u w' g n n bs (pz W H) (mxF F G z o)) := Hid.mk (fun u z hu hz => mix_yes W H D A po n c ln F po2 c2 ln2 G z o u (hr.keep hu) hv (hr2.keep hu) hv2 hz (by omega) (by omega))
  have CM2 : Hid (∀ u (z : Nat), Kept [] w u → z ≤ o → Calls Tryd.prog 7 #[frv W H D A po n c, frv W H D A po n c, .int .i64 (z : Int), .int .i64 (o : Int)] u fun e w' => ∃ g bs, e = .returned (.tuple #[frv W H D A (some ⟨g, 0, none⟩) n n, .int .i64 0]) ∧ Mk u w' g n n bs (pz W H) (mxF F F z o)) := Hid.mk (fun u z hu hz => mix_yes W H D A po n c ln F po c ln F z o u (hr.keep hu) hv (hr.keep hu) hv hz (by omega) (by omega))
  have Hr := Hid.mk (And.intro hr (And.intro hr2 (And.intro hv hv2)))
  have hn4 := hv.n4
  clear hT k1 k2 b1 b2 e1 e2 eq ep ho hp hr hr2 hv hv2 hp0 ho0
  go_enter Tryd.func4, Tryd.ntmps4
  go_upto_region 1 with (fail)
  rw [E1.out, E2.out]
  obtain ⟨b, eb⟩ : ∃ b, w.heap.size = b := ⟨_, rfl⟩
  simp only [eb] at HB ⊢
  have EB := Hid.mk eb
  clear eb
  go_wp2_with (fail)
  refine CA.out.mono ?_
  rintro e w3 ⟨rfl, k3⟩
  have K3 := Hid.mk (K2.out.trans k3)
  obtain ⟨⟨x0, x1, x2, x3, x4⟩, _⟩ := five (k3.heap HB.out.1 (by simp))
  obtain ⟨⟨y0, y1, y2, y3, y4⟩, _⟩ := five (k3.heap HB.out.2 (by simp))
  have HB3 := Hid.mk (And.intro (k3.heap HB.out.1 (by simp)) (k3.heap HB.out.2 (by simp)))
  clear k3 CA
  go_wp2_with (fail)
  refine (CO.out _).mono ?_
  rintro e w3' ⟨rfl, hw⟩
  obtain rfl := hw.symm
  go_wp2_with (fail)
  try rw [wo]
  clear wo hq0 hq1 eo
  refine (CQ.out _).mono ?_
  rintro e w3' ⟨rfl, hw⟩
  obtain rfl := hw.symm
  clear CO CQ
  go_wp2_with (fail)
  refine (CM1.out _ p K3.out (by have := HO.out; omega)).mono ?_
  rintro e u1 ⟨g1, bs1, rfl, hM⟩
  obtain ⟨v1, ev⟩ : ∃ v, u1.alloc (.cells #[.int .i64 W, .int .i64 H, .int .i64 D, .bool A, .slice (some ⟨g1, 0, none⟩) n n] 29 (0, 0)) = v := ⟨_, rfl⟩
  have kv : Kept [] u1 v1 := by rw [← ev]; exact alloc_kept _ _
  have bv : v1.heap[u1.heap.size]? = some (.cells #[.int .i64 W, .int .i64 H, .int .i64 D, .bool A, .slice (some ⟨g1, 0, none⟩) n n] 29 (0, 0)) := by rw [← ev]; exact heap_alloc_new _ _
  obtain ⟨X1, eX1⟩ : ∃ X, u1.heap.size = X := ⟨_, rfl⟩
  have EX := Hid.mk eX1
  rw [eX1] at bv
  have KK := Hid.mk (hM.kept.trans kv)
  have M1 := Hid.mk (hM.keep kv)
  have KW1 := Hid.mk (K3.out.trans KK.out)
  have HX1 := Hid.mk bv
  have EV := Hid.mk ev
  clear hM kv bv ev eX1
  have HB4 := Hid.mk (And.intro (KK.out.heap HB3.out.1 (by simp)) (KK.out.heap HB3.out.2 (by simp)))
  clear x0 x1 x2 x3 x4 y0 y1 y2 y3 y4
  obtain ⟨⟨x0, x1, x2, x3, x4⟩, _⟩ := five HB4.out.1
  obtain ⟨⟨y0, y1, y2, y3, y4⟩, _⟩ := five HB4.out.2
  go_upto_region 5 with (fail)
  rw [EV.out, EX.out]
  clear EV EX KK
  go_wp2_with (fail)
  refine (CM1.out _ (p + 1) KW1.out (by have := HO.out; omega)).mono ?_
  rintro e u2 ⟨g2, bs2, rfl, hM⟩
  obtain ⟨v2, ev⟩ : ∃ v, u2.alloc (.cells #[.int .i64 W, .int .i64 H, .int .i64 D, .bool A, .slice (some ⟨g2, 0, none⟩) n n] 29 (0, 0)) = v := ⟨_, rfl⟩
  have kv : Kept [] u2 v2 := by rw [← ev]; exact alloc_kept _ _
  have bv : v2.heap[u2.heap.size]? = some (.cells #[.int .i64 W, .int .i64 H, .int .i64 D, .bool A, .slice (some ⟨g2, 0, none⟩) n n] 29 (0, 0)) := by rw [← ev]; exact heap_alloc_new _ _
  obtain ⟨X2, eX2⟩ : ∃ X, u2.heap.size = X := ⟨_, rfl⟩
  have EX := Hid.mk eX2
  rw [eX2] at bv
  have KK := Hid.mk (hM.kept.trans kv)
  have M2 := Hid.mk (hM.keep kv)
  have KW2 := Hid.mk (KW1.out.trans KK.out)
  have HX2 := Hid.mk bv
  have EV := Hid.mk ev
  clear hM kv bv ev eX2
  have HX1' := Hid.mk (KK.out.heap HX1.out (by simp))
  have M1' := Hid.mk (M1.out.keep KK.out)
  have HB5 := Hid.mk (And.intro (KK.out.heap HB4.out.1 (by simp)) (KK.out.heap HB4.out.2 (by simp)))
  clear x0 x1 x2 x3 x4 y0 y1 y2 y3 y4
  obtain ⟨⟨x0, x1, x2, x3, x4⟩, _⟩ := five HB5.out.1
  obtain ⟨⟨y0, y1, y2, y3, y4⟩, _⟩ := five HB5.out.2
  go_upto_region 6 with (fail)
  rw [EV.out, EX.out]
  clear EV EX KK
  go_wp2_with (fail)
  refine (CM1.out _ 0 KW2.out (by omega)).mono ?_
  rintro e u3 ⟨g3, bs3, rfl, hM⟩
  obtain ⟨v3, ev⟩ : ∃ v, u3.alloc (.cells #[.int .i64 W, .int .i64 H, .int .i64 D, .bool A, .slice (some ⟨g3, 0, none⟩) n n] 29 (0, 0)) = v := ⟨_, rfl⟩
  have kv : Kept [] u3 v3 := by rw [← ev]; exact alloc_kept _ _
  have bv : v3.heap[u3.heap.size]? = some (.cells #[.int .i64 W, .int .i64 H, .int .i64 D, .bool A, .slice (some ⟨g3, 0, none⟩) n n] 29 (0, 0)) := by rw [← ev]; exact heap_alloc_new _ _
  obtain ⟨X3, eX3⟩ : ∃ X, u3.heap.size = X := ⟨_, rfl⟩
  have EX := Hid.mk eX3
  rw [eX3] at bv
  have KK := Hid.mk (hM.kept.trans kv)
  have M3 := Hid.mk (hM.keep kv)
  have KW3 := Hid.mk (KW2.out.trans KK.out)
  have HX3 := Hid.mk bv
  have EV := Hid.mk ev
  clear hM kv bv ev eX3
  have HX1 := Hid.mk (KK.out.heap HX1'.out (by simp))
  have M1 := Hid.mk (M1'.out.keep KK.out)
  have HX2' := Hid.mk (KK.out.heap HX2.out (by simp))
  have M2' := Hid.mk (M2.out.keep KK.out)
  have HB6 := Hid.mk (And.intro (KK.out.heap HB5.out.1 (by simp)) (KK.out.heap HB5.out.2 (by simp)))
  clear x0 x1 x2 x3 x4 y0 y1 y2 y3 y4
  obtain ⟨⟨x0, x1, x2, x3, x4⟩, _⟩ := five HB6.out.1
  obtain ⟨⟨y0, y1, y2, y3, y4⟩, _⟩ := five HB6.out.2
  go_upto_region 11 with (fail)
  rw [EV.out, EX.out]
  clear EV EX KK
  go_wp2_with (fail)
  refine (CM1.out _ o KW3.out (by omega)).mono ?_
  rintro e u4 ⟨g4, bs4, rfl, hM⟩
  obtain ⟨v4, ev⟩ : ∃ v, u4.alloc (.cells #[.int .i64 W, .int .i64 H, .int .i64 D, .bool A, .slice (some ⟨g4, 0, none⟩) n n] 29 (0, 0)) = v := ⟨_, rfl⟩
  have kv : Kept [] u4 v4 := by rw [← ev]; exact alloc_kept _ _
  have bv : v4.heap[u4.heap.size]? = some (.cells #[.int .i64 W, .int .i64 H, .int .i64 D, .bool A, .slice (some ⟨g4, 0, none⟩) n n] 29 (0, 0)) := by rw [← ev]; exact heap_alloc_new _ _
  obtain ⟨X4, eX4⟩ : ∃ X, u4.heap.size = X := ⟨_, rfl⟩
  have EX := Hid.mk eX4
  rw [eX4] at bv
  have KK := Hid.mk (hM.kept.trans kv)
  have M4 := Hid.mk (hM.keep kv)
  have KW4 := Hid.mk (KW3.out.trans KK.out)
  have HX4 := Hid.mk bv
  have EV := Hid.mk ev
  clear hM kv bv ev eX4
  have HX1' := Hid.mk (KK.out.heap HX1.out (by simp))
  have M1' := Hid.mk (M1.out.keep KK.out)
  have HX2 := Hid.mk (KK.out.heap HX2'.out (by simp))
  have M2 := Hid.mk (M2'.out.keep KK.out)
  have HX3' := Hid.mk (KK.out.heap HX3.out (by simp))
  have M3' := Hid.mk (M3.out.keep KK.out)
  have HB7 := Hid.mk (And.intro (KK.out.heap HB6.out.1 (by simp)) (KK.out.heap HB6.out.2 (by simp)))
  clear x0 x1 x2 x3 x4 y0 y1 y2 y3 y4
  obtain ⟨⟨x0, x1, x2, x3, x4⟩, _⟩ := five HB7.out.1
  go_upto_region 12 with (fail)
  rw [EV.out, EX.out]
  clear EV EX KK
  go_wp2_with (fail)
  refine (CM2.out _ p KW4.out (by have := HO.out; omega)).mono ?_
  rintro e u5 ⟨g5, bs5, rfl, hM⟩
  obtain ⟨v5, ev⟩ : ∃ v, u5.alloc (.cells #[.int .i64 W, .int .i64 H, .int .i64 D, .bool A, .slice (some ⟨g5, 0, none⟩) n n] 29 (0, 0)) = v := ⟨_, rfl⟩
  have kv : Kept [] u5 v5 := by rw [← ev]; exact alloc_kept _ _
  have bv : v5.heap[u5.heap.size]? = some (.cells #[.int .i64 W, .int .i64 H, .int .i64 D, .bool A, .slice (some ⟨g5, 0, none⟩) n n] 29 (0, 0)) := by rw [← ev]; exact heap_alloc_new _ _
  obtain ⟨X5, eX5⟩ : ∃ X, u5.heap.size = X := ⟨_, rfl⟩
  have EX := Hid.mk eX5
  rw [eX5] at bv
  have KK := Hid.mk (hM.kept.trans kv)
  have M5 := Hid.mk (hM.keep kv)
  have KW5 := Hid.mk (KW4.out.trans KK.out)
  have HX5 := Hid.mk bv
  have EV := Hid.mk ev
  clear hM kv bv ev eX5
  have HX1 := Hid.mk (KK.out.heap HX1'.out (by simp))
  have M1 := Hid.mk (M1'.out.keep KK.out)
  have HX2' := Hid.mk (KK.out.heap HX2.out (by simp))
  have M2' := Hid.mk (M2.out.keep KK.out)
  have HX3 := Hid.mk (KK.out.heap HX3'.out (by simp))
  have M3 := Hid.mk (M3'.out.keep KK.out)
  have HX4' := Hid.mk (KK.out.heap HX4.out (by simp))
  have M4' := Hid.mk (M4.out.keep KK.out)
  have HB8 := Hid.mk (And.intro (KK.out.heap HB7.out.1 (by simp)) (KK.out.heap HB7.out.2 (by simp)))
  clear x0 x1 x2 x3 x4
  obtain ⟨⟨x0, x1, x2, x3, x4⟩, _⟩ := five HB8.out.1
  obtain ⟨⟨c0, c1, c2', c3, c4⟩, _⟩ := five HX3.out
  go_upto_region 13 with (fail)
  rw [EV.out, EX.out]
  clear EV EX KK
  go_wp2_with (fail)
  have HL : Hid (∀ i, i < n → ln i = pz W H i ∧ ln2 i = pz W H i ∧ pz W H i ≤ 16777216) := Hid.mk (fun i hi => ⟨(Hr.out.2.2.1.sz hi).1, (Hr.out.2.2.2.sz hi).1, (Hr.out.2.2.1.sz hi).2.2⟩)
  have PA : Hid (∀ u, Kept [] w u → Pl u po n (pz W H) F) := Hid.mk (fun u hu => (Hr.out.1.keep hu).lens (fun i hi => (HL.out i hi).1))
  have PB : Hid (∀ u, Kept [] w u → Pl u po2 n (pz W H) G) := Hid.mk (fun u hu => (Hr.out.2.1.keep hu).lens (fun i hi => (HL.out i hi).2.1))
  refine (same_yes W H D A _ po n n c (pz W H) _ F _ M3.out.pl (PA.out _ KW5.out) (fun i _ j _ => mxv_zero _ _ HO.out.1.1) (by omega) (fun i hi => by have := HL.out i hi; omega)).mono ?_
  rintro e w6 ⟨rfl, k6⟩
  have K6 := Hid.mk k6
  clear x0 x1 x2 x3 x4 c0 c1 c2' c3 c4
  obtain ⟨⟨y0, y1, y2, y3, y4⟩, _⟩ := five (k6.heap HB8.out.2 (by simp))
  obtain ⟨⟨c0, c1, c2', c3, c4⟩, _⟩ := five (k6.heap HX4'.out (by simp))
  clear k6
  go_wp2_with (fail)
  refine (same_yes W H D A _ po2 n n c2 (pz W H) _ G _ (M4'.out.keep K6.out).pl (PB.out _ (KW5.out.trans K6.out)) (fun i _ j _ => mxv_all _ _ HO.out.1.1) (by omega) (fun i hi => by have := HL.out i hi; omega)).mono ?_
  rintro e w7 ⟨rfl, k7⟩
  have K7 := Hid.mk (K6.out.trans k7)
  clear y0 y1 y2 y3 y4 c0 c1 c2' c3 c4 k7
  obtain ⟨⟨x0, x1, x2, x3, x4⟩, _⟩ := five (K7.out.heap HB8.out.1 (by simp))
  obtain ⟨⟨c0, c1, c2', c3, c4⟩, _⟩ := five (K7.out.heap HX5.out (by simp))
  go_wp2_with (fail)
  refine (same_yes W H D A _ po n n c (pz W H) _ F _ (M5.out.keep K7.out).pl (PA.out _ (KW5.out.trans K7.out)) (fun i _ j _ => mxv_self _ (by have := HO.out; omega) HO.out.1.1) (by omega) (fun i hi => by have := HL.out i hi; omega)).mono ?_
  rintro e w8 ⟨rfl, k8⟩
  have K8 := Hid.mk (K7.out.trans k8)
  have KA := Hid.mk (KW5.out.trans K8.out)
  have N1 := Hid.mk (M1.out.keep K8.out)
  have N2 := Hid.mk (M2'.out.keep K8.out)
  clear x0 x1 x2 x3 x4 c0 c1 c2' c3 c4 k8 M1' M2 M3 M3' M4 M4' M5 HX3 HX3' HX4 HX4' HX5 HB7 HB6 HB5 HB4 HB3 HB CM1 CM2 KW1 KW2 KW3 KW4
  obtain ⟨⟨_, _, _, _, x4⟩, _⟩ := five (K8.out.heap HB8.out.1 (by simp))
  obtain ⟨⟨_, _, _, _, y4⟩, _⟩ := five (K8.out.heap HB8.out.2 (by simp))
  obtain ⟨⟨_, _, _, _, f4⟩, _⟩ := five (K8.out.heap HX1.out (by simp))
  obtain ⟨⟨_, _, _, _, g4⟩, _⟩ := five (K8.out.heap HX2'.out (by simp))
  go_wp2_with (fail)
  go_loopw [23] (fun i wr => ∃ k : Nat, k ≤ n ∧ i = .int .i64 (k : Int) ∧ Kept [] w8 wr) (fun i _ => n - (intOf i).toNat)
  case atStart => exact ⟨0, by omega, rfl, Kept.refl _ _⟩
  case round =>
    obtain ⟨wo, rfl⟩ : ∃ wo, wo = wr := ⟨_, rfl⟩
    obtain ⟨k, hk, rfl, hko⟩ := hrel
    have KO := Hid.mk hko
    have x4o := cell_keep hko x4 (by simp)
    have y4o := cell_keep hko y4 (by simp)
    have f4o := cell_keep hko f4 (by simp)
    have g4o := cell_keep hko g4 (by simp)
    by_cases hlt : k < n
    · have ix : (k : Int) < (n : Int) := by omega
      obtain ⟨ga, oa, ra, qa, rfl, hca, hrda⟩ := (PA.out _ (KA.out.trans hko)).at hlt
      obtain ⟨gb, ob, rb, qb, rfl, hcb, hrdb⟩ := (PB.out _ (KA.out.trans hko)).at hlt
      have hcf := (N1.out.keep hko).cell hlt (Nat.le_refl n)
      have hcg := (N2.out.keep hko).cell hlt (Nat.le_refl n)
      have HD := Hid.mk (And.intro hrda (And.intro hrdb (And.intro ((N1.out.keep hko).row k hlt) ((N2.out.keep hko).row k hlt))))
      have hlk := (HL.out k hlt).2.2
      obtain ⟨m, em⟩ : ∃ m, pz W H k = m := ⟨_, rfl⟩
      rw [em] at hca hcb hcf hcg hlk HD
      clear hrda hrdb em hko
      go_upto_region 21 with (fail)
      go_quiet (fail)
      go_wp2_with (fail)
      go_loopw [24] (fun i wr => ∃ t : Nat, t ≤ m ∧ i = .int .i64 (t : Int) ∧ Kept [] wo wr) (fun i _ => m - (intOf i).toNat)
      case atStart => exact ⟨0, by omega, rfl, (Kept.refl _ _).drewN _⟩
      case round =>
        obtain ⟨t, ht, rfl, hkt⟩ := hrel
        have KT := Hid.mk hkt
        have x4t := cell_keep hkt x4o (by simp)
        have y4t := cell_keep hkt y4o (by simp)
        have f4t := cell_keep hkt f4o (by simp)
        have g4t := cell_keep hkt g4o (by simp)
        have hcat := cell_keep hkt hca (by simp)
        have hcbt := cell_keep hkt hcb (by simp)
        have hcft := cell_keep hkt hcf (by simp)
        have hcgt := cell_keep hkt hcg (by simp)
        by_cases hlt2 : t < m
        · have ix2 : (t : Int) < (m : Int) := by omega
          obtain ⟨g3, o3, rfl, hc3⟩ := (HD.out.1.keep hkt).at hlt2
          obtain ⟨gz, oz, rfl, hc4⟩ := (HD.out.2.1.keep hkt).at hlt2
          have hc5 := (HD.out.2.2.1.keep hkt (by simp)).at hlt2
          have hc6 := (HD.out.2.2.2.keep hkt (by simp)).at hlt2
          have hpp : p ≤ o ∧ p < o ∧ 1 ≤ o := by have := HO.out; omega
          have q1 : ∀ M, M ≤ F k t → M ≤ G k t → M ≤ mxF F G p o k t := fun M h1 h2 => mxv_ge h1 h2 hpp.1 hpp.2.2
          have q2 : ∀ M, F k t ≤ M → G k t ≤ M → mxF F G p o k t ≤ M := fun M h1 h2 => mxv_le h1 h2 hpp.1 hpp.2.2
          have q3 : F k t ≤ G k t → mxF F G p o k t ≤ mxF F G (p + 1) o k t := fun h => mxv_up h hpp.2.1
          have q4 : G k t ≤ F k t → mxF F G (p + 1) o k t ≤ mxF F G p o k t := fun h => mxv_down h hpp.2.1
          obtain ⟨x, ex⟩ : ∃ x, F k t = x := ⟨_, rfl⟩
          obtain ⟨y, ey⟩ : ∃ y, G k t = y := ⟨_, rfl⟩
          obtain ⟨s, es⟩ : ∃ s, mxF F G p o k t = s := ⟨_, rfl⟩
          obtain ⟨r, er⟩ : ∃ r, mxF F G (p + 1) o k t = r := ⟨_, rfl⟩
          rw [ex] at hc3 q1 q2 q3 q4
          rw [ey] at hc4 q1 q2 q3 q4
          rw [es] at hc5 q1 q2 q3 q4
          rw [er] at hc6 q3 q4
          clear ex ey es er hkt x4 y4 f4 g4 x4o y4o f4o g4o hca hcb hcf hcg hpp
          rcases Nat.lt_trichotomy x y with hxy | hxy | hxy
          · have a1 := q1 x (Nat.le_refl _) (by omega)
            have a2 := q2 y (by omega) (Nat.le_refl _)
            have a3 := q3 (by omega)
            have i1 : ¬ (s : Int) < (x : Int) := by omega
            have i2 : ¬ (y : Int) < (s : Int) := by omega
            have i3 : ¬ (r : Int) < (s : Int) := by omega
            have i4 : (x : Int) < (y : Int) := by omega
            have i5 : ¬ (y : Int) < (x : Int) := by omega
            have i6 : ¬ (y : Int) ≤ (x : Int) := by omega
            have i7 : (x : Int) ≤ (y : Int) := by omega
            have n1 : ¬ s < x := by omega
            have n2 : ¬ y < s := by omega
            have n3 : ¬ r < s := by omega
            have n5 : ¬ y < x := by omega
            have n6 : ¬ y ≤ x := by omega
            have n7 : x ≤ y := by omega
            clear q1 q2 q3 q4 a1 a2 a3
            go_wp2_with (fail)
            go_roundw
            case rel => exact ⟨t + 1, by omega, by go_num, KT.out⟩
            case measure => simp [intOf]; omega
          · subst hxy
            have a1 := q1 x (Nat.le_refl _) (by omega)
            have a2 := q2 x (by omega) (Nat.le_refl _)
            have a3 := q3 (by omega)
            have a4 := q4 (by omega)
            obtain rfl : s = x := by omega
            obtain rfl : r = s := by omega
            have i5 : ¬ (r : Int) < (r : Int) := by omega
            have i7 : (r : Int) ≤ (r : Int) := by omega
            clear q1 q2 q3 q4 a1 a2 a3 a4
            go_wp2_with (fail)
            go_roundw
            case rel => exact ⟨t + 1, by omega, by go_num, KT.out⟩
            case measure => simp [intOf]; omega
          · have a1 := q1 y (by omega) (Nat.le_refl _)
            have a2 := q2 x (Nat.le_refl _) (by omega)
            have a3 := q4 (by omega)
            have i1 : ¬ (s : Int) < (y : Int) := by omega
            have i2 : ¬ (x : Int) < (s : Int) := by omega
            have i3 : ¬ (s : Int) < (r : Int) := by omega
            have i4 : (y : Int) < (x : Int) := by omega
            have i5 : ¬ (x : Int) < (y : Int) := by omega
            have i6 : ¬ (x : Int) ≤ (y : Int) := by omega
            have i7 : (y : Int) ≤ (x : Int) := by omega
            have n1 : ¬ s < y := by omega
            have n2 : ¬ x < s := by omega
            have n3 : ¬ s < r := by omega
            have n5 : ¬ x < y := by omega
            have n6 : ¬ x ≤ y := by omega
            have n7 : y ≤ x := by omega
            clear q1 q2 q3 q4 a1 a2 a3
            go_wp2_with (fail)
            go_roundw
            case rel => exact ⟨t + 1, by omega, by go_num, KT.out⟩
            case measure => simp [intOf]; omega
        · obtain rfl : m = t := by omega
          clear hkt x4 y4 f4 g4 x4o y4o f4o g4o hca hcb hcf hcg
          go_wp2_with (fail)
          go_roundw
          case rel => exact ⟨k + 1, by omega, by go_num, KO.out.trans KT.out⟩
          case measure => simp [intOf]; omega
    · obtain rfl : n = k := by omega
      clear hko x4 y4 f4 g4
      go_wp2_with (fail)
      go_ret
      exact ⟨rfl, KA.out.trans KO.out⟩
end Go.Proofs.YtgjjnkhkjnkahaaDoor
