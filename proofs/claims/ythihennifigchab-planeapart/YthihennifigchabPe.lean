import Derived.Test.YthihennifigchabPd
namespace Go.Proofs.Ythihennifigchab
open Go.RowKit

set_option maxHeartbeats 32000000 in
set_option maxRecDepth 1000000 in
theorem apartLaw_any (W H D : Int) (A : Bool) (po : Option Addr) (n c : Nat) (ln : Nat → Nat) (F0 : Nat → Nat → Nat) (W2 H2 D2 : Int) (A2 : Bool) (qo : Option Addr) (m d : Nat) (lm : Nat → Nat) (G0 : Nat → Nat → Nat) (p : Int) (w : World) (hr0 : Pc w po n ln F0) (hn : n ≤ 5864062014634) (hln : ∀ i, i < n → ln i ≤ 70368744175616) (hF0 : ∀ i, i < n → ∀ j, j < ln i → F0 i j < 65536) (hs0 : Pc w qo m lm G0) (hm : m ≤ 5864062014634) (hlm : ∀ i, i < m → lm i ≤ 70368744175616) (hG0 : ∀ i, i < m → ∀ j, j < lm i → G0 i j < 65536) :
    Calls Try.prog 3 #[frv W H D A po n c, frv W2 H2 D2 A2 qo m d, .int .i64 p] w fun e w' => e = .returned (.bool true) ∧ Kept [] w w' := by
  obtain ⟨F, hr, hF⟩ := hr0.nice hF0
  obtain ⟨G, hs, hG⟩ := hs0.nice hG0
  have hnb : n ≤ 9223372036854775807 := by omega
  have hmb : m ≤ 9223372036854775807 := by omega
  have Hlb : Hid ((∀ i, i < n → ln i ≤ 9223372036854775807) ∧ ∀ i, i < m → lm i ≤ 9223372036854775807) := Hid.mk ⟨fun i hi => by have := hln i hi; omega, fun i hi => by have := hlm i hi; omega⟩
  have Hr := Hid.mk hr.pl
  have Hs := Hid.mk hs.pl
  have Hln := Hid.mk (And.intro hln hlm)
  have HF := Hid.mk (And.intro hF hG)
  have lt9 : Hid ((∀ i j, ltF (F i) (ln i) j < 65536) ∧ ∀ i j, ltF (G i) (lm i) j < 65536) := Hid.mk ⟨fun i j => by
    unfold ltF
    split
    · exact hF i j
    · decide, fun i j => by
    unfold ltF
    split
    · exact hG i j
    · decide⟩
  have h1 := heap_alloc_new w (.cells #[.int .i64 W, .int .i64 H, .int .i64 D, .bool A, .slice po n c] 26)
  have k1 := alloc_kept w (.cells #[.int .i64 W, .int .i64 H, .int .i64 D, .bool A, .slice po n c] 26)
  have h2 := heap_alloc_new (w.alloc (.cells #[.int .i64 W, .int .i64 H, .int .i64 D, .bool A, .slice po n c] 26)) (.cells #[.int .i64 W2, .int .i64 H2, .int .i64 D2, .bool A2, .slice qo m d] 26)
  have k2 := alloc_kept (w.alloc (.cells #[.int .i64 W, .int .i64 H, .int .i64 D, .bool A, .slice po n c] 26)) (.cells #[.int .i64 W2, .int .i64 H2, .int .i64 D2, .bool A2, .slice qo m d] 26)
  rw [World.size_alloc] at h2
  have hh1 := k2.heap h1 (by simp)
  have K1 := Hid.mk (k1.trans k2)
  have P1 := Hid.mk (And.intro hh1 h2)
  clear hr0 hF0 hs0 hG0 hr hs hln hlm hF hG h1 k1 h2 k2 hh1
  go_enter Try.func3, Try.ntmps3
  go_wp2_with (fail)
  obtain ⟨w1, ew1⟩ : ∃ w1, w1 = (w.alloc (.cells #[.int .i64 W, .int .i64 H, .int .i64 D, .bool A, .slice po n c] 26)).alloc (.cells #[.int .i64 W2, .int .i64 H2, .int .i64 D2, .bool A2, .slice qo m d] 26) := ⟨_, rfl⟩
  rw [← ew1] at P1 K1 ⊢
  obtain ⟨FA, eFA⟩ : ∃ FA, FA = w.heap.size := ⟨_, rfl⟩
  obtain ⟨FB, eFB⟩ : ∃ FB, FB = w.heap.size + 1 := ⟨_, rfl⟩
  rw [← eFB, ← eFA] at P1 ⊢
  clear ew1 eFA eFB
  refine (shown_any w1).mono ?_
  rintro e w2 ⟨rfl, hk2⟩
  have K2 := Hid.mk (K1.out.trans hk2)
  have P2 := Hid.mk (And.intro (hk2.heap P1.out.1 (by simp)) (hk2.heap P1.out.2 (by simp)))
  clear hk2 P1 K1
  obtain ⟨⟨a0, a1, a2, a3, a4⟩, _⟩ := five P2.out.1
  go_wp2_with (fail)
  refine (lend_any W H D A po n c ln F w2 (Hr.out.keep K2.out) hn Hln.out.1).mono ?_
  rintro e w3 ⟨LX, V, bx, rfl, hLx⟩
  obtain ⟨vo, vc, rfl⟩ := hLx.own
  have ka := alloc_kept w3 (.cells #[.int .i64 W, .int .i64 H, .int .i64 D, .bool A, slv LX n (n + 2), .slice vo n vc, slv LX (n + 2) (n + 2)] 29)
  have kn := heap_alloc_new w3 (.cells #[.int .i64 W, .int .i64 H, .int .i64 D, .bool A, slv LX n (n + 2), .slice vo n vc, slv LX (n + 2) (n + 2)] 29)
  have ksz := World.size_alloc w3 (.cells #[.int .i64 W, .int .i64 H, .int .i64 D, .bool A, slv LX n (n + 2), .slice vo n vc, slv LX (n + 2) (n + 2)] 29)
  have hb4 := five (ka.heap (hLx.kept.heap P2.out.2 (by simp)) (by simp))
  obtain ⟨w4, ew4⟩ : ∃ w4, w4 = w3.alloc (.cells #[.int .i64 W, .int .i64 H, .int .i64 D, .bool A, slv LX n (n + 2), .slice vo n vc, slv LX (n + 2) (n + 2)] 29) := ⟨_, rfl⟩
  have E4 := Hid.mk ew4
  obtain ⟨XB, eXB⟩ : ∃ XB, XB = w3.heap.size := ⟨_, rfl⟩
  have EXB := Hid.mk eXB
  obtain ⟨⟨b0, b1, b2, b3, b4⟩, _⟩ := hb4
  rw [← ew4] at ka kn ksz
  have LX4 := Hid.mk (hLx.keep0 ka)
  have K4 := Hid.mk ((K2.out.trans hLx.kept).trans ka)
  have P4 := Hid.mk (And.intro (ka.heap (hLx.kept.heap P2.out.1 (by simp)) (by simp)) (And.intro (ka.heap (hLx.kept.heap P2.out.2 (by simp)) (by simp)) kn))
  have HX : Hid (((∀ i, i < n → bx i < w3.heap.size ∧ w2.heap.size ≤ bx i) ∧ LX < w3.heap.size ∧ ∀ g, Value.ownBlock (.slice vo n vc) = some g → g < w3.heap.size) ∧ w4.heap.size = w3.heap.size + 1 ∧ w.heap.size ≤ w2.heap.size ∧ FA < w2.heap.size ∧ FB < w2.heap.size ∧ w2.heap.size ≤ w3.heap.size) := Hid.mk ⟨⟨fun i hi => ⟨(hLx.all.row i hi).lt, hLx.all.lo i hi⟩, lt_of_block hLx.lst, fun g hg => (own_lt hLx.all.own g hg).2⟩, ksz, K2.out.size, lt_of_block P2.out.1, lt_of_block P2.out.2, hLx.kept.size⟩
  clear ka kn ksz hLx ew4 eXB a0 a1 a2 a3 a4 K2 P2
  go_wp2_with (fail)
  rw [← E4.out]
  refine (lend_any W2 H2 D2 A2 qo m d lm G w4 (Hs.out.keep K4.out) hm Hln.out.2).mono ?_
  rintro e w5 ⟨LY, V2, bY, rfl, hLy⟩
  obtain ⟨uo, uc, rfl⟩ := hLy.own
  clear b0 b1 b2 b3 b4 E4
  rw [← EXB.out] at P4 ⊢
  have ka := alloc_kept w5 (.cells #[.int .i64 W2, .int .i64 H2, .int .i64 D2, .bool A2, slv LY m (m + 2), .slice uo m uc, slv LY (m + 2) (m + 2)] 29)
  have kn := heap_alloc_new w5 (.cells #[.int .i64 W2, .int .i64 H2, .int .i64 D2, .bool A2, slv LY m (m + 2), .slice uo m uc, slv LY (m + 2) (m + 2)] 29)
  obtain ⟨w6, ew6⟩ : ∃ w6, w6 = w5.alloc (.cells #[.int .i64 W2, .int .i64 H2, .int .i64 D2, .bool A2, slv LY m (m + 2), .slice uo m uc, slv LY (m + 2) (m + 2)] 29) := ⟨_, rfl⟩
  have E6 := Hid.mk ew6
  have kq := hLy.kept.trans ka
  have p6 := And.intro (kq.heap P4.out.1 (by simp)) (And.intro (kq.heap P4.out.2.1 (by simp)) (And.intro (kq.heap P4.out.2.2 (by simp)) kn))
  obtain ⟨⟨a0, a1, a2, a3, a4⟩, _⟩ := five p6.1
  obtain ⟨⟨b0, b1, b2, b3, b4⟩, _⟩ := five p6.2.1
  obtain ⟨⟨x0, x1, x2, x3, x4, x5, x6⟩, _⟩ := seven p6.2.2.1
  obtain ⟨YB, eYB⟩ : ∃ YB, YB = w5.heap.size := ⟨_, rfl⟩
  have EYB := Hid.mk eYB
  have P6 := Hid.mk p6
  have LX6 := Hid.mk (LX4.out.keep0 kq)
  have LY6 := Hid.mk (hLy.keep0 ka)
  have K6 := Hid.mk (K4.out.trans kq)
  have HY : Hid ((∀ i, i < m → bY i < w5.heap.size ∧ w4.heap.size ≤ bY i) ∧ w4.heap.size ≤ w5.heap.size) := Hid.mk ⟨fun i hi => ⟨(hLy.all.row i hi).lt, hLy.all.lo i hi⟩, hLy.kept.size⟩
  rw [← ew6] at P6 LX6 LY6 K6
  rw [← eYB] at P6
  clear ka kn hLy ew6 eYB kq p6 K4 P4 LX4
  go_wp2_with (fail)
  rw [← E6.out]
  have AP : Hid (∀ (u : World) (po1 po2 qo1 qo2 : Option Addr) (c1 c2 d1 d2 : Nat) (F G : Nat → Nat → Nat), Pl u po1 n ln F → Pl u qo1 m lm G → Pl u po2 n ln F → Pl u qo2 m lm G → (∀ i j, F i j < 65536) → (∀ i j, G i j < 65536) → Calls Try.prog 10 #[frv W H D A po1 n c1, frv W2 H2 D2 A2 qo1 m d1, frv W H D A po2 n c2, frv W2 H2 D2 A2 qo2 m d2, .int .i64 p] u fun e w' => e = .returned (.bool true) ∧ Kept [] u w') := Hid.mk (fun u po1 po2 qo1 qo2 c1 c2 d1 d2 F G q1 q2 q3 q4 q5 q6 => apart10_any W H D A po1 po2 n c1 c2 ln F W2 H2 D2 A2 qo1 qo2 m d1 d2 lm G p u q1 q2 q3 q4 hnb Hlb.out.1 hmb Hlb.out.2 q5 q6)
  refine (AP.out w6 _ _ _ _ _ _ _ _ F G LX6.out.plF LY6.out.plF (Hr.out.keep K6.out) (Hs.out.keep K6.out) HF.out.1 HF.out.2).mono ?_
  rintro e w7 ⟨rfl, hk7⟩
  rw [← EYB.out]
  have P7 := Hid.mk (And.intro (hk7.heap P6.out.1 (by simp)) (And.intro (hk7.heap P6.out.2.1 (by simp)) (And.intro (hk7.heap P6.out.2.2.1 (by simp)) (hk7.heap P6.out.2.2.2 (by simp)))))
  have LX7 := Hid.mk (LX6.out.keep0 hk7)
  have LY7 := Hid.mk (LY6.out.keep0 hk7)
  have K7 := Hid.mk (K6.out.trans hk7)
  have S7 := Hid.mk (show w5.heap.size ≤ w7.heap.size from by have h := World.size_alloc w5 (.cells #[.int .i64 W2, .int .i64 H2, .int .i64 D2, .bool A2, slv LY m (m + 2), .slice uo m uc, slv LY (m + 2) (m + 2)] 29); rw [← E6.out] at h; have := hk7.size; omega)
  clear hk7 P6 LX6 LY6 K6 E6 a0 a1 a2 a3 a4 b0 b1 b2 b3 b4 x0 x1 x2 x3 x4 x5 x6
  obtain ⟨⟨a0, a1, a2, a3, a4⟩, _⟩ := five P7.out.1
  obtain ⟨⟨x0, x1, x2, x3, x4, x5, x6⟩, _⟩ := seven P7.out.2.2.1
  go_wp2_with (fail)
  refine (still_yes W H D A LX n c _ bx ln po F w2 w7 LX7.out (Hr.out.keep K7.out) hn Hln.out.1).mono ?_
  rintro e w8 ⟨rfl, hk8⟩
  have P8 := Hid.mk (And.intro (hk8.heap P7.out.1 (by simp)) (And.intro (hk8.heap P7.out.2.1 (by simp)) (And.intro (hk8.heap P7.out.2.2.1 (by simp)) (hk8.heap P7.out.2.2.2 (by simp)))))
  have LX8 := Hid.mk (LX7.out.keep0 hk8)
  have LY8 := Hid.mk (LY7.out.keep0 hk8)
  have K8 := Hid.mk (K7.out.trans hk8)
  have S8 := Hid.mk (Nat.le_trans S7.out hk8.size)
  clear hk8 P7 LX7 LY7 K7 S7 a0 a1 a2 a3 a4 x0 x1 x2 x3 x4 x5 x6
  obtain ⟨⟨b0, b1, b2, b3, b4⟩, _⟩ := five P8.out.2.1
  obtain ⟨⟨y0, y1, y2, y3, y4, y5, y6⟩, _⟩ := seven P8.out.2.2.2
  go_wp2_with (fail)
  refine (still_yes W2 H2 D2 A2 LY m d _ bY lm qo G w4 w8 LY8.out (Hs.out.keep K8.out) hm Hln.out.2).mono ?_
  rintro e w9 ⟨rfl, hk9⟩
  have P9 := Hid.mk (And.intro (hk9.heap P8.out.1 (by simp)) (And.intro (hk9.heap P8.out.2.1 (by simp)) (And.intro (hk9.heap P8.out.2.2.1 (by simp)) (hk9.heap P8.out.2.2.2 (by simp)))))
  have LX9 := Hid.mk (LX8.out.keep0 hk9)
  have LY9 := Hid.mk (LY8.out.keep0 hk9)
  have K9 := Hid.mk (K8.out.trans hk9)
  have S9 := Hid.mk (Nat.le_trans S8.out hk9.size)
  clear hk9 P8 LX8 LY8 K8 S8 b0 b1 b2 b3 b4 y0 y1 y2 y3 y4 y5 y6
  obtain ⟨⟨x0, x1, x2, x3, x4, x5, x6⟩, _⟩ := seven P9.out.2.2.1
  go_wp2_with (fail)
  refine (turn_any W H D A LX n _ bx ln _ w2 w9 LX9.out lt9.out.1 hn Hln.out.1).mono ?_
  rintro e wA ⟨go, gc, F', rfl, hF', hLA, hPA, hkA⟩
  have nz : ∀ {z : Nat}, (z < w2.heap.size ∨ w3.heap.size ≤ z) → z ∉ rbs bx n := fun {z} hz hm => by
    obtain ⟨i, hi, e⟩ := mem_rbs.1 hm
    have := HX.out.1.1 i hi
    omega
  have hx := HX.out.2
  have hy := HY.out.2
  have eX := EXB.out
  have eY := EYB.out
  have pA := And.intro (hkA.heap P9.out.1 (nz (by omega))) (And.intro (hkA.heap P9.out.2.1 (nz (by omega))) (And.intro (hkA.heap P9.out.2.2.1 (nz (by omega))) (hkA.heap P9.out.2.2.2 (nz (by omega)))))
  have kA : Kept [] w wA := K9.out.step hkA (fun x hx2 => by
    obtain ⟨i, hi, e⟩ := mem_rbs.1 hx2
    right
    have := HX.out.1.1 i hi
    omega)
  obtain ⟨w4', hs4, hLYA⟩ := LY9.out.keepR hkA (fun x hx2 => by
    obtain ⟨i, hi, e⟩ := mem_rbs.1 hx2
    have := HX.out.1.1 i hi
    omega)
  have ka := alloc_kept wA (.cells #[.int .i64 W, .int .i64 H, .int .i64 D, .bool A, .slice go n gc] 26)
  have kn := heap_alloc_new wA (.cells #[.int .i64 W, .int .i64 H, .int .i64 D, .bool A, .slice go n gc] 26)
  have pB := And.intro (ka.heap pA.1 (by simp)) (And.intro (ka.heap pA.2.1 (by simp)) (And.intro (ka.heap pA.2.2.1 (by simp)) (And.intro (ka.heap pA.2.2.2 (by simp)) kn)))
  clear x0 x1 x2 x3 x4 x5 x6
  obtain ⟨⟨b0, b1, b2, b3, b4⟩, _⟩ := five pB.2.1
  obtain ⟨⟨x0, x1, x2, x3, x4, x5, x6⟩, _⟩ := seven pB.2.2.1
  obtain ⟨⟨y0, y1, y2, y3, y4, y5, y6⟩, _⟩ := seven pB.2.2.2.1
  obtain ⟨wB, ewB⟩ : ∃ wB, wB = wA.alloc (.cells #[.int .i64 W, .int .i64 H, .int .i64 D, .bool A, .slice go n gc] 26) := ⟨_, rfl⟩
  have EB := Hid.mk ewB
  obtain ⟨CB, eCB⟩ : ∃ CB, CB = wA.heap.size := ⟨_, rfl⟩
  have ECB := Hid.mk eCB
  have PB := Hid.mk pB
  have LXB := Hid.mk (hLA.keep0 ka)
  have LYB := Hid.mk (hLYA.keep0 ka)
  have KB := Hid.mk (kA.trans ka)
  have CPB := Hid.mk (hPA _ [] ka (by simp))
  have HPA := Hid.mk hPA
  have HF' := Hid.mk hF'
  have KAB := Hid.mk ka
  have SB := Hid.mk (show w5.heap.size ≤ w9.heap.size from S9.out)
  have S9A := Hid.mk hkA.size
  have HS4 := Hid.mk hs4
  rw [← ewB] at PB LXB LYB KB CPB KAB
  rw [← eCB] at PB
  clear ka kn pA pB kA hLA hLYA hPA hkA ewB eCB P9 LX9 LY9 K9 S9 nz hx hy eX eY hF' hs4
  go_wp2_with (fail)
  rw [← EB.out]
  refine (AP.out wB _ _ _ _ _ _ _ _ F' G LXB.out.pl LYB.out.plF CPB.out.pl (Hs.out.keep KB.out) HF'.out HF.out.2).mono ?_
  rintro e wC ⟨rfl, hkC⟩
  rw [← ECB.out]
  have PC := Hid.mk (And.intro (hkC.heap PB.out.1 (by simp)) (And.intro (hkC.heap PB.out.2.1 (by simp)) (And.intro (hkC.heap PB.out.2.2.1 (by simp)) (And.intro (hkC.heap PB.out.2.2.2.1 (by simp)) (hkC.heap PB.out.2.2.2.2 (by simp))))))
  have LXC := Hid.mk (LXB.out.keep0 hkC)
  have LYC := Hid.mk (LYB.out.keep0 hkC)
  have KC := Hid.mk (KB.out.trans hkC)
  have KAC := Hid.mk (KAB.out.trans hkC)
  clear hkC PB LXB LYB KB CPB KAB EB b0 b1 b2 b3 b4 x0 x1 x2 x3 x4 x5 x6 y0 y1 y2 y3 y4 y5 y6
  obtain ⟨⟨y0, y1, y2, y3, y4, y5, y6⟩, _⟩ := seven PC.out.2.2.2.1
  go_wp2_with (fail)
  refine (turn_any W2 H2 D2 A2 LY m _ bY lm _ w4' wC LYC.out lt9.out.2 hm Hln.out.2).mono ?_
  rintro e wD ⟨ho, hc, G', rfl, hG', hLD, hPD, hkD⟩
  have nz : ∀ {z : Nat}, (z < w4.heap.size ∨ w5.heap.size ≤ z) → z ∉ rbs bY m := fun {z} hz hm => by
    obtain ⟨i, hi, e⟩ := mem_rbs.1 hm
    have := HY.out.1 i hi
    omega
  have hx := HX.out.2
  have hx1 := HX.out.1
  have hy := HY.out.2
  have eX := EXB.out
  have eY := EYB.out
  have eC := ECB.out
  have hsB := SB.out
  have hsA : w9.heap.size ≤ wA.heap.size := S9A.out
  have kD : Kept [] w wD := KC.out.step hkD (fun x hx2 => by
    obtain ⟨i, hi, e⟩ := mem_rbs.1 hx2
    right
    have := HY.out.1 i hi
    omega)
  have pD := And.intro (hkD.heap PC.out.2.2.1 (nz (by omega))) (And.intro (hkD.heap PC.out.2.2.2.1 (nz (by omega))) (hkD.heap PC.out.2.2.2.2 (nz (by omega))))
  have hLXD := LXC.out.keepH hkD (nz (by omega)) (fun g hg => nz (by have := hx1.2.2 g hg; omega)) (fun i hi => nz (by have := hx1.1 i hi; omega)) (fun x hx2 => by
    obtain ⟨i, hi, e⟩ := mem_rbs.1 hx2
    have := HY.out.1 i hi
    omega)
  have ka := alloc_kept wD (.cells #[.int .i64 W2, .int .i64 H2, .int .i64 D2, .bool A2, .slice ho m hc] 26)
  have kn := heap_alloc_new wD (.cells #[.int .i64 W2, .int .i64 H2, .int .i64 D2, .bool A2, .slice ho m hc] 26)
  have kAE := ((KAC.out.mono (l2 := rbs bY m) (by simp)).trans hkD).step ka (by simp)
  have hcE := HPA.out _ (rbs bY m) kAE (fun x hx2 => by
    obtain ⟨i, hi, e⟩ := mem_rbs.1 hx2
    have := HY.out.1 i hi
    omega)
  have hdE := hPD _ [] ka (by simp)
  have pE := And.intro (ka.heap pD.1 (by simp)) (And.intro (ka.heap pD.2.1 (by simp)) (ka.heap pD.2.2 (by simp)))
  clear y0 y1 y2 y3 y4 y5 y6
  obtain ⟨⟨x0, x1, x2, x3, x4, x5, x6⟩, _⟩ := seven pE.1
  obtain ⟨⟨y0, y1, y2, y3, y4, y5, y6⟩, _⟩ := seven pE.2.1
  obtain ⟨⟨c0, c1, c2, c3, c4⟩, _⟩ := five pE.2.2
  obtain ⟨wE, ewE⟩ : ∃ wE, wE = wD.alloc (.cells #[.int .i64 W2, .int .i64 H2, .int .i64 D2, .bool A2, .slice ho m hc] 26) := ⟨_, rfl⟩
  have EE := Hid.mk ewE
  have LXE := Hid.mk (hLXD.keep0 ka)
  have LYE := Hid.mk (hLD.keep0 ka)
  have CE := Hid.mk hcE
  have DE := Hid.mk hdE
  have KE := Hid.mk (kD.trans ka)
  have HG' := Hid.mk hG'
  rw [← ewE] at LXE LYE CE DE KE
  clear ka kn pD pE kD hLXD hLD hPD hkD ewE PC LXC LYC KC KAC nz hx hx1 hy eX eY eC hsB hsA kAE hcE hdE hG'
  go_wp2_with (fail)
  rw [← EE.out]
  refine (AP.out wE _ _ _ _ _ _ _ _ F' G' LXE.out.pl LYE.out.pl CE.out.pl DE.out.pl HF'.out HG'.out).mono ?_
  rintro e wF ⟨rfl, hkF⟩
  clear x0 x1 x2 x3 x4 x5 x6 y0 y1 y2 y3 y4 y5 y6 c0 c1 c2 c3 c4
  go_wp2
  go_ret
  exact ⟨rfl, KE.out.trans hkF⟩
end Go.Proofs.Ythihennifigchab
