import Derived.Test.YthihennifigchaaQe
import Derived.Test.YthihennifigchaaQg
import Derived.Test.YthihennifigchaaQh
namespace Go.Proofs.Ythihennifigchaa
open Go.RowKit

theorem alloc_new (w : World) (o : Obj) : ∃ w', w.alloc o = w' ∧ Kept [] w w' ∧ w'.heap[w.heap.size]? = some o := ⟨_, rfl, alloc_kept w o, heap_alloc_new w o⟩

set_option maxHeartbeats 16000000 in
set_option maxRecDepth 1000000 in
theorem shapes_any (W H D n : Int) (A : Bool) (w : World) : Calls Try.prog 3 #[shv W H D A, .int .i64 n] w fun e w' => e = .returned (.bool true) ∧ Kept [] w w' := by
  obtain ⟨fW, fH, fD, fA, fn, fE, hfn, hpz, NW, RN⟩ := new_u W H D A
  have NW := Hid.mk NW
  have RN := Hid.mk RN
  have HPZ := Hid.mk hpz
  have CS := Hid.mk (fun u => shaped_any W H D A u)
  have CR := Hid.mk (fun u => rshaped_any W H D A u)
  have CZ := Hid.mk (fun u => size_any W H D n A u)
  have CY := Hid.mk (fun u => rsize_any W H D n A u)
  have CN := Hid.mk (fun u => samples_any W H D A u)
  have CM := Hid.mk (fun u => rsamples_any W H D A u)
  obtain ⟨xw, exw⟩ : ∃ x, (if szE W H D n A = 0 then wp W n else 0) = x := ⟨_, rfl⟩
  obtain ⟨xh, exh⟩ : ∃ x, (if szE W H D n A = 0 then H else 0) = x := ⟨_, rfl⟩
  obtain ⟨xe, exe⟩ : ∃ x, szE W H D n A = x := ⟨_, rfl⟩
  obtain ⟨xt, ext⟩ : ∃ x, (if shE W H D A = 0 then tot W H A else 0) = x := ⟨_, rfl⟩
  obtain ⟨xs, exs⟩ : ∃ x, shE W H D A = x := ⟨_, rfl⟩
  simp only [exw, exh] at CZ CY
  simp only [exe] at CZ CY
  simp only [ext] at CN CM
  simp only [exs] at CN CM CS CR
  clear exw exh exe ext exs hpz
  obtain ⟨w0, ew0, k0, hb0⟩ := alloc_new w (.cells #[.int .i64 W, .int .i64 H, .int .i64 D, .bool A] 23)
  obtain ⟨b, eb⟩ : ∃ b, w.heap.size = b := ⟨_, rfl⟩
  rw [eb] at hb0
  have S0 : Hid (∀ u, Kept [] w0 u → Sat u b W H D A) := Hid.mk (fun u hu => Sat.keep (w := w0) ⟨by simp [World.cell?, hb0], by simp [World.cell?, hb0], by simp [World.cell?, hb0], by simp [World.cell?, hb0]⟩ hu (by simp))
  have K0 := Hid.mk k0
  clear k0 hb0
  go_enter Try.func3, Try.ntmps3
  go_wp2_with (fail)
  refine (shown_any w0).mono ?_
  rintro e w1 ⟨rfl, k1⟩
  obtain ⟨q0, q1, q2, q3⟩ := S0.out w1 k1
  have K1 := Hid.mk k1
  clear k1 ew0
  go_wp2_with (fail)
  refine (CS.out w1).mono ?_
  rintro e w2 ⟨rfl, k2⟩
  have K2 := Hid.mk (K1.out.trans k2)
  clear q0 q1 q2 q3 k2 K1
  obtain ⟨q0, q1, q2, q3⟩ := S0.out w2 K2.out
  go_wp2_with (fail)
  refine (CZ.out w2).mono ?_
  rintro e w3 ⟨rfl, k3⟩
  have K3 := Hid.mk (K2.out.trans k3)
  clear q0 q1 q2 q3 k3 K2
  obtain ⟨q0, q1, q2, q3⟩ := S0.out w3 K3.out
  go_wp2_with (fail)
  refine (CY.out w3).mono ?_
  rintro e w4 ⟨rfl, k4⟩
  have K4 := Hid.mk (K3.out.trans k4)
  clear q0 q1 q2 q3 k4 K3
  obtain ⟨q0, q1, q2, q3⟩ := S0.out w4 K4.out
  go_wp2_with (fail)
  refine (CN.out w4).mono ?_
  rintro e w5 ⟨rfl, k5⟩
  have K5 := Hid.mk (K4.out.trans k5)
  clear q0 q1 q2 q3 k5 K4
  obtain ⟨q0, q1, q2, q3⟩ := S0.out w5 K5.out
  go_wp2_with (fail)
  refine (CM.out w5).mono ?_
  rintro e w6 ⟨rfl, k6⟩
  have K6 := Hid.mk (K5.out.trans k6)
  clear q0 q1 q2 q3 k6 K5
  obtain ⟨q0, q1, q2, q3⟩ := S0.out w6 K6.out
  go_wp2_with (fail)
  refine (CR.out w6).mono ?_
  rintro e w7 ⟨rfl, k7⟩
  have K7 := Hid.mk (K6.out.trans k7)
  clear q0 q1 q2 q3 k7 K6 CS CR CZ CY CN CM
  obtain ⟨w8, ew8, k8, hb8⟩ := alloc_new w7 (.cells #[.slice none 0 0, .int .i64 0, .slice none 0 0] 35)
  obtain ⟨B, eB⟩ : ∃ B, w7.heap.size = B := ⟨_, rfl⟩
  have sB : w0.heap.size ≤ B := by rw [← eB]; exact K7.out.size
  rw [eB] at hb8
  have B8 := Hid.mk (Bk.bo0_at (K7.out.trans k8) sB hb8)
  clear k8 hb8 sB K7
  go_wp2_with (fail)
  go_loopw [18] (fun t wr => ∃ k : Nat, k ≤ 2 ∧ t = .int .i64 (k : Int) ∧ ∃ s, Bk.BAt w0 wr B s ∧ Bk.Rq s 0 (4 + 2 * k) ∧ s.n = 2 * k ∧ s.h ≤ 1000 * k) (fun t _ => 2 - (intOf t).toNat)
  case atStart => exact ⟨0, by omega, rfl, Bk.bo0, B8.out, Bk.bo0_rq _, rfl, Nat.zero_le _⟩
  case round =>
    obtain ⟨k, hk, rfl, s, hB, hR, hn, hh⟩ := hrel
    by_cases hlt : k < 2
    · have ix : (k : Int) < 2 := by omega
      obtain ⟨q0, q1, q2, q3⟩ := S0.out wr hB.old
      have N1 := Hid.mk (NW.out w0 wr B 0 (4 + 2 * k) s hB hR (by omega))
      clear hB hR
      go_wp2_with (fail)
      with_reducible refine N1.out.mono ?_
      rintro e v1 ⟨po1, c1, s1, rfl, hB1, hR1, hX1, hP1, hk1⟩
      have HB1 := Hid.mk (And.intro hB1 (And.intro hR1 (And.intro hX1 hP1)))
      have ka1 := alloc_kept v1 (.cells #[.int .i64 fW, .int .i64 fH, .int .i64 fD, .bool fA, .slice po1 fn c1] 38)
      obtain ⟨q0', q1', q2', q3'⟩ := S0.out _ (hB1.old.trans ka1)
      clear q0 q1 q2 q3 N1 hB1 hR1 hX1 hP1 hk1
      go_wp2_with (fail)
      obtain ⟨u1, eu1⟩ : ∃ u1, v1.alloc (.cells #[.int .i64 fW, .int .i64 fH, .int .i64 fD, .bool fA, .slice po1 fn c1] 38) = u1 := ⟨_, rfl⟩
      have hu1 : u1.heap[v1.heap.size]? = some (.cells #[.int .i64 fW, .int .i64 fH, .int .i64 fD, .bool fA, .slice po1 fn c1] 38) := by rw [← eu1]; exact heap_alloc_new _ _
      rw [eu1] at ka1
      rw [eu1]
      obtain ⟨G1, eG1⟩ : ∃ G1, v1.heap.size = G1 := ⟨_, rfl⟩
      rw [eG1] at hu1 ⊢
      have N2 := Hid.mk (NW.out w0 u1 B (0 + 1) (4 + 2 * k) s1 (HB1.out.1.keep ka1) HB1.out.2.1 (by omega))
      have HU1 := Hid.mk (And.intro hu1 (HB1.out.2.2.2.keep ka1))
      have HX1 := Hid.mk HB1.out.2.2.1
      clear eu1 eG1 q0' q1' q2' q3' ka1 HB1 hu1
      with_reducible refine N2.out.mono ?_
      rintro e v2 ⟨po2, c2, s2, rfl, hB2, hR2, hX2, hP2, hk2⟩
      have HB2 := Hid.mk (And.intro hB2 (And.intro hR2 (And.intro hX2 hP2)))
      have HU1' := Hid.mk (And.intro (hk2.heap HU1.out.1 (by simp)) (HU1.out.2.keep hk2))
      have ka2 := alloc_kept v2 (.cells #[.int .i64 fW, .int .i64 fH, .int .i64 fD, .bool fA, .slice po2 fn c2] 38)
      obtain ⟨q0, q1, q2, q3⟩ := S0.out _ (hB2.old.trans ka2)
      clear N2 hB2 hR2 hX2 hP2 hk2 HU1
      go_wp2_with (fail)
      obtain ⟨u2, eu2⟩ : ∃ u2, v2.alloc (.cells #[.int .i64 fW, .int .i64 fH, .int .i64 fD, .bool fA, .slice po2 fn c2] 38) = u2 := ⟨_, rfl⟩
      have hu2 : u2.heap[v2.heap.size]? = some (.cells #[.int .i64 fW, .int .i64 fH, .int .i64 fD, .bool fA, .slice po2 fn c2] 38) := by rw [← eu2]; exact heap_alloc_new _ _
      rw [eu2] at ka2
      rw [eu2]
      obtain ⟨G2, eG2⟩ : ∃ G2, v2.heap.size = G2 := ⟨_, rfl⟩
      rw [eG2] at hu2 ⊢
      have HU2 := Hid.mk (And.intro hu2 (HB2.out.2.2.2.keep ka2))
      have HU3 := Hid.mk (And.intro (ka2.heap HU1'.out.1 (by simp)) (HU1'.out.2.keep ka2))
      have HS2 := Hid.mk (And.intro (HB2.out.1.keep ka2) (And.intro HB2.out.2.1 HB2.out.2.2.1))
      clear eu2 eG2 q0 q1 q2 q3 ka2 HB2 hu2 HU1'
      refine (RN.out u2).mono ?_
      rintro e v3 ⟨po3, c3, rfl, hP3, hk3⟩
      have HP3 := Hid.mk (And.intro hP3 hk3)
      clear hP3 hk3
      go_upto_region 16 with (fail)
      obtain ⟨u3, eu3⟩ : ∃ u3, v3.alloc (.cells #[.int .i64 fW, .int .i64 fH, .int .i64 fD, .bool fA, .slice po3 fn c3] 38) = u3 := ⟨_, rfl⟩
      have hu3 : u3.heap[v3.heap.size]? = some (.cells #[.int .i64 fW, .int .i64 fH, .int .i64 fD, .bool fA, .slice po3 fn c3] 38) := by rw [← eu3]; exact heap_alloc_new _ _
      have ka3 : Kept [] u2 u3 := by rw [← eu3]; exact HP3.out.2.trans (alloc_kept _ _)
      have kb3 : Kept [] v3 u3 := by rw [← eu3]; exact alloc_kept _ _
      rw [eu3]
      obtain ⟨G3, eG3⟩ : ∃ G3, v3.heap.size = G3 := ⟨_, rfl⟩
      rw [eG3] at hu3 ⊢
      have h1u := ka3.heap HU3.out.1 (by simp)
      have h2u := ka3.heap HU2.out.1 (by simp)
      obtain ⟨⟨a0, a1, a2, a3, a4⟩, -⟩ := five h1u
      obtain ⟨⟨b0, b1, b2, b3, b4⟩, -⟩ := five h2u
      obtain ⟨⟨d0, d1, d2, d3, d4⟩, -⟩ := five hu3
      have all0 : alF (fun _ _ => 0) (fun _ _ => 0) fn (pz W H) (pz W H) = true := alF_yes (fun i _ => eqL_yes (fun _ _ => rfl))
      have C1 := Hid.mk (rsame_eq fW fH fD fA po1 po3 fn c1 c3 (pz W H) (pz W H) (fun _ _ => 0) (fun _ _ => 0) u3 (HU3.out.2.keep ka3) (HP3.out.1.keep kb3) (by omega) (fun i hi => by have := HPZ.out i hi; omega) (fun i hi => by have := HPZ.out i hi; omega))
      have C2 : Hid (∀ u, Kept [] u3 u → Calls Try.prog 18 #[frv fW fH fD fA po2 fn c2, frv fW fH fD fA po3 fn c3] u fun e w' => e = .returned (.bool true) ∧ Kept [] u w') := Hid.mk (fun u hu => by
        have := rsame_eq fW fH fD fA po2 po3 fn c2 c3 (pz W H) (pz W H) (fun _ _ => 0) (fun _ _ => 0) u (HU2.out.2.keep (ka3.trans hu)) (HP3.out.1.keep (kb3.trans hu)) (by omega) (fun i hi => by have := HPZ.out i hi; omega) (fun i hi => by have := HPZ.out i hi; omega)
        rw [all0] at this
        exact this)
      rw [all0] at C1
      have HS3 := Hid.mk (And.intro (HS2.out.1.keep ka3) HS2.out.2)
      have HF := Hid.mk (And.intro h1u (And.intro h2u hu3))
      clear all0 ka3 kb3 eu3 eG3 HP3 HU2 HU3 HS2 h1u h2u hu3
      go_wp2_with (fail)
      with_reducible refine C1.out.mono ?_
      rintro e u4 ⟨rfl, k4⟩
      obtain ⟨⟨a0', a1', a2', a3', a4'⟩, -⟩ := five (k4.heap HF.out.1 (by simp))
      obtain ⟨⟨b0', b1', b2', b3', b4'⟩, -⟩ := five (k4.heap HF.out.2.1 (by simp))
      obtain ⟨⟨d0', d1', d2', d3', d4'⟩, -⟩ := five (k4.heap HF.out.2.2 (by simp))
      have C3 := Hid.mk (C2.out u4 k4)
      have K4 := Hid.mk k4
      clear a0 a1 a2 a3 a4 b0 b1 b2 b3 b4 d0 d1 d2 d3 d4 C1 C2 k4
      go_wp2_with (fail)
      with_reducible refine C3.out.mono ?_
      rintro e u5 ⟨rfl, k5⟩
      have K5 := Hid.mk (K4.out.trans k5)
      obtain ⟨⟨-, -, -, -, e4⟩, -⟩ := five (K5.out.heap HF.out.1 (by simp))
      have HS5 := Hid.mk (HS3.out.1.keep K5.out)
      have T1 := Hid.mk (Bk.take_k w0 u5 B s2 (.slice po1 fn c1) po1 fn c1 rfl HS5.out (by have := HS3.out.2.1.r; have := HS3.out.2.2.1; have := HX1.out.1; omega))
      clear a0' a1' a2' a3' a4' b0' b1' b2' b3' b4' d0' d1' d2' d3' d4' C3 k5 K4
      go_wp2_with (fail)
      with_reducible refine T1.out.mono ?_
      rintro e u6 ⟨rfl, Sn1, hB6, hk6⟩
      have h2q := K5.out.heap HF.out.2.1 (by simp)
      obtain ⟨⟨-, -, -, -, g4⟩, -⟩ := five (hk6.heap h2q (HS5.out.not_mine h2q (by decide) (by decide)))
      have eR1 : s2.RV s2.r = .slice po1 fn c1 := by
        have x1 := HX1.out
        have x2 := HS3.out.2.2
        have x3 := HS3.out.2.1.r
        rw [show s2.r = s.n by omega, x2.2.2.2.2 s.n (by omega)]
        exact x1.2.2.2.1
      have eR2 : (s2.appo (.slice po1 fn c1) Sn1).RV (s2.appo (.slice po1 fn c1) Sn1).r = .slice po2 fn c2 := by
        have x1 := HX1.out
        have x2 := HS3.out.2.2
        have x3 := HS3.out.2.1.r
        show s2.RV (s2.r + 1) = _
        rw [show s2.r + 1 = s1.n by omega]
        exact x2.2.2.2.1
      have R6 := HS3.out.2.1.take Sn1 eR1
      have T2 := Hid.mk (Bk.take_k w0 u6 B _ (.slice po2 fn c2) po2 fn c2 rfl hB6 (by have := HS3.out.2.1.r; have := HS3.out.2.2.1; have := HX1.out.1; show s2.r + 1 ≤ 1000000; omega))
      have HR6 := Hid.mk (And.intro R6 eR2)
      clear T1 e4 hB6 hk6 h2q eR1 eR2 R6 HS5
      go_wp2_with (fail)
      with_reducible refine T2.out.mono ?_
      rintro e u7 ⟨rfl, Sn2, hB7, -⟩
      have R7 := HR6.out.1.take Sn2 HR6.out.2
      have n7 : ((s2.appo (.slice po1 fn c1) Sn1).appo (.slice po2 fn c2) Sn2).n = 2 * k + 2 := by
        have x1 := HX1.out.1
        have x2 := HS3.out.2.2.1
        show s2.n = _
        omega
      have h7 : ((s2.appo (.slice po1 fn c1) Sn1).appo (.slice po2 fn c2) Sn2).h ≤ 1000 * k := by
        have x1 := HX1.out.2.2.1
        have x2 := HS3.out.2.2.2.2.1
        show s2.h ≤ _
        omega
      obtain ⟨s7, es7⟩ : ∃ s7, (s2.appo (.slice po1 fn c1) Sn1).appo (.slice po2 fn c2) Sn2 = s7 := ⟨_, rfl⟩
      rw [es7] at hB7 R7 n7 h7
      have OW := Hid.mk (Bk.own_any w0 u7 B s7 hB7 (R7.rk (by omega) (by omega)) (by omega))
      have HR7 := Hid.mk (And.intro R7 (And.intro n7 h7))
      clear T2 g4 hB7 R7 n7 h7 es7 HR6 HS3 HF K5 HX1
      go_wp2_with (fail)
      with_reducible refine OW.out.mono ?_
      rintro e u8 ⟨rfl, s8, hB8, hD8⟩
      have R8 := HR7.out.1.of_dn hD8
      have n8 : s8.n = 2 * (k + 1) := by have := hD8.n; have := HR7.out.2.1; omega
      have h8 : s8.h ≤ 1000 * (k + 1) := by have := hD8.h; have := HR7.out.2.2; omega
      have FN := Hid.mk (And.intro hB8 (And.intro R8 (And.intro n8 h8)))
      clear OW hB8 hD8 R8 n8 h8 HR7
      go_wp2
      go_roundw
      case rel => exact ⟨k + 1, by omega, by go_num, s8, FN.out.1, by have := FN.out.2.1; exact (show 4 + 2 * k + 2 = 4 + 2 * (k + 1) by omega) ▸ this, FN.out.2.2.1, FN.out.2.2.2⟩
      case measure => simp [intOf]; omega
    · go_wp2
      go_ret
      exact ⟨rfl, K0.out.trans hB.old⟩
end Go.Proofs.Ythihennifigchaa
