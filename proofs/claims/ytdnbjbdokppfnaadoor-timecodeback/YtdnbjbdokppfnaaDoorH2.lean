import Derived.Test.YtdnbjbdokppfnaaDoorH1
namespace Go.Proofs.YtdnbjbdokppfnaaDoor
open Go.RowKit Go.Lib

/-- A frame's name: there is one, it is given, and its number is the frame. -/
theorem name_of (r n : Int) (h : Rt r) (n0 : 0 ≤ n) (n1 : n < dy r) : ∃ M k, 0 ≤ M ∧ M < 1440 ∧ 0 ≤ k ∧ k < 60 * rc r ∧ (M % 10 ≠ 0 → rl r ≤ k) ∧ n = 60 * rc r * M + k - (M - M / 10) * rl r ∧
    (∀ w, Tb w → Calls Tryd.prog 12 #[.int .i64 r, .int .i64 n] w fun e w' => e = .returned (.tuple #[.string (nms (rc r) M k (lm (rl r))), .int .i64 0]) ∧ Kept [] w w') ∧
    (∀ w, Tb w → Calls Tryd.prog 18 #[.int .i64 r, .string (nms (rc r) M k (lm (rl r)))] w fun e w' => e = .returned (.tuple #[.int .i64 n, .nilIface]) ∧ Kept [] w w') := by
  obtain ⟨M, k, M0, M1, k0, k1, e1, e2, hl⟩ := plc h n0 n1
  have en : n = 60 * rc r * M + k - (M - M / 10) * rl r := by omega
  refine ⟨M, k, M0, M1, k0, k1, hl, en, fun w hT => Name_yes r n M k w h hT n0 n1 M0 M1 k0 k1 e1, fun w hT => ?_⟩
  refine (Number_any r _ w hT ?_).mono ?_
  · rw [nms_nm4, nm4_size]; decide
  · rintro e w' ⟨x, A, E, v, hn, rfl, he, hk⟩
    obtain ⟨rfl, rfl, rfl⟩ := NR_name h M0 M1 k0 k1 hl hn
    rw [← en]
    rcases he with ⟨_, _, rfl⟩ | ⟨h, _⟩
    · exact ⟨rfl, hk⟩
    · exact (h rfl).elim

set_option maxHeartbeats 8000000 in
set_option maxRecDepth 1000000 in
theorem back_any (R m n : Int) (w : World) (hT : Tb w) (R0 : -9223372036854775808 ≤ R) (R1 : R ≤ 9223372036854775807) (m0 : -9223372036854775808 ≤ m) (m1 : m ≤ 9223372036854775807) (n0 : -9223372036854775808 ≤ n) (n1 : n ≤ 9223372036854775807) :
    Calls Tryd.prog 6 #[.int .i64 R, .int .i64 m, .int .i64 n] w fun e w' => e = .returned (.bool true) ∧ Kept [] w w' := by
  have HT := Hid.mk hT
  have CP := Hid.mk (fun u => place_any R 7 u R0 R1 (by decide) (by decide))
  have p0 := pick_lo R 7 (by decide)
  have p1 := pick_hi R 7 (by decide)
  generalize pick R 7 = a at *
  obtain ⟨r, er⟩ : ∃ r, 1 + a = r := ⟨_, rfl⟩
  have hr : Rt r := ⟨by omega, by omega⟩
  have r0 : 1 ≤ r := hr.1
  have r7 : r ≤ 7 := hr.2
  have CD := Hid.mk (fun u x => PerDay_yes r u hr x)
  have d0 := dy_pos hr
  have d1 := dy_le hr
  obtain ⟨D, eD⟩ : ∃ D, dy r = D := ⟨_, rfl⟩
  rw [eD] at CD d0 d1
  have CM := Hid.mk (fun u => place_any m D u m0 m1 (by omega) (by omega))
  have CN := Hid.mk (fun u => place_any n D u n0 n1 (by omega) (by omega))
  have x0 := pick_lo m D (by omega)
  have x1 := pick_hi m D (by omega)
  have y0 := pick_lo n D (by omega)
  have y1 := pick_hi n D (by omega)
  generalize pick m D = mm at *
  generalize pick n D = nn at *
  obtain ⟨M, k, a1, a2, a3, a4, a5, a6, A1, A2⟩ := name_of r mm hr x0 (by omega)
  obtain ⟨M', k', b1, b2, b3, b4, b5, b6, B1, B2⟩ := name_of r nn hr y0 (by omega)
  obtain ⟨L1, L2⟩ := names_rise hr a1 a2 a3 a4 a5 b1 b2 b3 b4 b5 a6 b6
  have HA1 := Hid.mk A1
  have HA2 := Hid.mk A2
  have HB1 := Hid.mk B1
  have HB2 := Hid.mk B2
  clear A1 A2 B1 B2 a1 a2 a3 a4 a5 a6 b1 b2 b3 b4 b5 b6 hT R0 R1 m0 m1 n0 n1 hr eD
  generalize nms (rc r) M k (lm (rl r)) = sa at *
  generalize nms (rc r) M' k' (lm (rl r)) = sb at *
  have CS := Hid.mk (fun u x => shown_any u x)
  have FIN : Hid (∀ w1, Kept [] w w1 → Tb w1) := Hid.mk fun w1 k => HT.out.keep k
  go_enter Tryd.func6, Tryd.ntmps6
  go_wp2_with (fail)
  refine (CS.out _ HT.out).mono ?_
  rintro e w1 ⟨rfl, k1⟩
  go_wp2_with (fail)
  refine (CP.out _).mono ?_
  rintro e w1 ⟨rfl, rfl⟩
  go_wp2_with (fail)
  refine (CD.out _ (FIN.out _ k1)).mono ?_
  rintro e w2 ⟨rfl, k2⟩
  have K2 := Hid.mk (k1.trans k2)
  clear k1 k2
  go_wp2_with (fail)
  refine (CM.out _).mono ?_
  rintro e w2 ⟨rfl, rfl⟩
  go_wp2_with (fail)
  refine (CN.out _).mono ?_
  rintro e w2 ⟨rfl, rfl⟩
  go_wp2_with (fail)
  refine (HA1.out _ (FIN.out _ K2.out)).mono ?_
  rintro e w3 ⟨rfl, k3⟩
  have K3 := Hid.mk (K2.out.trans k3)
  clear k3
  go_wp2_with (fail)
  refine (HB1.out _ (FIN.out _ K3.out)).mono ?_
  rintro e w4 ⟨rfl, k4⟩
  have K4 := Hid.mk (K3.out.trans k4)
  clear k4
  go_wp2_with (fail)
  refine (HA2.out _ (FIN.out _ K4.out)).mono ?_
  rintro e w5 ⟨rfl, k5⟩
  have K5 := Hid.mk (K4.out.trans k5)
  clear k5
  go_wp2_with (fail)
  refine (HB2.out _ (FIN.out _ K5.out)).mono ?_
  rintro e w6 ⟨rfl, k6⟩
  have K6 := Hid.mk (K5.out.trans k6)
  clear k6
  go_wp2
  go_ret
  exact ⟨ret_bool (show (decide (mm = nn) == (mm == nn)) = true by by_cases h : mm = nn <;> simp [h]), K6.out⟩
end Go.Proofs.YtdnbjbdokppfnaaDoor
