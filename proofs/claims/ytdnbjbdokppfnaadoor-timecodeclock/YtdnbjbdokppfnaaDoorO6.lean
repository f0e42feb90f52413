import Derived.Test.YtdnbjbdokppfnaaDoorO5
namespace Go.Proofs.YtdnbjbdokppfnaaDoor
open Go.RowKit Go.Lib

/-- What is known of a frame when the statement asks its name. -/
structure Ck (r n : Int) (s : ByteArray) (out : Int) (W : Nat) (c H m x f : Int) : Prop where
  c1 : ∀ w, Tb w → Calls Tryd.prog 12 #[.int .i64 r, .int .i64 n] w fun e w' => e = .returned (.tuple #[.string s, .int .i64 0]) ∧ Kept [] w w'
  c2 : ∀ w, Tb w → Calls Tryd.prog 14 #[.int .i64 r, .int .i64 n] w fun e w' => e = .returned (.tuple #[.int .i64 out, .int .i64 0]) ∧ Kept [] w w'
  c3 : ∀ w, Tb w → Calls Tryd.prog 16 #[.int .i64 r, .int .i64 n] w fun e w' => e = .returned (.tuple #[.float .f64 W, .int .i64 0]) ∧ Kept [] w w'
  sz : s.size = 11
  d0 : ∀ u, Calls Tryd.prog 24 #[.string s, .int .i64 0] u fun e w' => e = .returned (.int .i64 H) ∧ Kept [] u w'
  d1 : ∀ u, Calls Tryd.prog 24 #[.string s, .int .i64 3] u fun e w' => e = .returned (.int .i64 m) ∧ Kept [] u w'
  d2 : ∀ u, Calls Tryd.prog 24 #[.string s, .int .i64 6] u fun e w' => e = .returned (.int .i64 x) ∧ Kept [] u w'
  d3 : ∀ u, Calls Tryd.prog 24 #[.string s, .int .i64 9] u fun e w' => e = .returned (.int .i64 f) ∧ Kept [] u w'
  eq : n + out = c * (3600 * H + 60 * m + x) + f
  h0 : 0 ≤ H
  h1 : H ≤ 23
  m0 : 0 ≤ m
  m1 : m ≤ 59
  x0 : 0 ≤ x
  x1 : x ≤ 59
  f0 : 0 ≤ f
  f1 : f < c
theorem ck_of (r n : Int) (h : Rt r) (n0 : 0 ≤ n) (n1 : n < dy r) : ∃ s M k, 0 ≤ M ∧ M < 1440 ∧ 0 ≤ k ∧ k < 60 * rc r ∧ (M % 10 ≠ 0 → rl r ≤ k) ∧ n + (M - M / 10) * rl r = 60 * rc r * M + k ∧ Ck r n s ((M - M / 10) * rl r) (scB r n) (rc r) (M / 60) (M % 60) (k / rc r) (k % rc r) := by
  obtain ⟨M, k, M0, M1, k0, k1, e1, e2, hl⟩ := plc h n0 n1
  obtain ⟨y0, y1, y2, y3⟩ := digits_name (rc r) M k (rl r) h.c5 M0 M1 k0 k1
  obtain ⟨_, _, _, _, z1, z2, z3, z4, z5, z6, z7, z8⟩ := clk_at (rc r) (60 * rc r * M + k) M k h.c5 M0 M1 k0 k1 rfl
  refine ⟨nms (rc r) M k (lm (rl r)), M, k, M0, M1, k0, k1, hl, by rw [← e2]; exact e1, fun w t => Name_yes r n M k w h t n0 n1 M0 M1 k0 k1 e1, fun w t => ?_, fun w t => Seconds_yes r n w h t n0 n1, by rw [nms_nm4, nm4_size], y0, y1, y2, y3, ?_, z1, z2, z3, z4, z5, z6, z7, z8⟩
  · have := Dropped_yes r n w h t n0 n1
    rw [e2] at this
    exact this
  · rw [← e2, e1]
    have e4 := Int.emod_add_mul_ediv k (rc r)
    rw [show 3600 * (M / 60) + 60 * (M % 60) + k / rc r = 60 * M + k / rc r by omega, Int.mul_add, ← Int.mul_assoc, Int.mul_comm (rc r) 60]
    omega

set_option maxHeartbeats 8000000 in
set_option maxRecDepth 1000000 in
theorem clock_any (R0 n : Int) (w : World) (hT : Tb w) (a0 : -9223372036854775808 ≤ R0) (a1 : R0 ≤ 9223372036854775807) (n0 : -9223372036854775808 ≤ n) (n1 : n ≤ 9223372036854775807) :
    Calls Tryd.prog 7 #[.int .i64 R0, .int .i64 n] w fun e w' => e = .returned (.bool true) ∧ Kept [] w w' := by
  have CP := Hid.mk (fun u => place_any R0 7 u a0 a1 (by decide) (by decide))
  have p0 := pick_lo R0 7 (by decide)
  have p1 := pick_hi R0 7 (by decide)
  obtain ⟨a, ea⟩ : ∃ a : Nat, pick R0 7 = a := ⟨(pick R0 7).toNat, by omega⟩
  rw [ea] at CP p0 p1
  have ha : a < 7 := by omega
  have hr : Rt ((a : Int) + 1) := ⟨by omega, by omega⟩
  have CD := Hid.mk (fun u x => PerDay_yes ((a : Int) + 1) u hr x)
  have dd0 := dy_pos hr
  have dd1 := dy_le hr
  have CC := fun u => cnt_cell u a ha
  rw [cnt_rc a ha] at CC
  obtain ⟨r, er⟩ : ∃ r, (a : Int) + 1 = r := ⟨_, rfl⟩
  rw [er] at hr CD dd0 dd1 CC
  have er1 : 1 + (a : Int) = r := by omega
  have er2 : r - 1 = (a : Int) := by omega
  obtain ⟨D, eD⟩ : ∃ D, dy r = D := ⟨_, rfl⟩
  rw [eD] at CD dd0 dd1
  have CN := Hid.mk (fun u => place_any n D u n0 n1 (by omega) (by omega))
  have x0 := pick_lo n D (by omega)
  have x1 := pick_hi n D (by omega)
  obtain ⟨N, eN⟩ : ∃ N : Nat, pick n D = N := ⟨(pick n D).toNat, by omega⟩
  rw [eN] at CN x0 x1
  obtain ⟨s, M, k, M0, M1, k0, k1, hl, hP, C⟩ := ck_of r N hr x0 (by omega)
  have FIN : Hid (∀ w1, Kept [] w w1 → Tb w1) := Hid.mk fun w1 k => hT.keep k
  have CS := Hid.mk (fun u x => shown_any u x)
  have r0 : 1 ≤ r := hr.1
  have r7 : r ≤ 7 := hr.2
  have c24 := hr.pb.c0
  have c60 := hr.pb.c1
  obtain ⟨c, ec⟩ : ∃ c : Nat, rc r = c := ⟨(rc r).toNat, by omega⟩
  obtain ⟨sec, es⟩ : ∃ sec : Nat, 3600 * (M / 60) + 60 * (M % 60) + k / rc r = sec := ⟨(3600 * (M / 60) + 60 * (M % 60) + k / rc r).toNat, by have := C.x0; omega⟩
  obtain ⟨f, ef⟩ : ∃ f : Nat, k % rc r = f := ⟨(k % rc r).toNat, by have := C.f0; omega⟩
  have hsec : sec ≤ 86399 := by have := C.x1; have := C.h1; have := C.m1; omega
  have hfc : f < c := by have := C.f1; omega
  have hEq := C.eq
  rw [es, ef, ec] at hEq
  have hsz := C.sz
  have hsz2 : (s.size : Int) = 11 := by omega
  have ⟨b0, b1, b2, b3, b4, b5⟩ := And.intro C.h0 (And.intro C.h1 (And.intro C.m0 (And.intro C.m1 (And.intro C.x0 C.x1))))
  have C1 := Hid.mk C.c1
  have C2 := Hid.mk C.c2
  have C3 := Hid.mk C.c3
  have D0 := Hid.mk C.d0
  have D1 := Hid.mk C.d1
  have D2 := Hid.mk C.d2
  have D3 := Hid.mk C.d3
  rw [ef] at D3
  have PD : Hid (k = c * (k / rc r) + f) := Hid.mk (by have := Int.emod_add_mul_ediv k (rc r); rw [ef, ec] at this; rw [ec]; omega)
  have hout : 0 ≤ (M - M / 10) * rl r ∧ (M - M / 10) * rl r ≤ 6000 := by
    have q0 := hr.pb.l0
    have q1 := hr.pb.l1
    exact ⟨Int.mul_nonneg (by omega) q0, Int.le_trans (Int.mul_le_mul (show M - M / 10 ≤ 1440 by omega) q1 q0 (by omega)) (by omega)⟩
  have hcs : 0 ≤ (c : Int) * sec ∧ (c : Int) * sec ≤ 60 * 86399 := ⟨Int.mul_nonneg (by omega) (by omega), Int.mul_le_mul (by omega) (by omega) (by omega) (by omega)⟩
  have key : (∃ W Q A R, Fr r N c sec f W Q A R ∧ (r = 4 ∨ r = 7) ∧ (FloatKind.f64.format.order R 4594572339843380019 == some Ordering.lt) = true ∧ (FloatKind.f64.format.order R 13817944376698155827 == some Ordering.gt) = true) ∨
      (∃ W Q A R, Fr r N c sec f W Q A R ∧ r ≠ 4 ∧ r ≠ 7 ∧ (M - M / 10) * rl r = 0 ∧ (FloatKind.f64.format.order R 4517329193108106637 == some Ordering.lt) = true ∧ (FloatKind.f64.format.order R 13740701229962882445 == some Ordering.gt) = true) := by
    by_cases hd : r = 4 ∨ r = 7
    · left
      have hn2 : N < c * 86400 := by
        have : ((c * 86400 : Nat) : Int) = (c : Int) * 86400 := by omega
        rcases hd with e | e <;> (subst e; have h30 : rc _ = (c : Int) := ec; revert h30; first | (rw [show rc 4 = 30 from rfl, show dy 4 = 2589408 from rfl] at *; intro h30; omega) | (rw [show rc 7 = 60 from rfl, show dy 7 = 5178816 from rfl] at *; intro h30; omega))
      have hcast : ((c * sec + f : Nat) : Int) = (c : Int) * sec + f := by rw [Int.natCast_add, Int.natCast_mul]
      obtain ⟨W, Q, A, R, F, o1, o2⟩ := fr_drop r N hd c N sec f ((N : Int) - 1000 * ((M - M / 10) * rl r)) ec rfl (by rw [hcast]; omega) hfc hsec hn2 (by
        rcases hd with e | e
        · subst e; have h30 : (30 : Int) = c := ec; rw [show rc 4 = 30 from rfl, show rl 4 = 2 from rfl] at *; omega
        · subst e; have h60 : (60 : Int) = c := ec; rw [show rc 7 = 60 from rfl, show rl 7 = 4 from rfl] at *; omega) (by
        rcases hd with e | e
        · subst e; have h30 : (30 : Int) = c := ec; rw [show rc 4 = 30 from rfl, show rl 4 = 2 from rfl] at *; omega
        · subst e; have h60 : (60 : Int) = c := ec; rw [show rc 7 = 60 from rfl, show rl 7 = 4 from rfl] at *; omega)
      exact ⟨W, Q, A, R, F, hd, o1, o2⟩
    · right
      have hz : rl r = 0 := by
        rcases hr.cs with e | e | e | e | e | e | e
        · rw [e]; rfl
        · rw [e]; rfl
        · rw [e]; rfl
        · exact absurd (.inl e) hd
        · rw [e]; rfl
        · rw [e]; rfl
        · exact absurd (.inr e) hd
      have hz2 : (M - M / 10) * rl r = 0 := by rw [hz, Int.mul_zero]
      have hcast : ((c * sec + f : Nat) : Int) = (c : Int) * sec + f := by rw [Int.natCast_add, Int.natCast_mul]
      obtain ⟨W, Q, A, R, F, o1, o2⟩ := fr_none r N hr hz c N sec f ec rfl (by omega) hfc hsec
      exact ⟨W, Q, A, R, F, fun e => hd (.inl e), fun e => hd (.inr e), hz2, o1, o2⟩
  obtain ⟨OUT, eO⟩ : ∃ OUT, (M - M / 10) * rl r = OUT := ⟨_, rfl⟩
  rw [eO] at hEq C2 hout key
  obtain ⟨Y, eY⟩ : ∃ Y, (c : Int) * sec = Y := ⟨_, rfl⟩
  rw [eY] at hEq hcs
  obtain ⟨P, eP⟩ : ∃ P, Y + (f : Int) = P := ⟨_, rfl⟩
  rw [eP] at hEq
  rw [ec] at CC
  obtain ⟨H, eH⟩ : ∃ H, M / 60 = H := ⟨_, rfl⟩
  obtain ⟨m, em⟩ : ∃ m, M % 60 = m := ⟨_, rfl⟩
  obtain ⟨x, ex⟩ : ∃ x, k / rc r = x := ⟨_, rfl⟩
  rw [eH] at D0 es b0 b1
  rw [em] at D1 es b2 b3
  rw [ex] at D2 es b4 b5
  obtain ⟨h1o, h2o⟩ := hout
  obtain ⟨h1c, h2c⟩ := hcs
  have NN0 : (0 : Int) ≤ N := by omega
  have NN1 : (N : Int) ≤ 5184000 := by omega
  have P0 : 0 ≤ P := by omega
  have P1 : P ≤ 6000000 := by omega
  have hf60 : (f : Int) ≤ 60 := by omega
  clear C PD hP eO eH em ex hl hr eD M0 M1 k0 k1 hT a0 a1 n0 n1 ea eN ec ef er
  rcases key with ⟨W, Q, A, R, F, hd, o1, o2⟩ | ⟨W, Q, A, R, F, hd1, hd2, hz, o1, o2⟩
  · have hq : ∀ (u : World) (t : TypeId), Sem.run Tryd.prog (binOp .quo t (.float .f64 (floatOfInt .f64 (f : Int))) (.float .f64 (floatOfInt .f64 (c : Int)))) u = .ok (.float .f64 Q) u := fun u t => run_float_arith u .quo t .f64 _ _ Q F.q
    have hs : ∀ (u : World) (t : TypeId), Sem.run Tryd.prog (binOp .add t (.float .f64 (floatOfInt .f64 (sec : Int))) (.float .f64 Q)) u = .ok (.float .f64 A) u := fun u t => run_float_arith u .add t .f64 _ _ A F.s
    have hb : ∀ (u : World) (t : TypeId), Sem.run Tryd.prog (binOp .sub t (.float .f64 W) (.float .f64 A)) u = .ok (.float .f64 R) u := fun u t => run_float_arith u .sub t .f64 _ _ R F.d
    rw [F.w] at C3
    clear F
    rcases hd with rfl | rfl
    all_goals
      go_enter Tryd.func7, Tryd.ntmps7
      go_wp2_with (fail)
      refine (CS.out _ (FIN.out _ (Kept.refl _ _))).mono ?_
      rintro e w1 ⟨rfl, k1⟩
      go_wp2_with (fail)
      refine (CP.out _).mono ?_
      rintro e w1 ⟨rfl, rfl⟩
      go_wp2_with (fail)
      refine (CD.out _ (FIN.out _ k1)).mono ?_
      rintro e w2 ⟨rfl, k2⟩
      have K2 := Hid.mk (k1.trans k2)
      clear k1 k2
      go_wp2_with (fail)
      refine (CN.out _).mono ?_
      rintro e w2 ⟨rfl, rfl⟩
      go_wp2_with (fail)
      refine (C1.out _ (FIN.out _ K2.out)).mono ?_
      rintro e w3 ⟨rfl, k3⟩
      have K3 := Hid.mk (K2.out.trans k3)
      clear k3
      go_wp2_with (fail)
      refine (C2.out _ (FIN.out _ K3.out)).mono ?_
      rintro e w4 ⟨rfl, k4⟩
      have K4 := Hid.mk (K3.out.trans k4)
      clear k4
      go_wp2_with (fail)
      refine (C3.out _ (FIN.out _ K4.out)).mono ?_
      rintro e w5 ⟨rfl, k5⟩
      have K5 := Hid.mk (K4.out.trans k5)
      clear k5
      go_wp2_with (fail)
      obtain ⟨w6, e6⟩ : ∃ w6, w5.alloc (.cells #[.int .i64 24, .int .i64 25, .int .i64 30, .int .i64 30, .int .i64 50, .int .i64 60, .int .i64 60] 3 (0, 0)) = w6 := ⟨_, rfl⟩
      have K6 : Hid (Kept [] w w6) := Hid.mk (by rw [← e6]; exact K5.out.alloc _)
      (try rw [e6])
      refine (D0.out _).mono ?_
      rintro e w7 ⟨rfl, k7⟩
      have K7 := Hid.mk (K6.out.trans k7)
      clear k7 e6
      go_wp2_with (fail)
      refine (D1.out _).mono ?_
      rintro e w8 ⟨rfl, k8⟩
      have K8 := Hid.mk (K7.out.trans k8)
      clear k8
      go_wp2_with (fail)
      refine (D2.out _).mono ?_
      rintro e w9 ⟨rfl, k9⟩
      have K9 := Hid.mk (K8.out.trans k9)
      clear k9
      go_wp2_with (fail)
      refine (D3.out _).mono ?_
      rintro e w10 ⟨rfl, k10⟩
      have K10 := Hid.mk (K9.out.trans k10)
      clear k10
      go_wp2_with (fail)
      refine (D3.out _).mono ?_
      rintro e w11 ⟨rfl, k11⟩
      have K11 := Hid.mk (K10.out.trans k11)
      clear k11
      go_wp2
      go_ret
      exact ⟨by first | rfl | simp, K11.out⟩
  · have hq : ∀ (u : World) (t : TypeId), Sem.run Tryd.prog (binOp .quo t (.float .f64 (floatOfInt .f64 (f : Int))) (.float .f64 (floatOfInt .f64 (c : Int)))) u = .ok (.float .f64 Q) u := fun u t => run_float_arith u .quo t .f64 _ _ Q F.q
    have hs : ∀ (u : World) (t : TypeId), Sem.run Tryd.prog (binOp .add t (.float .f64 (floatOfInt .f64 (sec : Int))) (.float .f64 Q)) u = .ok (.float .f64 A) u := fun u t => run_float_arith u .add t .f64 _ _ A F.s
    have hb : ∀ (u : World) (t : TypeId), Sem.run Tryd.prog (binOp .sub t (.float .f64 W) (.float .f64 A)) u = .ok (.float .f64 R) u := fun u t => run_float_arith u .sub t .f64 _ _ R F.d
    rw [F.w] at C3
    subst hz
    have t4 : (r != 4) = true := by simpa using hd1
    have t7 : (r != 7) = true := by simpa using hd2
    clear F hd1 hd2
    go_enter Tryd.func7, Tryd.ntmps7
    go_wp2_with (fail)
    refine (CS.out _ (FIN.out _ (Kept.refl _ _))).mono ?_
    rintro e w1 ⟨rfl, k1⟩
    go_wp2_with (fail)
    refine (CP.out _).mono ?_
    rintro e w1 ⟨rfl, rfl⟩
    go_wp2_with (fail)
    refine (CD.out _ (FIN.out _ k1)).mono ?_
    rintro e w2 ⟨rfl, k2⟩
    have K2 := Hid.mk (k1.trans k2)
    clear k1 k2
    go_wp2_with (fail)
    refine (CN.out _).mono ?_
    rintro e w2 ⟨rfl, rfl⟩
    go_wp2_with (fail)
    refine (C1.out _ (FIN.out _ K2.out)).mono ?_
    rintro e w3 ⟨rfl, k3⟩
    have K3 := Hid.mk (K2.out.trans k3)
    clear k3
    go_wp2_with (fail)
    refine (C2.out _ (FIN.out _ K3.out)).mono ?_
    rintro e w4 ⟨rfl, k4⟩
    have K4 := Hid.mk (K3.out.trans k4)
    clear k4
    go_wp2_with (fail)
    refine (C3.out _ (FIN.out _ K4.out)).mono ?_
    rintro e w5 ⟨rfl, k5⟩
    have K5 := Hid.mk (K4.out.trans k5)
    clear k5
    go_wp2_with (fail)
    obtain ⟨w6, e6⟩ : ∃ w6, w5.alloc (.cells #[.int .i64 24, .int .i64 25, .int .i64 30, .int .i64 30, .int .i64 50, .int .i64 60, .int .i64 60] 3 (0, 0)) = w6 := ⟨_, rfl⟩
    have K6 : Hid (Kept [] w w6) := Hid.mk (by rw [← e6]; exact K5.out.alloc _)
    (try rw [e6])
    refine (D0.out _).mono ?_
    rintro e w7 ⟨rfl, k7⟩
    have K7 := Hid.mk (K6.out.trans k7)
    clear k7 e6
    go_wp2_with (fail)
    refine (D1.out _).mono ?_
    rintro e w8 ⟨rfl, k8⟩
    have K8 := Hid.mk (K7.out.trans k8)
    clear k8
    go_wp2_with (fail)
    refine (D2.out _).mono ?_
    rintro e w9 ⟨rfl, k9⟩
    have K9 := Hid.mk (K8.out.trans k9)
    clear k9
    go_wp2_with (fail)
    refine (D3.out _).mono ?_
    rintro e w10 ⟨rfl, k10⟩
    have K10 := Hid.mk (K9.out.trans k10)
    clear k10
    go_wp2_with (fail)
    refine (D3.out _).mono ?_
    rintro e w11 ⟨rfl, k11⟩
    have K11 := Hid.mk (K10.out.trans k11)
    clear k11
    go_wp2
    go_ret
    exact ⟨by first | rfl | simp, K11.out⟩
end Go.Proofs.YtdnbjbdokppfnaaDoor
