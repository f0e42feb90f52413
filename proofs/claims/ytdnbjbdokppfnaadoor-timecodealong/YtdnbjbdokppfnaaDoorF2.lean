import Derived.Test.YtdnbjbdokppfnaaDoorF1
namespace Go.Proofs.YtdnbjbdokppfnaaDoor
open Go.RowKit Go.Lib

/-- What Convert answers where both are rates and n is a frame. -/
theorem Convert_u (f t n : Int) (hf : Rt f) (ht : Rt t) (n0 : 0 ≤ n) (n1 : n < dy f) : ∃ x E, (∀ w, Tb w → Calls Tryd.prog 21 #[.int .i64 f, .int .i64 t, .int .i64 n] w fun e w' => e = .returned (.tuple #[.int .i64 x, .int .i64 E]) ∧ Kept [] w w') ∧ ((cv f t n < dy t ∧ x = cv f t n ∧ E = 0) ∨ (dy t ≤ cv f t n ∧ x = 0 ∧ E = 184)) := by
  by_cases h : cv f t n < dy t
  · exact ⟨_, _, fun w hT => Convert_yes f t n w hf ht hT n0 n1 h, .inl ⟨h, rfl, rfl⟩⟩
  · exact ⟨_, _, fun w hT => Convert_far f t n w hf ht hT n0 n1 h, .inr ⟨by omega, rfl, rfl⟩⟩

set_option maxHeartbeats 8000000 in
set_option maxRecDepth 1000000 in
theorem along_any (F T m n : Int) (w : World) (hT : Tb w) (F0 : -9223372036854775808 ≤ F) (F1 : F ≤ 9223372036854775807) (T0 : -9223372036854775808 ≤ T) (T1 : T ≤ 9223372036854775807) (m0 : -9223372036854775808 ≤ m) (m1 : m ≤ 9223372036854775807) (n0 : -9223372036854775808 ≤ n) (n1 : n ≤ 9223372036854775807) :
    Calls Tryd.prog 8 #[.agg #[.int .i64 F, .int .i64 T], .int .i64 m, .int .i64 n] w fun e w' => e = .returned (.bool true) ∧ Kept [] w w' := by
  have HT := Hid.mk hT
  have CP1 := Hid.mk (fun u => place_any F 7 u F0 F1 (by decide) (by decide))
  have CP2 := Hid.mk (fun u => place_any T 7 u T0 T1 (by decide) (by decide))
  have p0 := pick_lo F 7 (by decide)
  have p1 := pick_hi F 7 (by decide)
  have q0 := pick_lo T 7 (by decide)
  have q1 := pick_hi T 7 (by decide)
  obtain ⟨a, ea⟩ : ∃ a : Nat, pick F 7 = a := ⟨(pick F 7).toNat, by omega⟩
  obtain ⟨b, eb⟩ : ∃ a : Nat, pick T 7 = a := ⟨(pick T 7).toNat, by omega⟩
  rw [ea] at CP1 p0 p1
  rw [eb] at CP2 q0 q1
  have ha : a < 7 := by omega
  have hb : b < 7 := by omega
  have r1 : Rt ((a : Int) + 1) := ⟨by omega, by omega⟩
  have r2 : Rt ((b : Int) + 1) := ⟨by omega, by omega⟩
  have CD := Hid.mk (fun u x => PerDay_yes ((a : Int) + 1) u r1 x)
  have d0 := dy_pos r1
  have d1 := dy_le r1
  obtain ⟨D, eD⟩ : ∃ D, dy ((a : Int) + 1) = D := ⟨_, rfl⟩
  rw [eD] at CD d0 d1
  have CM := Hid.mk (fun u => place_any m D u m0 m1 (by omega) (by omega))
  have CN := Hid.mk (fun u => place_any n D u n0 n1 (by omega) (by omega))
  have x0 := pick_lo m D (by omega)
  have x1 := pick_hi m D (by omega)
  have y0 := pick_lo n D (by omega)
  have y1 := pick_hi n D (by omega)
  generalize pick m D = M at *
  generalize pick n D = K at *
  obtain ⟨lo, hi, hlh⟩ : ∃ lo hi, (K < M ∧ lo = K ∧ hi = M) ∨ (M ≤ K ∧ lo = M ∧ hi = K) := by
    by_cases h : K < M
    · exact ⟨_, _, .inl ⟨h, rfl, rfl⟩⟩
    · exact ⟨_, _, .inr ⟨by omega, rfl, rfl⟩⟩
  obtain ⟨v1, E1, C1, g1⟩ := Convert_u (a + 1) (b + 1) lo r1 r2 (by omega) (by omega)
  obtain ⟨v2, E2, C2, g2⟩ := Convert_u (a + 1) (b + 1) hi r1 r2 (by omega) (by omega)
  have hmn := cv_mono (a + 1) (b + 1) lo hi r1 r2 (by omega)
  have hnn := cv_nonneg (a + 1) (b + 1) hi r1 r2 (by omega)
  have hbk := cv_back a b hi ha hb
  obtain ⟨Z, eZ⟩ : ∃ Z, cv (a + 1) (b + 1) hi = Z := ⟨_, rfl⟩
  rw [eZ] at hmn hnn hbk g2
  have HC1 := Hid.mk C1
  have HC2 := Hid.mk C2
  have HC3 : Hid (∀ u, Tb u → Calls Tryd.prog 21 #[.int .i64 (a + 1), .int .i64 (a + 1), .int .i64 hi] u fun e w' => e = .returned (.tuple #[.int .i64 hi, .int .i64 0]) ∧ Kept [] u w') := Hid.mk fun u t => by
    have := Convert_yes (a + 1) (a + 1) hi u r1 r1 t (by omega) (by omega) (by rw [cv_same _ _ r1]; omega)
    rw [cv_same _ _ r1] at this
    exact this
  have HC4 : Hid (¬ slw b < slw a → Z < dy (b + 1) → ∃ d, (d = hi ∨ d = hi - 1) ∧ ∀ u, Tb u → Calls Tryd.prog 21 #[.int .i64 (b + 1), .int .i64 (a + 1), .int .i64 Z] u fun e w' => e = .returned (.tuple #[.int .i64 d, .int .i64 0]) ∧ Kept [] u w') := Hid.mk fun hs hz =>
    ⟨_, hbk hs, fun u t => Convert_yes (b + 1) (a + 1) Z u r2 r1 t hnn hz (by have := hbk hs; omega)⟩
  have sc := slw_cell
  have sa := fun u => sc u a ha
  have sb := fun u => sc u b hb
  obtain ⟨S1, eS1⟩ : ∃ x, slw a = x := ⟨_, rfl⟩
  obtain ⟨S2, eS2⟩ : ∃ x, slw b = x := ⟨_, rfl⟩
  rw [eS1] at sa HC4
  rw [eS2] at sb HC4
  obtain ⟨R, eR⟩ : ∃ R, (a : Int) + 1 = R := ⟨_, rfl⟩
  obtain ⟨Q, eQ⟩ : ∃ R, (b : Int) + 1 = R := ⟨_, rfl⟩
  rw [eR] at CD HC1 HC2 HC3 HC4
  rw [eQ] at HC1 HC2 HC4 g1 g2
  have eR1 : 1 + (a : Int) = R := by omega
  have eQ1 : 1 + (b : Int) = Q := by omega
  have eR2 : R - 1 = (a : Int) := by omega
  have eQ2 : Q - 1 = (b : Int) := by omega
  have R0 : 1 ≤ R := by omega
  have R1 : R ≤ 7 := by omega
  have Q0 : 1 ≤ Q := by omega
  have Q1 : Q ≤ 7 := by omega
  have hi0 : 0 ≤ hi := by omega
  have hi1 : hi < D := by omega
  generalize dy Q = G at *
  rw [eR] at g1
  rw [eR, eQ] at hmn
  generalize cv R Q lo = Y at *
  have FIN : Hid (∀ w1, Kept [] w w1 → Tb w1) := Hid.mk fun w1 k => HT.out.keep k
  clear hT C1 C2 F0 F1 T0 T1 m0 m1 n0 n1 p0 p1 q0 q1 ea eb r1 r2 eD hnn hbk eZ sc eS1 eS2 eR eQ
  obtain ⟨w0, e0⟩ : ∃ w0, w.alloc (.cells #[.int .i64 F, .int .i64 T] 51 (0, 0)) = w0 := ⟨_, rfl⟩
  have b0 := blk_new w #[.int .i64 F, .int .i64 T] 51
  have k0 : Kept [] w w0 := by rw [← e0]; exact alloc_kept _ _
  rw [e0] at b0
  have CS := Hid.mk (fun u x => shown_any u x)
  go_enter Tryd.func8, Tryd.ntmps8
  go_wp2_with (go_at_call 9; refine (CS.out _ (FIN.out _ k0)).mono ?_; rintro e w1 ⟨rfl, k1⟩; have z1 : w1.cell? ⟨w.heap.size, 0, none⟩ = some (.int .i64 F) := by { have := k1.heap b0 (by simp); simp [World.cell?, this] }; have z2 : w1.cell? ⟨w.heap.size, 1, none⟩ = some (.int .i64 T) := by { have := k1.heap b0 (by simp); simp [World.cell?, this] })
  refine (CP1.out _).mono ?_
  rintro e _ ⟨rfl, rfl⟩
  go_wp2_with (fail)
  refine (CP2.out _).mono ?_
  rintro e _ ⟨rfl, rfl⟩
  go_wp2_with (fail)
  have K1 := k0.trans k1
  refine (CD.out _ (FIN.out _ K1)).mono ?_
  rintro e w2 ⟨rfl, k2⟩
  have K2 := Hid.mk (K1.trans k2)
  clear k0 k1 k2 z1 z2 b0 K1 e0
  go_wp2_with (fail)
  refine (CM.out _).mono ?_
  rintro e w3 ⟨rfl, rfl⟩
  go_wp2_with (fail)
  refine (CN.out _).mono ?_
  rintro e w4 ⟨rfl, rfl⟩
  simp only []
  clear CM CN CP1 CP2 CD CS
  have HG : Hid ((E2 = 0 ∧ E1 = 0 ∧ v2 = Z ∧ Z < G ∧ v1 ≤ v2) ∨ (E2 = 184 ∧ (E1 = 0 ∨ E1 = 184))) := Hid.mk (by omega)
  rcases hlh with ⟨hc, rfl, rfl⟩ | ⟨hc, rfl, rfl⟩
  all_goals
    clear g1 g2 hmn
    go_wp2_with (fail)
    refine (HC1.out _ (FIN.out _ K2.out)).mono ?_
    rintro e w5 ⟨rfl, k5⟩
    have K5 := Hid.mk (K2.out.trans k5)
    clear k5 K2
    go_wp2_with (fail)
    refine (HC2.out _ (FIN.out _ K5.out)).mono ?_
    rintro e w6 ⟨rfl, k6⟩
    have K6 := Hid.mk (K5.out.trans k6)
    clear k6 K5
    go_wp2_with (fail)
    refine (HC3.out _ (FIN.out _ K6.out)).mono ?_
    rintro e w7 ⟨rfl, k7⟩
    have K7 := Hid.mk (K6.out.trans k7)
    clear k7 K6 HC1 HC2 HC3
    rcases HG.out with ⟨rfl, rfl, rfl, hz, hv⟩ | ⟨rfl, rfl | rfl⟩
    · clear HG
      have t1 : ¬ v2 < v1 := by omega
      by_cases hs : S2 < S1
      · go_wp2_with (fail)
        go_quiet (fail)
        go_wp2
        go_ret
        exact ⟨rfl, (K7.out.alloc _).drewN _⟩
      · obtain ⟨d, hd, C4⟩ := HC4.out (by omega) hz
        have HC := Hid.mk C4
        have hdd := Hid.mk hd
        clear C4 hd HC4
        go_wp2_with (fail)
        go_quiet (fail)
        go_wp2_with (fail)
        obtain ⟨w8, e8⟩ : ∃ w8, (w7.alloc (.cells #[.int .i64 24024000, .int .i64 25025000, .int .i64 30030000, .int .i64 30000000, .int .i64 50050000, .int .i64 60060000, .int .i64 60000000] 3 (0, 0))).drewN nq = w8 := ⟨_, rfl⟩
        have K8 : Hid (Kept [] w w8) := Hid.mk (by rw [← e8]; exact (K7.out.alloc _).drewN _)
        rw [e8]
        clear e8
        refine (HC.out _ (FIN.out _ K8.out)).mono ?_
        rintro e w9 ⟨rfl, k9⟩
        rcases hdd.out with rfl | rfl
        · go_wp2
          go_ret
          exact ⟨rfl, K8.out.trans k9⟩
        · have t3 : (hi - 1 == hi) = false := by simp; omega
          go_wp2
          go_ret
          exact ⟨by simp, K8.out.trans k9⟩
    · clear HG
      go_wp2_with (fail)
      go_quiet (fail)
      go_wp2
      go_ret
      exact ⟨rfl, (K7.out.alloc _).drewN _⟩
    · clear HG
      go_wp2_with (fail)
      go_quiet (fail)
      go_wp2
      go_ret
      exact ⟨rfl, (K7.out.alloc _).drewN _⟩
end Go.Proofs.YtdnbjbdokppfnaaDoor
