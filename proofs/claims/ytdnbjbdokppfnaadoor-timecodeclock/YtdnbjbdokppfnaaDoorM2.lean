import Derived.Test.YtdnbjbdokppfnaaDoorM1
namespace Go.Proofs.YtdnbjbdokppfnaaDoor
open Go.RowKit Go.Lib

theorem u8_in (x : Int) (x0 : 0 ≤ x) (x1 : x ≤ 9) : IntKind.u8.wrap (48 + x - 48) = x := by simp only [IntKind.wrap, IntKind.bits, IntKind.signed]; simp; omega
set_option maxHeartbeats 4000000 in
set_option maxRecDepth 100000 in
theorem value_any (s : ByteArray) (k : Nat) (hk4 : k = 0 ∨ k = 3 ∨ k = 6 ∨ k = 9) (x y : Int) (w : World) (hs : s.size = 11) (hx : bt s k = 48 + x) (hy : bt s (k + 1) = 48 + y) (x0 : 0 ≤ x) (x1 : x ≤ 9) (y0 : 0 ≤ y) (y1 : y ≤ 9) :
    Calls Tryd.prog 45 #[.string s, .int .i64 k] w fun e w' => e = .returned (.int .i64 (10 * x + y)) ∧ Kept [] w w' := by
  have s1 := u8_in x x0 x1
  have s2 := u8_in y y0 y1
  have q1 : 48 + x - 48 = x := by omega
  have q2 : 48 + y - 48 = y := by omega
  have g1 := bt_get s k (by omega)
  have g2 := bt_get s (k + 1) (by omega)
  rw [hx] at g1
  rw [hy] at g2
  clear hx hy
  rcases hk4 with rfl | rfl | rfl | rfl
  all_goals
    simp only [Nat.zero_add, Nat.reduceAdd] at g1 g2
    go_enter Tryd.func45, Tryd.ntmps45
    go_wp2_with (fail)
    go_quiet (fail)
    go_wp2
    go_ret
    exact ⟨rfl, (Kept.refl _ _).drewN _⟩
theorem value_fv (l : Int) (s : ByteArray) (j : Nat) (w : World) (h : Gd l s) (hj : j < 4) : Calls Tryd.prog 45 #[.string s, .int .i64 ((3 * j : Nat) : Int)] w fun e w' => e = .returned (.int .i64 (fv s 11 j)) ∧ Kept [] w w' := by
  have a := ok_dig (h.2 (3 * j) (by omega)) (by omega)
  have b := ok_dig (h.2 (3 * j + 1) (by omega)) (by omega)
  have := value_any s (3 * j) (by omega) (bt s (3 * j) - 48) (bt s (3 * j + 1) - 48) w h.1 (by omega) (by omega) (by omega) (by omega) (by omega) (by omega)
  have e : fv s 11 j = 10 * (bt s (3 * j) - 48) + (bt s (3 * j + 1) - 48) := by unfold fv; rw [if_neg (by omega), if_neg (by omega)]
  rw [e]
  exact this
set_option maxHeartbeats 2000000 in
theorem rTold_no (r : Int) (s : ByteArray) (w : World) (h : r < 1 ∨ 7 < r) : Calls Tryd.prog 20 #[.int .i64 r, .string s] w fun e w' => e = .returned (.tuple #[.int .i64 0, .int .i64 0, .int .i64 181]) ∧ w' = w := by
  have C1 := Hid.mk (fun u => rRate_no r u h)
  clear h
  go_enter Tryd.func20, Tryd.ntmps20
  go_wp2_with (go_at_call 27; refine (C1.out _).mono ?_; rintro e w1 ⟨rfl, rfl⟩)
  go_ret3
  exact ⟨rfl, rfl⟩
theorem formed_bd (r : Int) (s : ByteArray) (k : Nat) (w : World) (h : Rt r) (hs : s.size ≤ maxLen) (hb : Bd (rl r) s k) : Calls Tryd.prog 44 #[.int .i64 r, .string s] w fun e w' => e = .returned (.int .i64 k) ∧ Kept [] w w' :=
  (formed_any r s w h hs).mono fun e w' ⟨h1, h2⟩ => by
    rcases h1 with ⟨g, _⟩ | ⟨k', hb', rfl⟩
    · exact (gd_bd g hb).elim
    · rw [bd_bd hb hb']; exact ⟨rfl, h2⟩
theorem formed_gd (r : Int) (s : ByteArray) (w : World) (h : Rt r) (hs : s.size ≤ maxLen) (hg : Gd (rl r) s) : Calls Tryd.prog 44 #[.int .i64 r, .string s] w fun e w' => e = .returned (.int .i64 (-1)) ∧ Kept [] w w' :=
  (formed_any r s w h hs).mono fun e w' ⟨h1, h2⟩ => by
    rcases h1 with ⟨_, rfl⟩ | ⟨k', hb', rfl⟩
    · exact ⟨rfl, h2⟩
    · exact (gd_bd hg hb').elim
set_option maxHeartbeats 2000000 in
theorem rTold_bd (r : Int) (s : ByteArray) (k : Nat) (w : World) (h : Rt r) (hs : s.size ≤ maxLen) (hb : Bd (rl r) s k) : Calls Tryd.prog 20 #[.int .i64 r, .string s] w fun e w' => e = .returned (.tuple #[.int .i64 0, .int .i64 k, .int .i64 182]) ∧ Kept [] w w' := by
  have C1 := Hid.mk (fun u => rRate_yes r u h)
  have C2 := Hid.mk (fun u => formed_bd r s k u h hs hb)
  clear h hs hb
  go_enter Tryd.func20, Tryd.ntmps20
  go_wp2_with (first | (go_at_call 27; refine (C1.out _).mono ?_; rintro e w1 ⟨rfl, rfl⟩) | (go_at_call 44; refine (C2.out _).mono ?_; rintro e w2 ⟨rfl, k2⟩))
  go_ret3
  exact ⟨rfl, k2⟩
set_option maxHeartbeats 8000000 in
set_option maxRecDepth 1000000 in
theorem rTold_bad (r : Int) (s : ByteArray) (w : World) (h : Rt r) (hs : s.size ≤ maxLen) (hg : Gd (rl r) s) (hE : ckE (rc r) (fv s 11 0) (fv s 11 1) (fv s 11 2) (fv s 11 3) (rl r) ≠ 0) :
    Calls Tryd.prog 20 #[.int .i64 r, .string s] w fun e w' => e = .returned (.tuple #[.int .i64 0, .int .i64 (ckA (rc r) (fv s 11 0) (fv s 11 1) (fv s 11 2) (fv s 11 3) (rl r)), .int .i64 (ckE (rc r) (fv s 11 0) (fv s 11 1) (fv s 11 2) (fv s 11 3) (rl r))]) ∧ Kept [] w w' := by
  have C1 := Hid.mk (fun u => rRate_yes r u h)
  have C2 := Hid.mk (fun u => formed_gd r s u h hs hg)
  have V0 : Hid (∀ u, Calls Tryd.prog 45 #[.string s, .int .i64 0] u fun e w' => e = .returned (.int .i64 (fv s 11 0)) ∧ Kept [] u w') := Hid.mk (fun u => value_fv (rl r) s 0 u hg (by decide))
  have V1 : Hid (∀ u, Calls Tryd.prog 45 #[.string s, .int .i64 3] u fun e w' => e = .returned (.int .i64 (fv s 11 1)) ∧ Kept [] u w') := Hid.mk (fun u => value_fv (rl r) s 1 u hg (by decide))
  have V2 : Hid (∀ u, Calls Tryd.prog 45 #[.string s, .int .i64 6] u fun e w' => e = .returned (.int .i64 (fv s 11 2)) ∧ Kept [] u w') := Hid.mk (fun u => value_fv (rl r) s 2 u hg (by decide))
  have V3 : Hid (∀ u, Calls Tryd.prog 45 #[.string s, .int .i64 9] u fun e w' => e = .returned (.int .i64 (fv s 11 3)) ∧ Kept [] u w') := Hid.mk (fun u => value_fv (rl r) s 3 u hg (by decide))
  have C3 := Hid.mk (fun u => rcount_any r u h)
  have C4 := Hid.mk (fun m u => rleft_any r m u h)
  have fb := fun j => fv_bd hg.2 j
  obtain ⟨a0, a1, _⟩ := fb 0
  obtain ⟨b0, b1, _⟩ := fb 1
  obtain ⟨c0, c1, _⟩ := fb 2
  obtain ⟨d0, d1, _⟩ := fb 3
  have cc0 := h.pb.c0
  have cc1 := h.pb.c1
  have ll0 := h.pb.l0
  have ll1 := h.pb.l1
  have LF : Hid (∀ m, lft r m = if m % 10 = 0 then 0 else rl r) := Hid.mk fun m => rfl
  clear h hs hg fb
  generalize fv s 11 0 = H at *
  generalize fv s 11 1 = m at *
  generalize fv s 11 2 = x at *
  generalize fv s 11 3 = f at *
  generalize rc r = c at *
  generalize rl r = l at *
  have C5 := Hid.mk (fun u => C4.out (60 * H + m) u (by omega) (by omega))
  unfold ckA ckE at *
  by_cases h1 : 23 < H
  · simp only [if_pos h1] at hE ⊢
    go_enter Tryd.func20, Tryd.ntmps20
    go_wp2_with (fail)
    refine (C1.out _).mono ?_
    rintro e w1 ⟨rfl, rfl⟩
    go_wp2_with (fail)
    refine (C2.out _).mono ?_
    rintro e w2 ⟨rfl, k2⟩
    go_wp2_with (fail)
    refine (V0.out _).mono ?_
    rintro e w3 ⟨rfl, k3⟩
    go_wp2_with (fail)
    refine (V1.out _).mono ?_
    rintro e w4 ⟨rfl, k4⟩
    go_wp2_with (fail)
    refine (V2.out _).mono ?_
    rintro e w5 ⟨rfl, k5⟩
    go_wp2_with (fail)
    refine (V3.out _).mono ?_
    rintro e w6 ⟨rfl, k6⟩
    have HK := Hid.mk ((((k2.trans k3).trans k4).trans k5).trans k6)
    clear k2 k3 k4 k5 k6
    go_wp2
    go_ret3
    exact ⟨rfl, HK.out⟩
  simp only [if_neg h1] at hE ⊢
  by_cases h2 : 59 < m
  · simp only [if_pos h2] at hE ⊢
    go_enter Tryd.func20, Tryd.ntmps20
    go_wp2_with (fail)
    refine (C1.out _).mono ?_
    rintro e w1 ⟨rfl, rfl⟩
    go_wp2_with (fail)
    refine (C2.out _).mono ?_
    rintro e w2 ⟨rfl, k2⟩
    go_wp2_with (fail)
    refine (V0.out _).mono ?_
    rintro e w3 ⟨rfl, k3⟩
    go_wp2_with (fail)
    refine (V1.out _).mono ?_
    rintro e w4 ⟨rfl, k4⟩
    go_wp2_with (fail)
    refine (V2.out _).mono ?_
    rintro e w5 ⟨rfl, k5⟩
    go_wp2_with (fail)
    refine (V3.out _).mono ?_
    rintro e w6 ⟨rfl, k6⟩
    have HK := Hid.mk ((((k2.trans k3).trans k4).trans k5).trans k6)
    clear k2 k3 k4 k5 k6
    go_wp2
    go_ret3
    exact ⟨rfl, HK.out⟩
  simp only [if_neg h2] at hE ⊢
  by_cases h3 : 59 < x
  · simp only [if_pos h3] at hE ⊢
    go_enter Tryd.func20, Tryd.ntmps20
    go_wp2_with (fail)
    refine (C1.out _).mono ?_
    rintro e w1 ⟨rfl, rfl⟩
    go_wp2_with (fail)
    refine (C2.out _).mono ?_
    rintro e w2 ⟨rfl, k2⟩
    go_wp2_with (fail)
    refine (V0.out _).mono ?_
    rintro e w3 ⟨rfl, k3⟩
    go_wp2_with (fail)
    refine (V1.out _).mono ?_
    rintro e w4 ⟨rfl, k4⟩
    go_wp2_with (fail)
    refine (V2.out _).mono ?_
    rintro e w5 ⟨rfl, k5⟩
    go_wp2_with (fail)
    refine (V3.out _).mono ?_
    rintro e w6 ⟨rfl, k6⟩
    have HK := Hid.mk ((((k2.trans k3).trans k4).trans k5).trans k6)
    clear k2 k3 k4 k5 k6
    go_wp2
    go_ret3
    exact ⟨rfl, HK.out⟩
  simp only [if_neg h3] at hE ⊢
  by_cases h4 : c ≤ f
  · simp only [if_pos h4] at hE ⊢
    go_enter Tryd.func20, Tryd.ntmps20
    go_wp2_with (fail)
    refine (C1.out _).mono ?_
    rintro e w1 ⟨rfl, rfl⟩
    go_wp2_with (fail)
    refine (C2.out _).mono ?_
    rintro e w2 ⟨rfl, k2⟩
    go_wp2_with (fail)
    refine (V0.out _).mono ?_
    rintro e w3 ⟨rfl, k3⟩
    go_wp2_with (fail)
    refine (V1.out _).mono ?_
    rintro e w4 ⟨rfl, k4⟩
    go_wp2_with (fail)
    refine (V2.out _).mono ?_
    rintro e w5 ⟨rfl, k5⟩
    go_wp2_with (fail)
    refine (V3.out _).mono ?_
    rintro e w6 ⟨rfl, k6⟩
    have HK := Hid.mk ((((k2.trans k3).trans k4).trans k5).trans k6)
    clear k2 k3 k4 k5 k6
    go_wp2_with (go_at_call 28; refine (C3.out _).mono ?_; rintro e w7 ⟨rfl, rfl⟩)
    go_ret3
    exact ⟨rfl, HK.out⟩
  simp only [if_neg h4] at hE ⊢
  by_cases h5 : m % 10 ≠ 0 ∧ x = 0 ∧ f < l
  · simp only [if_pos h5] at hE ⊢
    obtain ⟨h6, rfl, h7⟩ := h5
    rw [LF.out, if_neg (by omega)] at C5
    go_enter Tryd.func20, Tryd.ntmps20
    go_wp2_with (fail)
    refine (C1.out _).mono ?_
    rintro e w1 ⟨rfl, rfl⟩
    go_wp2_with (fail)
    refine (C2.out _).mono ?_
    rintro e w2 ⟨rfl, k2⟩
    go_wp2_with (fail)
    refine (V0.out _).mono ?_
    rintro e w3 ⟨rfl, k3⟩
    go_wp2_with (fail)
    refine (V1.out _).mono ?_
    rintro e w4 ⟨rfl, k4⟩
    go_wp2_with (fail)
    refine (V2.out _).mono ?_
    rintro e w5 ⟨rfl, k5⟩
    go_wp2_with (fail)
    refine (V3.out _).mono ?_
    rintro e w6 ⟨rfl, k6⟩
    have HK := Hid.mk ((((k2.trans k3).trans k4).trans k5).trans k6)
    clear k2 k3 k4 k5 k6
    go_wp2_with (first | (go_at_call 28; refine (C3.out _).mono ?_; rintro e w7 ⟨rfl, rfl⟩) | (go_at_call 29; refine (C5.out _).mono ?_; rintro e w7 ⟨rfl, rfl⟩))
    go_ret3
    exact ⟨rfl, HK.out⟩
  · rw [if_neg h5] at hE
    exact (hE rfl).elim
set_option maxHeartbeats 8000000 in
set_option maxRecDepth 1000000 in
theorem rTold_yes (r : Int) (s : ByteArray) (w : World) (h : Rt r) (hs : s.size ≤ maxLen) (hg : Gd (rl r) s) (hE : ckE (rc r) (fv s 11 0) (fv s 11 1) (fv s 11 2) (fv s 11 3) (rl r) = 0) :
    Calls Tryd.prog 20 #[.int .i64 r, .string s] w fun e w' => e = .returned (.tuple #[.int .i64 (nmb (rc r) (rl r) (fv s 11 0) (fv s 11 1) (fv s 11 2) (fv s 11 3)), .int .i64 0, .int .i64 0]) ∧ Kept [] w w' := by
  have C1 := Hid.mk (fun u => rRate_yes r u h)
  have C2 := Hid.mk (fun u => formed_gd r s u h hs hg)
  have V0 : Hid (∀ u, Calls Tryd.prog 45 #[.string s, .int .i64 0] u fun e w' => e = .returned (.int .i64 (fv s 11 0)) ∧ Kept [] u w') := Hid.mk (fun u => value_fv (rl r) s 0 u hg (by decide))
  have V1 : Hid (∀ u, Calls Tryd.prog 45 #[.string s, .int .i64 3] u fun e w' => e = .returned (.int .i64 (fv s 11 1)) ∧ Kept [] u w') := Hid.mk (fun u => value_fv (rl r) s 1 u hg (by decide))
  have V2 : Hid (∀ u, Calls Tryd.prog 45 #[.string s, .int .i64 6] u fun e w' => e = .returned (.int .i64 (fv s 11 2)) ∧ Kept [] u w') := Hid.mk (fun u => value_fv (rl r) s 2 u hg (by decide))
  have V3 : Hid (∀ u, Calls Tryd.prog 45 #[.string s, .int .i64 9] u fun e w' => e = .returned (.int .i64 (fv s 11 3)) ∧ Kept [] u w') := Hid.mk (fun u => value_fv (rl r) s 3 u hg (by decide))
  have C3 := Hid.mk (fun u => rcount_any r u h)
  have C4 := Hid.mk (fun m u => rleft_any r m u h)
  have fb := fun j => fv_bd hg.2 j
  obtain ⟨a0, a1, _⟩ := fb 0
  obtain ⟨b0, b1, _⟩ := fb 1
  obtain ⟨c0, c1, _⟩ := fb 2
  obtain ⟨d0, d1, _⟩ := fb 3
  have cc0 := h.pb.c0
  have cc1 := h.pb.c1
  have ll0 := h.pb.l0
  have ll1 := h.pb.l1
  have LN := Hid.mk (fun m => lsum_next r m h)
  have LB := Hid.mk (fun m => lsum_bd r m h)
  have FB := Hid.mk (fun m => lft_bd r m h)
  have LO := Hid.mk (fun m => lsum_out r m)
  have LF : Hid (∀ m, lft r m = if m % 10 = 0 then 0 else rl r) := Hid.mk fun m => rfl
  clear h hs hg fb
  generalize fv s 11 0 = H at *
  generalize fv s 11 1 = m at *
  generalize fv s 11 2 = x at *
  generalize fv s 11 3 = f at *
  generalize rc r = c at *
  generalize rl r = l at *
  unfold ckE at hE
  by_cases h1 : 23 < H
  · rw [if_pos h1] at hE; cases hE
  rw [if_neg h1] at hE
  by_cases h2 : 59 < m
  · rw [if_pos h2] at hE; cases hE
  rw [if_neg h2] at hE
  by_cases h3 : 59 < x
  · rw [if_pos h3] at hE; cases hE
  rw [if_neg h3] at hE
  by_cases h4 : c ≤ f
  · rw [if_pos h4] at hE; cases hE
  rw [if_neg h4] at hE
  by_cases h5 : m % 10 ≠ 0 ∧ x = 0 ∧ f < l
  · rw [if_pos h5] at hE; cases hE
  clear hE
  obtain ⟨M, hM⟩ : ∃ M, 60 * H + m = M := ⟨_, rfl⟩
  have M0 : 0 ≤ M := by omega
  have M1 : M ≤ 1439 := by omega
  have C5 := Hid.mk (fun u => C4.out M u M0 (by omega))
  obtain ⟨y, hy⟩ : ∃ y, c * x = y := ⟨_, rfl⟩
  have y0 : 0 ≤ y := by rw [← hy]; exact Int.mul_nonneg (by omega) c0
  have y1 : y ≤ 3600 := by rw [← hy]; exact Int.le_trans (Int.mul_le_mul cc1 (show x ≤ 60 by omega) c0 (by omega)) (by omega)
  have y2 : x = 0 ∨ 24 ≤ y := by
    by_cases hx : x = 0
    · exact .inl hx
    · right; rw [← hy]; exact Int.le_trans (show (24 : Int) ≤ 24 * 1 by omega) (Int.mul_le_mul cc0 (show 1 ≤ x by omega) (by omega) (by omega))
  have hL : ¬ y + f < lft r M := by
    rw [LF.out]
    split
    · omega
    · rcases y2 with hx | hx
      · rw [hx, Int.mul_zero] at hy
        omega
      · omega
  obtain ⟨fb0, fb1⟩ := FB.out M
  have HN : Hid (nmb c l H m x f = y + f - lft r M + (60 * c * M - lsum r M)) := Hid.mk (by
    have a1 := LO.out M
    have a2 := LN.out M
    unfold nmb
    rw [hM, ← a1, a2, Int.mul_add, hy, ← Int.mul_assoc, Int.mul_comm c 60]
    omega)
  obtain ⟨L, eL⟩ : ∃ L, lft r M = L := ⟨_, rfl⟩
  rw [eL] at hL fb0 fb1 C5 HN
  obtain ⟨B, hB⟩ : ∃ B, y + f - L = B := ⟨_, rfl⟩
  rw [hB] at HN
  have B0 : 0 ≤ B := by omega
  have B1 : B ≤ 4000 := by omega
  clear y2 h5 eL
  go_enter Tryd.func20, Tryd.ntmps20
  go_wp2_with (fail)
  refine (C1.out _).mono ?_
  rintro e w1 ⟨rfl, rfl⟩
  go_wp2_with (fail)
  refine (C2.out _).mono ?_
  rintro e w2 ⟨rfl, k2⟩
  go_wp2_with (fail)
  refine (V0.out _).mono ?_
  rintro e w3 ⟨rfl, k3⟩
  go_wp2_with (fail)
  refine (V1.out _).mono ?_
  rintro e w4 ⟨rfl, k4⟩
  go_wp2_with (fail)
  refine (V2.out _).mono ?_
  rintro e w5 ⟨rfl, k5⟩
  go_wp2_with (fail)
  refine (V3.out _).mono ?_
  rintro e w6 ⟨rfl, k6⟩
  have HK := Hid.mk ((((k2.trans k3).trans k4).trans k5).trans k6)
  clear k2 k3 k4 k5 k6
  go_wp2_with (first | (go_at_call 28; refine (C3.out _).mono ?_; rintro e w7 ⟨rfl, rfl⟩) | (go_at_call 29; refine (C5.out _).mono ?_; rintro e w7 ⟨rfl, rfl⟩))
  go_loop [15, 16] (fun n i => ∃ q : Int, 0 ≤ q ∧ q ≤ M ∧ i = .int .i64 q ∧ n = .int .i64 (B + (60 * c * q - lsum r q))) (fun _ i => (1440 - intOf i).toNat)
  case atStart => exact ⟨0, by omega, by omega, rfl, by simp [lsum]⟩
  case round =>
    obtain ⟨q, q0, q1, rfl, rfl⟩ := hrel
    obtain ⟨lb0, lb1⟩ := LB.out q q0 (by omega)
    obtain ⟨fq0, fq1⟩ := FB.out q
    have p0 : 0 ≤ 60 * c * q := Int.mul_nonneg (by omega) q0
    have p1 : 60 * c * q ≤ 3600 * 1440 := Int.mul_le_mul (by omega) (by omega) q0 (by omega)
    by_cases hq : q < M
    · have C6 := Hid.mk (fun u => C4.out q u q0 (by omega))
      obtain ⟨X, eX⟩ : ∃ X, B + (60 * c * q - lsum r q) = X := ⟨_, rfl⟩
      have X0 : -6000 ≤ X := by omega
      have X1 : X ≤ 6000000 := by omega
      have HX : Hid (B + (60 * c * (q + 1) - lsum r (q + 1)) = X + 60 * c - lft r q) := Hid.mk (by rw [LN.out q, ← eX, Int.mul_add]; omega)
      rw [eX]
      obtain ⟨Z, eZ⟩ : ∃ Z, lft r q = Z := ⟨_, rfl⟩
      rw [eZ] at C6 HX fq0 fq1
      clear eX eZ lb0 lb1 p0 p1
      go_wp2_with (first | (go_at_call 28; refine (C3.out _).mono ?_; rintro e w7 ⟨rfl, rfl⟩) | (go_at_call 29; refine (C6.out _).mono ?_; rintro e w7 ⟨rfl, rfl⟩))
      go_round
      case rel => exact ⟨q + 1, by omega, by omega, by go_num, by rw [HX.out]⟩
      case measure => simp [intOf]; omega
    · obtain rfl : M = q := by omega
      obtain ⟨X, eX⟩ : ∃ X, B + (60 * c * M - lsum r M) = X := ⟨_, rfl⟩
      rw [eX] at HN ⊢
      clear eX lb0 lb1 p0 p1 hq
      go_wp2
      go_ret3
      exact ⟨by rw [HN.out]; rfl, HK.out⟩
theorem rTold_any (r : Int) (s : ByteArray) (w : World) (hs : s.size ≤ maxLen) (x A E : Int) (hn : NR r s x A E) : Calls Tryd.prog 20 #[.int .i64 r, .string s] w fun e w' => e = .returned (.tuple #[.int .i64 x, .int .i64 A, .int .i64 E]) ∧ Kept [] w w' := by
  rcases hn with ⟨a, rfl, rfl, rfl⟩ | ⟨h, q, hq, rfl, rfl, rfl⟩ | ⟨h, g, a, rfl, rfl, rfl⟩ | ⟨h, g, a, rfl, rfl, rfl⟩
  · exact (rTold_no r s w a).mono fun _ _ ⟨h1, h2⟩ => ⟨h1, h2 ▸ Kept.refl _ _⟩
  · exact rTold_bd r s q w h hs hq
  · exact rTold_bad r s w h hs g a
  · exact rTold_yes r s w h hs g a
end Go.Proofs.YtdnbjbdokppfnaaDoor
