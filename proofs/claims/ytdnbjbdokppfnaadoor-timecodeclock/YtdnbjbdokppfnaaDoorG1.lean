import Derived.Test.YtdnbjbdokppfnaaDoorC1
namespace Go.Proofs.YtdnbjbdokppfnaaDoor
open Go.RowKit

set_option maxHeartbeats 1000000 in
theorem rRate_yes (r : Int) (w : World) (h : Rt r) : Calls Tryd.prog 27 #[.int .i64 r] w fun e w' => e = .returned (.bool true) ∧ w' = w := by
  obtain ⟨h0, h1⟩ := h
  go_enter Tryd.func27, Tryd.ntmps27
  go_wp2
  go_ret
  exact ⟨rfl, rfl⟩
set_option maxHeartbeats 1000000 in
theorem rRate_no (r : Int) (w : World) (h : r < 1 ∨ 7 < r) : Calls Tryd.prog 27 #[.int .i64 r] w fun e w' => e = .returned (.bool false) ∧ w' = w := by
  rcases h with h | h
  · have h1 : ¬ 1 ≤ r := by omega
    go_enter Tryd.func27, Tryd.ntmps27
    go_wp2
    go_ret
    exact ⟨rfl, rfl⟩
  · have h1 : 1 ≤ r := by omega
    have h2 : ¬ r ≤ 7 := by omega
    have h3 : decide (r ≤ 7) = false := by simpa using h2
    go_enter Tryd.func27, Tryd.ntmps27
    go_wp2
    go_ret
    exact ⟨by simp, rfl⟩
set_option maxHeartbeats 2000000 in
theorem rcount_any (r : Int) (w : World) (h : Rt r) : Calls Tryd.prog 28 #[.int .i64 r] w fun e w' => e = .returned (.int .i64 (rc r)) ∧ w' = w := by
  rcases h.cs with rfl | rfl | rfl | rfl | rfl | rfl | rfl
  all_goals
    go_enter Tryd.func28, Tryd.ntmps28
    go_wp2
    go_ret
    exact ⟨rfl, rfl⟩
/-- How many names are left out at the beginning of a day's minute. -/
def lft (r m : Int) : Int := if m % 10 = 0 then 0 else rl r
set_option maxHeartbeats 2000000 in
theorem rleft_any (r m : Int) (w : World) (h : Rt r) (m0 : 0 ≤ m) (m1 : m ≤ 100000) : Calls Tryd.prog 29 #[.int .i64 r, .int .i64 m] w fun e w' => e = .returned (.int .i64 (lft r m)) ∧ w' = w := by
  unfold lft
  by_cases hm : m % 10 = 0
  · rw [if_pos hm]
    go_enter Tryd.func29, Tryd.ntmps29
    go_wp2
    go_ret
    exact ⟨rfl, rfl⟩
  · rw [if_neg hm]
    rcases h.cs with rfl | rfl | rfl | rfl | rfl | rfl | rfl
    all_goals
      go_enter Tryd.func29, Tryd.ntmps29
      go_wp2
      go_ret
      exact ⟨rfl, rfl⟩
set_option maxHeartbeats 2000000 in
theorem rspeed_any (r : Int) (w : World) (h : Rt r) : Calls Tryd.prog 38 #[.int .i64 r] w fun e w' => e = .returned (.tuple #[.int .i64 (ra r), .int .i64 (rb r)]) ∧ w' = w := by
  have C1 := Hid.mk (fun u => rcount_any r u h)
  rcases h.cs with rfl | rfl | rfl | rfl | rfl | rfl | rfl
  all_goals
    go_enter Tryd.func38, Tryd.ntmps38
    go_wp2_with (go_at_call 28; refine (C1.out _).mono ?_; rintro e w1 ⟨rfl, rfl⟩)
    go_ret2
    exact ⟨by first | rfl | kernel_rfl, rfl⟩

/-- How many names are left out ahead of a day's minute. -/
def lsum (r m : Int) : Int := (m - (m + 9) / 10) * rl r
theorem lsum_next (r m : Int) (h : Rt r) : lsum r (m + 1) = lsum r m + lft r m := by
  unfold lsum lft
  split
  · rw [show m + 1 - (m + 1 + 9) / 10 = m - (m + 9) / 10 by omega, Int.add_zero]
  · rcases h.cs with rfl | rfl | rfl | rfl | rfl | rfl | rfl <;> simp only [show rl 1 = 0 from rfl, show rl 2 = 0 from rfl, show rl 3 = 0 from rfl, show rl 4 = 2 from rfl, show rl 5 = 0 from rfl, show rl 6 = 0 from rfl, show rl 7 = 4 from rfl] <;> omega
theorem lft_bd (r m : Int) (h : Rt r) : 0 ≤ lft r m ∧ lft r m ≤ 4 := by
  have := h.pb
  have := this.l0
  have := h.pb.l1
  unfold lft; split <;> omega
theorem lsum_bd (r m : Int) (h : Rt r) (m0 : 0 ≤ m) (m1 : m ≤ 1440) : 0 ≤ lsum r m ∧ lsum r m ≤ 6000 := by
  have a := h.pb.l0
  have b := h.pb.l1
  unfold lsum
  constructor
  · exact Int.mul_nonneg (by omega) a
  · exact Int.le_trans (Int.mul_le_mul (show m - (m + 9) / 10 ≤ 1440 by omega) b a (by omega)) (by omega)
theorem dy_sum (r : Int) (h : Rt r) : 60 * rc r * 1440 - lsum r 1440 = dy r := by
  rcases h.cs with rfl | rfl | rfl | rfl | rfl | rfl | rfl <;> decide

set_option maxHeartbeats 4000000 in
theorem rPerDay_yes (r : Int) (w : World) (h : Rt r) : Calls Tryd.prog 11 #[.int .i64 r] w fun e w' => e = .returned (.tuple #[.int .i64 (dy r), .int .i64 0]) ∧ w' = w := by
  have C1 := Hid.mk (fun u => rRate_yes r u h)
  have C2 := Hid.mk (fun u => rcount_any r u h)
  have C3 := Hid.mk (fun m u => rleft_any r m u h)
  have LN := Hid.mk (fun m => lsum_next r m h)
  have LB := Hid.mk (fun m => lsum_bd r m h)
  have FB := Hid.mk (fun m => lft_bd r m h)
  have c0 := h.pb.c0
  have c1 := h.pb.c1
  have HD := Hid.mk (dy_sum r h)
  generalize dy r = D at *
  generalize rc r = c at *
  clear h
  go_enter Tryd.func11, Tryd.ntmps11
  go_wp2_with (go_at_call 27; refine (C1.out _).mono ?_; rintro e w1 ⟨rfl, rfl⟩)
  go_loop [5, 6] (fun n i => ∃ m : Int, 0 ≤ m ∧ m ≤ 1440 ∧ i = .int .i64 m ∧ n = .int .i64 (60 * c * m - lsum r m)) (fun _ i => (1440 - intOf i).toNat)
  case atStart => exact ⟨0, by omega, by omega, rfl, by simp [lsum]⟩
  case round =>
    obtain ⟨m, m0, m1, rfl, rfl⟩ := hrel
    have lb := LB.out m m0 m1
    have fb := FB.out m
    by_cases hm : m < 1440
    · have C4 := Hid.mk (fun u => C3.out m u m0 (by omega))
      obtain ⟨X, eX⟩ : ∃ X, 60 * c * m - lsum r m = X := ⟨_, rfl⟩
      have X0 : -6000 ≤ X := by
        have : 0 ≤ 60 * c * m := Int.mul_nonneg (by omega) m0
        omega
      have X1 : X ≤ 6000000 := by
        have : 60 * c * m ≤ 3600 * 1440 := Int.mul_le_mul (by omega) m1 m0 (by omega)
        omega
      have HX : Hid (60 * c * (m + 1) - lsum r (m + 1) = X + 60 * c - lft r m) := Hid.mk (by rw [LN.out m, ← eX, Int.mul_add]; omega)
      generalize lft r m = L at *
      rw [eX]
      clear eX lb
      obtain ⟨f0, f1⟩ := fb
      go_wp2_with (first | (go_at_call 28; refine (C2.out _).mono ?_; rintro e w1 ⟨rfl, rfl⟩) | (go_at_call 29; refine (C4.out _).mono ?_; rintro e w1 ⟨rfl, rfl⟩))
      go_round
      case rel => exact ⟨m + 1, by omega, by omega, by go_num, by rw [HX.out]⟩
      case measure => simp [intOf]; omega
    · obtain rfl : m = 1440 := by omega
      have e := HD.out
      rw [e]
      clear lb fb e
      go_wp2
      go_ret2
      exact ⟨rfl, rfl⟩
set_option maxHeartbeats 2000000 in
theorem rPerDay_no (r : Int) (w : World) (h : r < 1 ∨ 7 < r) : Calls Tryd.prog 11 #[.int .i64 r] w fun e w' => e = .returned (.tuple #[.int .i64 0, .int .i64 181]) ∧ w' = w := by
  have C1 := Hid.mk (fun u => rRate_no r u h)
  clear h
  go_enter Tryd.func11, Tryd.ntmps11
  go_wp2_with (go_at_call 27; refine (C1.out _).mono ?_; rintro e w1 ⟨rfl, rfl⟩)
  go_ret2
  exact ⟨rfl, rfl⟩
/-- What is wrong with a rate, or a number. -/
def ask (r n : Int) : Int := if r < 1 ∨ 7 < r then 181 else if n < 0 ∨ dy r ≤ n then 184 else 0
set_option maxHeartbeats 2000000 in
theorem rasked_any (r n : Int) (w : World) : Calls Tryd.prog 34 #[.int .i64 r, .int .i64 n] w fun e w' => e = .returned (.int .i64 (ask r n)) ∧ w' = w := by
  unfold ask
  by_cases h : r < 1 ∨ 7 < r
  · rw [if_pos h]
    have C1 := Hid.mk (fun u => rPerDay_no r u h)
    clear h
    go_enter Tryd.func34, Tryd.ntmps34
    go_wp2_with (go_at_call 11; refine (C1.out _).mono ?_; rintro e w1 ⟨rfl, rfl⟩)
    go_ret
    exact ⟨rfl, rfl⟩
  · rw [if_neg h]
    have C1 := Hid.mk (fun u => rPerDay_yes r u ⟨by omega, by omega⟩)
    generalize dy r = D at *
    clear h
    by_cases h0 : n < 0
    · rw [if_pos (.inl h0)]
      go_enter Tryd.func34, Tryd.ntmps34
      go_wp2_with (go_at_call 11; refine (C1.out _).mono ?_; rintro e w1 ⟨rfl, rfl⟩)
      go_ret
      exact ⟨rfl, rfl⟩
    · by_cases h1 : D ≤ n
      · rw [if_pos (.inr h1)]
        go_enter Tryd.func34, Tryd.ntmps34
        go_wp2_with (go_at_call 11; refine (C1.out _).mono ?_; rintro e w1 ⟨rfl, rfl⟩)
        go_ret
        exact ⟨rfl, rfl⟩
      · rw [if_neg (by omega)]
        go_enter Tryd.func34, Tryd.ntmps34
        go_wp2_with (go_at_call 11; refine (C1.out _).mono ?_; rintro e w1 ⟨rfl, rfl⟩)
        go_ret
        exact ⟨rfl, rfl⟩
end Go.Proofs.YtdnbjbdokppfnaaDoor
