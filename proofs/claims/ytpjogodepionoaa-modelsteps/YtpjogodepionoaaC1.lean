import Derived.Test.YtpjogodepionoaaB4
import Derived.Test.YtpjogodepionoaaB5
namespace Go.Proofs.Ytpjogodepionoaa
open Go.RowKit

set_option maxHeartbeats 4000000 in
set_option maxRecDepth 1000000 in
theorem wide_1024 (P : Nat) (T d : Int) (w : World) (H : Hd w P T d) (hR : rg T d = 1024) : Calls Try.prog 25 #[.pointer (some ⟨P, 0, none⟩)] w fun e w' => e = .returned (.int .i64 10) ∧ w' = w := by
  have h3 := H.c3
  rw [hR] at h3
  clear H
  go_enter Try.func25, Try.ntmps25
  go_wp2
  go_ret
  exact ⟨by kernel_rfl, rfl⟩

/-- Which of n things a raw number speaks of. -/
def pick (c n : Int) : Int := if c < 0 then (-(c + 1)) % n else c % n
theorem pick_lo (c n : Int) (h : 0 < n) : 0 ≤ pick c n := by
  unfold pick; split <;> exact Int.emod_nonneg _ (by omega)
theorem pick_hi (c n : Int) (h : 0 < n) : pick c n < n := by
  unfold pick; split <;> exact Int.emod_lt_of_pos _ h

set_option maxHeartbeats 1000000 in
theorem pick_any (c n : Int) (w : World) (c0 : -9223372036854775808 ≤ c) (c1 : c ≤ 9223372036854775807) (h : 0 < n) :
    Calls Try.prog 14 #[.int .i64 c, .int .i64 n] w fun e w' => e = .returned (.int .i64 (pick c n)) ∧ w' = w := by
  by_cases hc : c < 0
  · go_enter Try.func14, Try.ntmps14
    go_wp2
    go_ret
    exact ⟨ret_int (by unfold pick; rw [if_pos hc, ← Int.neg_tmod, Int.tmod_eq_emod_of_nonneg (by omega)]), rfl⟩
  · go_enter Try.func14, Try.ntmps14
    go_wp2
    go_ret
    exact ⟨ret_int (by unfold pick; rw [if_neg (by omega)]), rfl⟩

set_option maxHeartbeats 1000000 in
theorem size17_any (n : Int) (w : World) (h0 : -9223372036854775807 ≤ n) (h1 : n ≤ 9223372036854775807) : Calls Try.prog 17 #[.int .i64 n] w fun e w' => e = .returned (.int .i64 (mg n)) ∧ w' = w := by
  by_cases h : n < 0
  · go_enter Try.func17, Try.ntmps17
    go_wp2
    go_ret
    exact ⟨ret_int (by unfold mg; rw [if_pos h]), rfl⟩
  · go_enter Try.func17, Try.ntmps17
    go_wp2
    go_ret
    exact ⟨ret_int (by unfold mg; rw [if_neg (by omega)]), rfl⟩

theorem so7 : so (fun _ => sx0 1023 0) 7 = ⟨16, 0, 0, 1⟩ := rfl

set_option maxHeartbeats 4000000 in
theorem shown_any (w : World) : Calls Try.prog 9 #[] w fun e w' => e = .returned (.bool true) ∧ Kept [] w w' := by
  have C0 := Hid.mk (fun w => new1023 0 w (by omega) (by omega))
  have C1 : Hid (∀ w P, Md w P 1023 0 (fun _ => sx0 1023 0) → Calls Try.prog 20 #[.pointer (some ⟨P, 0, none⟩), .int .i64 7] w fun e w' => e = .returned (.tuple #[.int .i64 16, .int .i64 0, .int .i64 0, .int .i64 1]) ∧ Kept [] w w') := Hid.mk (fun w P M => by
    have := stats_any P 7 1023 0 _ w M
    rw [so7] at this
    exact this)
  have C2 : Hid (∀ w P, Md w P 1023 0 (fun _ => sx0 1023 0) → Calls Try.prog 18 #[.pointer (some ⟨P, 0, none⟩)] w fun e w' => e = .returned (.int .i64 1024) ∧ w' = w) := Hid.mk (fun w P M => range_any P 1023 0 w M.hd)
  have C3 : Hid (∀ w P, Md w P 1023 0 (fun _ => sx0 1023 0) → Calls Try.prog 25 #[.pointer (some ⟨P, 0, none⟩)] w fun e w' => e = .returned (.int .i64 10) ∧ w' = w) := Hid.mk (fun w P M => wide_1024 P 1023 0 w M.hd rfl)
  have C4 : Hid (∀ w P, Md w P 1023 0 (fun _ => sx0 1023 0) → Calls Try.prog 15 #[.pointer (some ⟨P, 0, none⟩), .int .i64 512] w fun e w' => e = .returned (.int .i64 (-512)) ∧ Kept [] w w') := Hid.mk (fun w P M => (shrink_any P 1023 0 512 w M.hd M.good).mono fun e w' ⟨h, m, hm⟩ => ⟨h, hm ▸ (Kept.refl _ _).drewN m⟩)
  have C5 : Hid (∀ w P, Md w P 1023 0 (fun _ => sx0 1023 0) → Calls Try.prog 16 #[.pointer (some ⟨P, 0, none⟩), .int .i64 1023, .int .i64 1] w fun e w' => e = .returned (.int .i64 0) ∧ Kept [] w w') := Hid.mk (fun w P M => (grow_any P 1023 0 1023 1 w M.hd M.good).mono fun e w' ⟨h, m, hm⟩ => ⟨h, hm ▸ (Kept.refl _ _).drewN m⟩)
  have C6 : Hid (∀ w P, Md w P 1023 0 (fun _ => sx0 1023 0) → Calls Try.prog 23 #[.pointer (some ⟨P, 0, none⟩), .int .i64 7] w fun e w' => e = .returned (.int .i64 4) ∧ Kept [] w w') := Hid.mk (fun w P M => param_any P 7 1023 0 _ w M)
  go_enter Try.func9, Try.ntmps9
  go_wp2_with (first | (go_at_call 24; refine (C0.out _).mono ?_; rintro e w1 ⟨P, rfl, M1, hl, k1⟩) | (go_at_call 20; refine (C1.out _ _ M1).mono ?_; rintro e w2 ⟨rfl, k2⟩; have M2 := M1.keep k2 (by simp)) | (go_at_call 18; refine (C2.out _ _ M2).mono ?_; rintro e w3 ⟨rfl, rfl⟩) | (go_at_call 25; refine (C3.out _ _ M2).mono ?_; rintro e w3 ⟨rfl, rfl⟩) | (go_at_call 15; refine (C4.out _ _ M2).mono ?_; rintro e w4 ⟨rfl, k4⟩; have M4 := M2.keep k4 (by simp)) | (go_at_call 16; refine (C5.out _ _ M4).mono ?_; rintro e w5 ⟨rfl, k5⟩; have M5 := M4.keep k5 (by simp)) | (go_at_call 23; refine (C6.out _ _ M5).mono ?_; rintro e w6 ⟨rfl, k6⟩))
  go_ret
  exact ⟨rfl, (((k1.trans k2).trans k4).trans k5).trans k6⟩

set_option maxHeartbeats 4000000 in
theorem made_any (a b : Int) (w : World) (a0 : -9223372036854775808 ≤ a) (a1 : a ≤ 9223372036854775807) (b0 : -9223372036854775808 ≤ b) (b1 : b ≤ 9223372036854775807) :
    Calls Try.prog 13 #[.int .i64 a, .int .i64 b] w fun e w' => ∃ P T d, Gd T d ∧ e = .returned (.tuple #[.pointer (some ⟨P, 0, none⟩), .int .i64 T, .int .i64 d]) ∧ Md w' P T d (fun _ => sx0 T d) ∧ w.heap.size ≤ P ∧ Kept [] w w' ∧ T = (if pick a 2 = 0 then 1023 else 4095) ∧ d = pick b 64 := by
  have h0 := pick_lo a 2 (by omega)
  have h1 := pick_hi a 2 (by omega)
  have h2 := pick_lo b 64 (by omega)
  have h3 := pick_hi b 64 (by omega)
  have C1 := Hid.mk (fun w => pick_any a 2 w a0 a1 (by omega))
  have C2 := Hid.mk (fun w => pick_any b 64 w b0 b1 (by omega))
  generalize pick b 64 = d at *
  rcases (show pick a 2 = 0 ∨ pick a 2 = 1 by omega) with h | h
  · rw [h] at C1
    have C3 := Hid.mk (fun w => new1023 d w (by omega) (by omega))
    rw [h]
    clear h h0 h1 a0 a1 b0 b1
    go_enter Try.func13, Try.ntmps13
    go_wp2_with (first | (go_at_call_of 14 a; refine (C1.out _).mono ?_; rintro e w2 ⟨rfl, rfl⟩) | (go_at_call_of 14 b; refine (C2.out _).mono ?_; rintro e w2 ⟨rfl, rfl⟩) | (go_at_call 24; refine (C3.out _).mono ?_; rintro e w1 ⟨P, rfl, M1, hl, k1⟩))
    go_quiet (fail)
    go_wp2
    go_ret3
    exact ⟨P, 1023, d, M1.good, rfl, M1.drewN _, hl, k1.drewN _, rfl, rfl⟩
  · rw [h] at C1
    have C3 := Hid.mk (fun w => new4095 d w (by omega) (by omega))
    rw [h]
    clear h h0 h1 a0 a1 b0 b1
    go_enter Try.func13, Try.ntmps13
    go_wp2_with (first | (go_at_call_of 14 a; refine (C1.out _).mono ?_; rintro e w2 ⟨rfl, rfl⟩) | (go_at_call_of 14 b; refine (C2.out _).mono ?_; rintro e w2 ⟨rfl, rfl⟩) | (go_at_call 24; refine (C3.out _).mono ?_; rintro e w1 ⟨P, rfl, M1, hl, k1⟩))
    go_quiet (fail)
    go_wp2
    go_ret3
    exact ⟨P, 4095, d, M1.good, rfl, M1.drewN _, hl, k1.drewN _, rfl, rfl⟩
end Go.Proofs.Ytpjogodepionoaa
