import Derived.Test.YthhcihcgefeblaaDoorGc
namespace Go.Proofs.YthhcihcgefeblaaDoor
open Go.RowKit

set_option maxHeartbeats 1000000 in
theorem fold_pos (e : Int) (w : World) (h0 : 0 ≤ e) (h1 : e ≤ 1073741823) :
    Calls Tryd.prog 16 #[.int .i64 e] w fun r w' => r = .returned (.tuple #[.int .i64 (2 * e), .int .i64 0]) ∧ w' = w := by
  have t1 : decide (e < -1073741824) = false := by simp; omega
  go_enter Tryd.func16, Tryd.ntmps16
  go_wp2
  go_ret2
  exact ⟨rfl, rfl⟩

set_option maxHeartbeats 1000000 in
theorem fold_neg (e : Int) (w : World) (h0 : -1073741824 ≤ e) (h1 : e < 0) :
    Calls Tryd.prog 16 #[.int .i64 e] w fun r w' => r = .returned (.tuple #[.int .i64 (-2 * e - 1), .int .i64 0]) ∧ w' = w := by
  have t1 : decide (e < -1073741824) = false := by simp; omega
  go_enter Tryd.func16, Tryd.ntmps16
  go_wp2
  go_ret2
  exact ⟨rfl, rfl⟩

set_option maxHeartbeats 1000000 in
theorem unfold_even (v : Int) (w : World) (h0 : 0 ≤ v) (h1 : v ≤ 2147483647) (h2 : v % 2 = 0) :
    Calls Tryd.prog 17 #[.int .i64 v] w fun r w' => r = .returned (.tuple #[.int .i64 (v / 2), .int .i64 0]) ∧ w' = w := by
  have t1 : decide (v < 0) = false := by simp; omega
  go_enter Tryd.func17, Tryd.ntmps17
  go_wp2
  go_ret2
  exact ⟨rfl, rfl⟩

set_option maxHeartbeats 1000000 in
theorem unfold_odd (v : Int) (w : World) (h0 : 0 ≤ v) (h1 : v ≤ 2147483647) (h2 : v % 2 = 1) :
    Calls Tryd.prog 17 #[.int .i64 v] w fun r w' => r = .returned (.tuple #[.int .i64 (-(v / 2) - 1), .int .i64 0]) ∧ w' = w := by
  have t1 : decide (v < 0) = false := by simp; omega
  go_enter Tryd.func17, Tryd.ntmps17
  go_wp2
  go_ret2
  exact ⟨rfl, rfl⟩

theorem fold_to (e a : Int) (w : World) (h0 : -1073741824 ≤ e) (h1 : e ≤ 1073741823) (ha : (0 ≤ e ∧ a = 2 * e) ∨ (e < 0 ∧ a = -2 * e - 1)) :
    Calls Tryd.prog 16 #[.int .i64 e] w fun r w' => r = .returned (.tuple #[.int .i64 a, .int .i64 0]) ∧ w' = w := by
  rcases ha with ⟨h, rfl⟩ | ⟨h, rfl⟩
  · exact fold_pos e w h h1
  · exact fold_neg e w h0 h

theorem unfold_to (v n : Int) (w : World) (h0 : 0 ≤ v) (h1 : v ≤ 2147483647) (hn : (v % 2 = 0 ∧ n = v / 2) ∨ (v % 2 = 1 ∧ n = -(v / 2) - 1)) :
    Calls Tryd.prog 17 #[.int .i64 v] w fun r w' => r = .returned (.tuple #[.int .i64 n, .int .i64 0]) ∧ w' = w := by
  rcases hn with ⟨h, rfl⟩ | ⟨h, rfl⟩
  · exact unfold_even v w h0 h1 h
  · exact unfold_odd v w h0 h1 h

set_option maxHeartbeats 4000000 in
theorem folds_any (e v : Int) (w : World) (hT : Tab w) (e0 : -9223372036854775808 ≤ e) (e1 : e ≤ 9223372036854775807) (v0 : -9223372036854775808 ≤ v) (v1 : v ≤ 9223372036854775807) :
    Calls Tryd.prog 4 #[.int .i64 e, .int .i64 v] w fun r w' => r = .returned (.bool true) ∧ Kept [] w w' := by
  have HT := Hid.mk hT
  have p0 := pick_lo e 1073741824 (by decide)
  have p1 := pick_hi e 1073741824 (by decide)
  have Hp := Hid.mk (fun w => pick_any e 1073741824 w e0 e1 (by decide))
  have q0 := pick_lo v 2147483648 (by decide)
  have q1 := pick_hi v 2147483648 (by decide)
  have Hq := Hid.mk (fun w => pick_any v 2147483648 w v0 v1 (by decide))
  generalize pick e 1073741824 = p at *
  generalize pick v 2147483648 = q at *
  obtain ⟨n, hn⟩ : ∃ n : Int, (q % 2 = 0 ∧ n = q / 2) ∨ (q % 2 = 1 ∧ n = -(q / 2) - 1) := by
    rcases Int.emod_two_eq q with h | h
    · exact ⟨_, .inl ⟨h, rfl⟩⟩
    · exact ⟨_, .inr ⟨h, rfl⟩⟩
  have n0 : -1073741824 ≤ n := by omega
  have n1 : n ≤ 1073741823 := by omega
  have Hn := Hid.mk hn
  clear hT hn
  go_enter Tryd.func4, Tryd.ntmps4
  go_wp2_with (go_at_call 9; refine (awake_any _ HT.out).mono ?_; rintro r w1 ⟨rfl, hk1⟩; have HK := Hid.mk hk1; clear hk1)
  refine (Hp.out _).mono ?_
  rintro r w2 ⟨rfl, rfl⟩
  go_wp2_with fail
  refine (fold_to p (2 * p) _ (by omega) (by omega) (by omega)).mono ?_
  rintro r w3 ⟨rfl, rfl⟩
  go_wp2_with fail
  refine (unfold_to (2 * p) p _ (by omega) (by omega) (by omega)).mono ?_
  rintro r w4 ⟨rfl, rfl⟩
  go_wp2_with fail
  refine (fold_to (-p - 1) (2 * p + 1) _ (by omega) (by omega) (by omega)).mono ?_
  rintro r w5 ⟨rfl, rfl⟩
  go_wp2_with fail
  refine (unfold_to (2 * p + 1) (-p - 1) _ (by omega) (by omega) (by omega)).mono ?_
  rintro r w6 ⟨rfl, rfl⟩
  go_wp2_with fail
  refine (Hq.out _).mono ?_
  rintro r w7 ⟨rfl, rfl⟩
  go_wp2_with fail
  refine (unfold_to q n _ (by omega) (by omega) Hn.out).mono ?_
  rintro r w8 ⟨rfl, rfl⟩
  go_wp2_with fail
  refine (fold_to n q _ (by omega) (by omega) (by have := Hn.out; omega)).mono ?_
  rintro r w9 ⟨rfl, rfl⟩
  go_wp2_with fail
  go_ret
  exact ⟨ret_bool (by simp), HK.out⟩
end Go.Proofs.YthhcihcgefeblaaDoor
