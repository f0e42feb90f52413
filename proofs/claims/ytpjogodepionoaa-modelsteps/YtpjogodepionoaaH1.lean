import Derived.Test.YtpjogodepionoaaA3
namespace Go.Proofs.Ytpjogodepionoaa
open Go.RowKit

/-- The document's model: its head in memory. -/
structure Rh (w : World) (R : Nat) (T d : Int) : Prop where
  c0 : (w.cell? ⟨R, 0, none⟩ = some (.int .i64 10) ∧ T = 1023) ∨ (w.cell? ⟨R, 0, none⟩ = some (.int .i64 12) ∧ T = 4095)
  c1 : w.cell? ⟨R, 1, none⟩ = some (.int .i64 d)
theorem Rh.drewN {w : World} {R : Nat} {T d : Int} (h : Rh w R T d) (n : Nat) : Rh (w.drewN n) R T d := by
  obtain ⟨h0, h1⟩ := h
  exact ⟨by rw [cell_drewN]; exact h0, by rw [cell_drewN]; exact h1⟩

set_option maxHeartbeats 1000000 in
theorem cutD_any (n l h : Int) (w : World) (hl : l ≤ h) : Calls Try.prog 49 #[.int .i64 n, .int .i64 l, .int .i64 h] w fun e w' => e = .returned (.int .i64 (ct n l h)) ∧ w' = w := by
  by_cases h1 : n < l
  · go_enter Try.func49, Try.ntmps49
    go_wp2
    go_ret
    exact ⟨ret_int (by unfold ct; omega), rfl⟩
  · by_cases h2 : h < n
    · go_enter Try.func49, Try.ntmps49
      go_wp2
      go_ret
      exact ⟨ret_int (by unfold ct; omega), rfl⟩
    · go_enter Try.func49, Try.ntmps49
      go_wp2
      go_ret
      exact ⟨ret_int (by unfold ct; omega), rfl⟩

set_option maxHeartbeats 1000000 in
theorem topD_any (R : Nat) (T d : Int) (w : World) (H : Rh w R T d) : Calls Try.prog 50 #[.pointer (some ⟨R, 0, none⟩)] w fun e w' => e = .returned (.int .i64 T) ∧ w' = w := by
  rcases H.c0 with ⟨h0, rfl⟩ | ⟨h0, rfl⟩
  · go_enter Try.func50, Try.ntmps50
    go_wp2
    go_ret
    exact ⟨rfl, rfl⟩
  · go_enter Try.func50, Try.ntmps50
    go_wp2
    go_ret
    exact ⟨rfl, rfl⟩

set_option maxHeartbeats 1000000 in
theorem sizeD_any (n : Int) (w : World) (h0 : -9223372036854775807 ≤ n) (h1 : n ≤ 9223372036854775807) : Calls Try.prog 51 #[.int .i64 n] w fun e w' => e = .returned (.int .i64 (mg n)) ∧ w' = w := by
  by_cases h : n < 0
  · go_enter Try.func51, Try.ntmps51
    go_wp2
    go_ret
    exact ⟨ret_int (by unfold mg; rw [if_pos h]), rfl⟩
  · go_enter Try.func51, Try.ntmps51
    go_wp2
    go_ret
    exact ⟨ret_int (by unfold mg; rw [if_neg (by omega)]), rfl⟩

set_option maxHeartbeats 1000000 in
theorem stepD_any (R : Nat) (T d : Int) (w : World) (H : Rh w R T d) (d0 : 0 ≤ d) (d1 : d ≤ 63) : Calls Try.prog 52 #[.pointer (some ⟨R, 0, none⟩)] w fun e w' => e = .returned (.int .i64 (2 * d + 1)) ∧ w' = w := by
  have h1 := H.c1
  clear H
  go_enter Try.func52, Try.ntmps52
  go_wp2
  go_ret
  exact ⟨rfl, rfl⟩

set_option maxHeartbeats 4000000 in
theorem rangeD_any (R : Nat) (T d : Int) (w : World) (H : Rh w R T d) (G : Gd T d) : Calls Try.prog 36 #[.pointer (some ⟨R, 0, none⟩)] w fun e w' => e = .returned (.int .i64 (rg T d)) ∧ ∃ m, w' = w.drewN m := by
  have ⟨t0, t1⟩ := G.tb
  have d0 := G.lo
  have d1 := G.hi
  have ⟨g0, g1⟩ := rg_pos T d G
  have C1 := Hid.mk (fun n => topD_any R T d (w.drewN n) (H.drewN n))
  have C2 := Hid.mk (fun n => stepD_any R T d (w.drewN n) (H.drewN n) d0 d1)
  have h1 := H.c1
  have q7 : IntKind.i64.wrap ((T + 2 * d).tdiv (2 * d + 1)) = rg T d - 1 := by
    rw [Int.tdiv_eq_ediv_of_nonneg (by omega)]
    have : rg T d = (T + 2 * d) / (2 * d + 1) + 1 := rfl
    rw [show (T + 2 * d) / (2 * d + 1) = rg T d - 1 by omega]
    exact wrap_i (by omega) (by omega)
  have q9 : 2 * d + 1 ≠ 0 := by omega
  generalize rg T d = K at *
  clear H G
  go_enter Try.func36, Try.ntmps36
  go_wp2
  go_quiet ((first | (go_at_call 50; exact Calls.quiet_of_same (C1.out _)) | (go_at_call 52; exact Calls.quiet_of_same (C2.out _))))
  go_wp2
  go_ret
  exact ⟨ret_int (by first | rfl | omega | (unfold wrap64; omega)), _, rfl⟩

set_option maxHeartbeats 1000000 in
theorem knownD_any (k : Int) (w : World) : Calls Try.prog 54 #[.int .i64 k] w fun e w' => e = .returned (.bool (decide (0 ≤ k ∧ k < 365))) ∧ w' = w := by
  by_cases h : 0 ≤ k
  · go_enter Try.func54, Try.ntmps54
    go_wp2
    go_ret
    exact ⟨ret_bool (by simp; try omega), rfl⟩
  · go_enter Try.func54, Try.ntmps54
    go_wp2
    go_ret
    exact ⟨ret_bool (by simp; try omega), rfl⟩

set_option maxHeartbeats 1000000 in
theorem downD_any (n : Int) (w : World) (h0 : -1000000000 ≤ n) (h1 : n ≤ 1000000000) : Calls Try.prog 55 #[.int .i64 n] w fun e w' => e = .returned (.int .i64 (n / 2)) ∧ w' = w := by
  by_cases h : n < 0
  · go_enter Try.func55, Try.ntmps55
    go_wp2
    go_ret
    exact ⟨ret_int (by omega), rfl⟩
  · go_enter Try.func55, Try.ntmps55
    go_wp2
    go_ret
    exact ⟨ret_int (by omega), rfl⟩

theorem w64_add (x c : Int) : wrap64 (x + wrap64 c) = wrap64 (x + c) := by unfold wrap64; omega
set_option maxHeartbeats 2000000 in
theorem medD_any (a b c : Int) (w : World) : Calls Try.prog 35 #[.int .i64 a, .int .i64 b, .int .i64 c] w fun e w' => e = .returned (.int .i64 (gmed a b c)) ∧ w' = w := by
  have e1 : wrap64 (a + wrap64 (b - c)) = wrap64 (a + b - c) := by rw [w64_add]; congr 1; omega
  have e2 : wrap64 (b + wrap64 (a - c)) = wrap64 (a + b - c) := by rw [w64_add]; congr 1; omega
  by_cases h : b < a
  · go_enter Try.func35, Try.ntmps35
    go_wp2
    all_goals (go_ret; refine ⟨ret_int ?_, rfl⟩; unfold gmed; (repeat' split) <;> first | rfl | assumption | omega)
  · go_enter Try.func35, Try.ntmps35
    go_wp2
    all_goals (go_ret; refine ⟨ret_int ?_, rfl⟩; unfold gmed; (repeat' split) <;> first | rfl | assumption | omega)
end Go.Proofs.Ytpjogodepionoaa
