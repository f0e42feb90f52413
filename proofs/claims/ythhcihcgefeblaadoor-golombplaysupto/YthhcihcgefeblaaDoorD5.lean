import Derived.Test.YthhcihcgefeblaaDoorD4
namespace Go.Proofs.YthhcihcgefeblaaDoor
open Go.RowKit

/-- Parameters and widths that may be. -/
def Okp (k wide : Int) : Prop := 0 ≤ k ∧ k ≤ 15 ∧ 1 ≤ wide ∧ wide ≤ 16

theorem okp_no {k wide : Int} (h : ¬ Okp k wide) : k < 0 ∨ (0 ≤ k ∧ 15 < k) ∨ (0 ≤ k ∧ k ≤ 15 ∧ wide < 1) ∨ (0 ≤ k ∧ k ≤ 15 ∧ 1 ≤ wide ∧ 16 < wide) := by
  unfold Okp at h
  omega

set_option maxHeartbeats 1000000 in
theorem formed_no (k wide : Int) (w : World) (h : ¬ Okp k wide) :
    Calls Tryd.prog 54 #[.int .i64 k, .int .i64 wide] w fun e w' => e = .returned (.bool false) ∧ w' = w := by
  rcases okp_no h with h1 | ⟨h1, h2⟩ | ⟨h1, h2, h3⟩ | ⟨h1, h2, h3, h4⟩
  all_goals
    clear h
    go_enter Tryd.func54, Tryd.ntmps54
    go_wp2
    go_ret
    exact ⟨ret_bool (by first | (simp; done) | (simp; omega)), rfl⟩

set_option maxHeartbeats 1000000 in
theorem params_no (k wide : Int) (w : World) (h : ¬ Okp k wide) :
    Calls Tryd.prog 62 #[.int .i64 k, .int .i64 wide] w fun e w' => e = .returned (.bool false) ∧ w' = w := by
  rcases okp_no h with h1 | ⟨h1, h2⟩ | ⟨h1, h2, h3⟩ | ⟨h1, h2, h3, h4⟩
  all_goals
    clear h
    go_enter Tryd.func62, Tryd.ntmps62
    go_wp2
    go_ret
    exact ⟨ret_bool (by first | (simp; done) | (simp; omega)), rfl⟩

set_option maxHeartbeats 1000000 in
theorem check_param (v k wide : Int) (w : World) (h : ¬ Okp k wide) :
    Calls Tryd.prog 52 #[.int .i64 v, .int .i64 k, .int .i64 wide] w fun e w' => e = .returned (.int .i64 21) ∧ w' = w := by
  go_enter Tryd.func52, Tryd.ntmps52
  go_wp2_with (go_at_call 54; refine (formed_no k wide _ h).mono ?_; rintro e w' ⟨rfl, rfl⟩)
  go_ret
  exact ⟨rfl, rfl⟩

set_option maxHeartbeats 1000000 in
theorem check_value (v k wide : Int) (w : World) (h : Okp k wide) (hv : v < 0 ∨ (0 ≤ v ∧ ((2 ^ wide.toNat : Nat) : Int) ≤ v)) :
    Calls Tryd.prog 52 #[.int .i64 v, .int .i64 k, .int .i64 wide] w fun e w' => e = .returned (.int .i64 22) ∧ w' = w := by
  obtain ⟨k0, k1, w0, w1⟩ := h
  rcases hv with hv | ⟨hv0, hv⟩
  · go_enter Tryd.func52, Tryd.ntmps52
    go_wp2_with (go_at_call 54; refine (formed_ok k wide _ k0 k1 w0 w1).mono ?_; rintro e w' ⟨rfl, rfl⟩)
    go_ret
    exact ⟨rfl, rfl⟩
  · have hp := pos_shr v wide hv
    have t1 : decide (v < 0) = false := by simp; omega
    go_enter Tryd.func52, Tryd.ntmps52
    go_wp2_with (go_at_call 54; refine (formed_ok k wide _ k0 k1 w0 w1).mono ?_; rintro e w' ⟨rfl, rfl⟩)
    go_ret
    exact ⟨rfl, rfl⟩

set_option maxHeartbeats 1000000 in
theorem gput_err (B : Nat) (v k wide E : Int) (w : World) (hE : E ≠ 0) (hc : ∀ w, Calls Tryd.prog 52 #[.int .i64 v, .int .i64 k, .int .i64 wide] w fun e w' => e = .returned (.int .i64 E) ∧ w' = w) :
    Calls Tryd.prog 21 #[.pointer (some ⟨B, 0, none⟩), .int .i64 v, .int .i64 k, .int .i64 wide] w fun e w' => e = .returned (.int .i64 E) ∧ w' = w := by
  have HC := Hid.mk hc
  clear hc
  go_enter Tryd.func21, Tryd.ntmps21
  go_wp2_with (go_at_call 52; refine (HC.out _).mono ?_; rintro e w' ⟨rfl, rfl⟩)
  go_ret
  exact ⟨rfl, rfl⟩

set_option maxHeartbeats 1000000 in
theorem cost_err (v k wide E : Int) (w : World) (hE : E ≠ 0) (hc : ∀ w, Calls Tryd.prog 52 #[.int .i64 v, .int .i64 k, .int .i64 wide] w fun e w' => e = .returned (.int .i64 E) ∧ w' = w) :
    Calls Tryd.prog 20 #[.int .i64 v, .int .i64 k, .int .i64 wide] w fun e w' => e = .returned (.tuple #[.int .i64 0, .int .i64 E]) ∧ w' = w := by
  have HC := Hid.mk hc
  clear hc
  go_enter Tryd.func20, Tryd.ntmps20
  go_wp2_with (go_at_call 52; refine (HC.out _).mono ?_; rintro e w' ⟨rfl, rfl⟩)
  go_ret2
  exact ⟨rfl, rfl⟩

set_option maxHeartbeats 1000000 in
theorem putD_param (B : Nat) (v k wide : Int) (w : World) (h : ¬ Okp k wide) :
    Calls Tryd.prog 39 #[.pointer (some ⟨B, 0, none⟩), .int .i64 v, .int .i64 k, .int .i64 wide] w fun e w' => e = .returned (.int .i64 21) ∧ w' = w := by
  go_enter Tryd.func39, Tryd.ntmps39
  go_wp2_with (go_at_call 62; refine (params_no k wide _ h).mono ?_; rintro e w' ⟨rfl, rfl⟩)
  go_ret
  exact ⟨rfl, rfl⟩

set_option maxHeartbeats 1000000 in
theorem putD_value (B : Nat) (v k wide : Int) (w : World) (h : Okp k wide) (hv : v < 0 ∨ (0 ≤ v ∧ ((2 ^ wide.toNat : Nat) : Int) ≤ v)) :
    Calls Tryd.prog 39 #[.pointer (some ⟨B, 0, none⟩), .int .i64 v, .int .i64 k, .int .i64 wide] w fun e w' => e = .returned (.int .i64 22) ∧ w' = w := by
  obtain ⟨k0, k1, w0, w1⟩ := h
  obtain ⟨X, hX⟩ : ∃ X : Int, X = ((2 ^ wide.toNat : Nat) : Int) := ⟨_, rfl⟩
  have Hp := Hid.mk (fun w => power_any wide X w (by omega) (by omega) hX)
  rw [← hX] at hv
  clear hX
  rcases hv with hv | ⟨hv0, hv⟩
  · go_enter Tryd.func39, Tryd.ntmps39
    go_wp2_with (first
      | (go_at_call 62; refine (params_ok k wide _ k0 k1 w0 w1).mono ?_; rintro e w' ⟨rfl, rfl⟩)
      | (go_at_call 63; refine (Hp.out _).mono ?_; rintro e w3 ⟨rfl, rfl⟩))
    go_ret
    exact ⟨rfl, rfl⟩
  · have t1 : decide (v < 0) = false := by simp; omega
    go_enter Tryd.func39, Tryd.ntmps39
    go_wp2_with (first
      | (go_at_call 62; refine (params_ok k wide _ k0 k1 w0 w1).mono ?_; rintro e w' ⟨rfl, rfl⟩)
      | (go_at_call 63; refine (Hp.out _).mono ?_; rintro e w3 ⟨rfl, rfl⟩))
    go_ret
    exact ⟨rfl, rfl⟩

set_option maxHeartbeats 1000000 in
theorem costD_param (v k wide : Int) (w : World) (h : ¬ Okp k wide) :
    Calls Tryd.prog 38 #[.int .i64 v, .int .i64 k, .int .i64 wide] w fun e w' => e = .returned (.tuple #[.int .i64 0, .int .i64 21]) ∧ w' = w := by
  go_enter Tryd.func38, Tryd.ntmps38
  go_wp2_with (go_at_call 62; refine (params_no k wide _ h).mono ?_; rintro e w' ⟨rfl, rfl⟩)
  go_ret2
  exact ⟨rfl, rfl⟩

set_option maxHeartbeats 1000000 in
theorem costD_value (v k wide : Int) (w : World) (h : Okp k wide) (hv : v < 0 ∨ (0 ≤ v ∧ ((2 ^ wide.toNat : Nat) : Int) ≤ v)) :
    Calls Tryd.prog 38 #[.int .i64 v, .int .i64 k, .int .i64 wide] w fun e w' => e = .returned (.tuple #[.int .i64 0, .int .i64 22]) ∧ w' = w := by
  obtain ⟨k0, k1, w0, w1⟩ := h
  obtain ⟨X, hX⟩ : ∃ X : Int, X = ((2 ^ wide.toNat : Nat) : Int) := ⟨_, rfl⟩
  have Hp := Hid.mk (fun w => power_any wide X w (by omega) (by omega) hX)
  rw [← hX] at hv
  clear hX
  rcases hv with hv | ⟨hv0, hv⟩
  · go_enter Tryd.func38, Tryd.ntmps38
    go_wp2_with (first
      | (go_at_call 62; refine (params_ok k wide _ k0 k1 w0 w1).mono ?_; rintro e w' ⟨rfl, rfl⟩)
      | (go_at_call 63; refine (Hp.out _).mono ?_; rintro e w3 ⟨rfl, rfl⟩))
    go_ret2
    exact ⟨rfl, rfl⟩
  · have t1 : decide (v < 0) = false := by simp; omega
    go_enter Tryd.func38, Tryd.ntmps38
    go_wp2_with (first
      | (go_at_call 62; refine (params_ok k wide _ k0 k1 w0 w1).mono ?_; rintro e w' ⟨rfl, rfl⟩)
      | (go_at_call 63; refine (Hp.out _).mono ?_; rintro e w3 ⟨rfl, rfl⟩))
    go_ret2
    exact ⟨rfl, rfl⟩

set_option maxHeartbeats 1000000 in
theorem costD_any (v k wide c : Int) (w : World) (h : Okp k wide) (v0 : 0 ≤ v) (hv : v.toNat < 2 ^ wide.toNat) (hc : c = (gw v.toNat k.toNat wide.toNat : Int)) :
    Calls Tryd.prog 38 #[.int .i64 v, .int .i64 k, .int .i64 wide] w fun e w' => e = .returned (.tuple #[.int .i64 c, .int .i64 0]) ∧ Kept [] w w' := by
  obtain ⟨k0, k1, w0, w1⟩ := h
  obtain ⟨X, hX⟩ : ∃ X : Int, X = ((2 ^ wide.toNat : Nat) : Int) := ⟨_, rfl⟩
  have hX2 : v < X := by omega
  have Hp := Hid.mk (fun w => power_any wide X w (by omega) (by omega) hX)
  have Hf := Hid.mk (fun w => formD_any v k wide w k0 k1 w0 w1 v0 hv)
  have v0' : decide (v < 0) = false := by simp; omega
  have Hc := Hid.mk hc
  have hcl := gw_le v.toNat k.toNat wide.toNat (by omega) (by omega)
  have c0 : 0 ≤ c := by omega
  have c1 : c ≤ 40 := by omega
  clear hX hv hc hcl
  go_enter Tryd.func38, Tryd.ntmps38
  go_wp2_with (first
    | (go_at_call 62; refine (params_ok k wide _ k0 k1 w0 w1).mono ?_; rintro e w' ⟨rfl, rfl⟩)
    | (go_at_call 63; refine (Hp.out _).mono ?_; rintro e w3 ⟨rfl, rfl⟩)
    | (go_at_call 64; refine (Hf.out _).mono ?_; rintro e w4 ⟨U, rfl, ho4, hk4, hl4⟩; obtain ⟨ao, cp, rfl⟩ := row_form ho4))
  go_ret2
  exact ⟨by rw [Hc.out]; rfl, hk4⟩
end Go.Proofs.YthhcihcgefeblaaDoor
