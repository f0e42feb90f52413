import Derived.Test.YtpfpmnlklhjggaaC2
namespace Go.Proofs.Ytpfpmnlklhjggaa
open Go.RowKit

/-- The rest of x^(8 n). -/
def far (n : Nat) : BitVec 32 := X (8 * n) 1#32

theorem far_mul (p q : Nat) : M (far p) (far q) = far (p + q) := by
  unfold far
  rw [M_X_X, Nat.mul_add]
theorem far_zero : nm (far 0) = 1 := rfl
theorem far_one : nm (far 1) = 256 := by decide +kernel

set_option maxHeartbeats 1000000 in
set_option maxRecDepth 1000000 in
theorem bytesOn_any (n : Nat) (w : World) (hn : n ≤ 9223372036854775807) :
    Calls Try.prog 28 #[.int .i64 (n : Int)] w fun e w' => e = .returned (.int .u32 (nm (far n))) ∧ w' = w := by
  go_enter Try.func28, Try.ntmps28
  go_wp2
  go_loop [3, 4, 5] (fun p q i => ∃ (x y k : Nat), x + y * k = n ∧ k ≤ 9223372036854775807 ∧ i = .int .i64 k ∧ p = .int .u32 (nm (far x)) ∧ q = .int .u32 (nm (far y))) (fun _ _ i => (intOf i).toNat)
  case atStart => exact ⟨0, 1, n, by omega, hn, rfl, by rw [far_zero], by rw [far_one]⟩
  case round =>
    obtain ⟨x, y, k, hs, hk, rfl, rfl, rfl⟩ := hrel
    have Hs := Hid.mk hs
    clear hs hn
    have H1 := Hid.mk (far_mul x y)
    have H2 := Hid.mk (far_mul y y)
    by_cases h0 : k = 0
    · subst h0
      go_wp2
      go_ret
      exact ⟨ret_int (by have := Hs.out; rw [Nat.mul_zero, Nat.add_zero] at this; rw [this]), rfl⟩
    · have hpos : (0 : Int) < (k : Int) := by omega
      have hd : (k : Int).tdiv 2 = ((k / 2 : Nat) : Int) := by rw [Int.tdiv_eq_ediv_of_nonneg (by omega)]; omega
      have hm2 : (k : Int).tmod 2 = ((k % 2 : Nat) : Int) := by rw [Int.tmod_eq_emod_of_nonneg (by omega)]; omega
      rcases Nat.mod_two_eq_zero_or_one k with h2 | h2
      · rw [h2] at hm2
        have Hn : Hid (x + (y + y) * (k / 2) = n) := by
          have := Hs.out
          have e : y * k = (y + y) * (k / 2) := by
            rw [← Nat.two_mul, Nat.mul_comm 2 y, Nat.mul_assoc, show 2 * (k / 2) = k by omega]
          rw [e] at this
          exact this
        have Hk : Hid (k / 2 < k) := Hid.mk (by omega)
        obtain ⟨A, hA⟩ : ∃ A, A = far x := ⟨_, rfl⟩
        obtain ⟨B, hB⟩ : ∃ B, B = far y := ⟨_, rfl⟩
        rw [← hA, ← hB]
        have HA := Hid.mk hA
        have HB := Hid.mk hB
        clear hA hB h2
        go_wp2_with (go_at_call 27; refine (times_any _ _ _).mono ?_; rintro e w' ⟨rfl, rfl⟩)
        go_round
        case rel => exact ⟨x, y + y, k / 2, Hn.out, by omega, rfl, by rw [HA.out], by rw [HB.out, H2.out]⟩
        case measure => have := Hk.out; simp [intOf]; omega
      · rw [h2] at hm2
        have Hn : Hid (x + y + (y + y) * (k / 2) = n) := by
          have := Hs.out
          have e : y * k = y + (y + y) * (k / 2) := by
            rw [← Nat.two_mul, Nat.mul_comm 2 y, Nat.mul_assoc, Nat.add_comm, ← Nat.mul_succ]
            congr 1
            omega
          rw [e, ← Nat.add_assoc] at this
          exact this
        have Hk : Hid (k / 2 < k) := Hid.mk (by omega)
        obtain ⟨A, hA⟩ : ∃ A, A = far x := ⟨_, rfl⟩
        obtain ⟨B, hB⟩ : ∃ B, B = far y := ⟨_, rfl⟩
        rw [← hA, ← hB]
        have HA := Hid.mk hA
        have HB := Hid.mk hB
        clear hA hB h2
        go_wp2_with (go_at_call 27; refine (times_any _ _ _).mono ?_; rintro e w' ⟨rfl, rfl⟩)
        go_round
        case rel => exact ⟨x + y, y + y, k / 2, Hn.out, by omega, rfl, by rw [HA.out, HB.out, H1.out], by rw [HB.out, H2.out]⟩
        case measure => have := Hk.out; simp [intOf]; omega

/-- What Join comes to. -/
def jn (a b : BitVec 32) (n : Nat) : BitVec 32 := b ^^^ X (8 * n) a

theorem jn_code (a b : BitVec 32) (n : Nat) : b ^^^ M a (far n) = jn a b n := by rw [far, M_X]; rfl
theorem jn_doc (a b : BitVec 32) (n : Nat) : b ^^^ M (far n) a = jn a b n := by rw [M_comm, jn_code]

set_option maxHeartbeats 400000 in
theorem join_any (a b : BitVec 32) (n : Nat) (w : World) (hn : n ≤ 9223372036854775807) :
    Calls Try.prog 13 #[.int .u32 (nm a), .int .u32 (nm b), .int .i64 (n : Int)] w fun e w' => e = .returned (.tuple #[.int .u32 (nm (jn a b n)), .int .i64 0]) ∧ w' = w := by
  have hx := nm_xor b (M a (far n))
  rw [jn_code] at hx
  go_enter Try.func13, Try.ntmps13
  go_wp2_with (first
    | (go_at_call 28; refine (bytesOn_any n _ hn).mono ?_; rintro e w' ⟨rfl, rfl⟩)
    | (go_at_call 27; refine (times_any _ _ _).mono ?_; rintro e w' ⟨rfl, rfl⟩))
  go_ret2
  exact ⟨rfl, rfl⟩

set_option maxHeartbeats 400000 in
theorem join_neg (a b n : Int) (w : World) (hn : n < 0) :
    Calls Try.prog 13 #[.int .u32 a, .int .u32 b, .int .i64 n] w fun e w' => e = .returned (.tuple #[.int .u32 0, .int .i64 31]) ∧ w' = w := by
  go_enter Try.func13, Try.ntmps13
  go_wp2
  go_ret2
  exact ⟨rfl, rfl⟩

set_option maxHeartbeats 400000 in
theorem joinD_neg (a b n : Int) (w : World) (hn : n < 0) :
    Calls Try.prog 14 #[.int .u32 a, .int .u32 b, .int .i64 n] w fun e w' => e = .returned (.tuple #[.int .u32 0, .int .i64 31]) ∧ w' = w := by
  go_enter Try.func14, Try.ntmps14
  go_wp2
  go_ret2
  exact ⟨rfl, rfl⟩

set_option maxHeartbeats 1000000 in
set_option maxRecDepth 1000000 in
theorem joinD_any (a b : BitVec 32) (n : Nat) (w : World) (hn : n ≤ 9223372036854775807) :
    Calls Try.prog 14 #[.int .u32 (nm a), .int .u32 (nm b), .int .i64 (n : Int)] w fun e w' => e = .returned (.tuple #[.int .u32 (nm (jn a b n)), .int .i64 0]) ∧ w' = w := by
  have hx := nm_xor b (M (far n) a)
  rw [jn_doc] at hx
  have Hx := Hid.mk hx
  clear hx
  go_enter Try.func14, Try.ntmps14
  go_wp2
  go_loop [2, 8, 9] (fun i p q => ∃ (x y k : Nat), x + y * k = n ∧ k ≤ 9223372036854775807 ∧ i = .int .i64 k ∧ p = .int .u32 (nm (far x)) ∧ q = .int .u32 (nm (far y))) (fun i _ _ => (intOf i).toNat)
  case atStart => exact ⟨0, 1, n, by omega, hn, rfl, by rw [far_zero], by rw [far_one]⟩
  case round =>
    obtain ⟨x, y, k, hs, hk, rfl, rfl, rfl⟩ := hrel
    have Hs := Hid.mk hs
    clear hs hn
    have H1 := Hid.mk (far_mul y x)
    have H2 := Hid.mk (far_mul y y)
    by_cases h0 : k = 0
    · subst h0
      obtain rfl : x = n := by have := Hs.out; rw [Nat.mul_zero, Nat.add_zero] at this; exact this
      have hx := Hx.out
      go_wp2_with (go_at_call 29; refine (timesD_any _ _ _).mono ?_; rintro e w' ⟨rfl, rfl⟩)
      go_ret2
      exact ⟨rfl, rfl⟩
    · have hpos : (0 : Int) < (k : Int) := by omega
      have hd : (k : Int).tdiv 2 = ((k / 2 : Nat) : Int) := by rw [Int.tdiv_eq_ediv_of_nonneg (by omega)]; omega
      have hm2 : (k : Int).tmod 2 = ((k % 2 : Nat) : Int) := by rw [Int.tmod_eq_emod_of_nonneg (by omega)]; omega
      rcases Nat.mod_two_eq_zero_or_one k with h2 | h2
      · rw [h2] at hm2
        have Hn : Hid (x + (y + y) * (k / 2) = n) := by
          have := Hs.out
          have e : y * k = (y + y) * (k / 2) := by
            rw [← Nat.two_mul, Nat.mul_comm 2 y, Nat.mul_assoc, show 2 * (k / 2) = k by omega]
          rw [e] at this
          exact this
        have Hk : Hid (k / 2 < k) := Hid.mk (by omega)
        obtain ⟨A, hA⟩ : ∃ A, A = far x := ⟨_, rfl⟩
        obtain ⟨B, hB⟩ : ∃ B, B = far y := ⟨_, rfl⟩
        rw [← hA, ← hB]
        have HA := Hid.mk hA
        have HB := Hid.mk hB
        clear hA hB h2
        go_wp2_with (go_at_call 29; refine (timesD_any _ _ _).mono ?_; rintro e w' ⟨rfl, rfl⟩)
        go_round
        case rel => exact ⟨x, y + y, k / 2, Hn.out, by omega, rfl, by rw [HA.out], by rw [HB.out, H2.out]⟩
        case measure => have := Hk.out; simp [intOf]; omega
      · rw [h2] at hm2
        have Hn : Hid (y + x + (y + y) * (k / 2) = n) := by
          have := Hs.out
          have e : y * k = y + (y + y) * (k / 2) := by
            rw [← Nat.two_mul, Nat.mul_comm 2 y, Nat.mul_assoc, Nat.add_comm, ← Nat.mul_succ]
            congr 1
            omega
          rw [e, ← Nat.add_assoc, Nat.add_comm x y] at this
          exact this
        have Hk : Hid (k / 2 < k) := Hid.mk (by omega)
        obtain ⟨A, hA⟩ : ∃ A, A = far x := ⟨_, rfl⟩
        obtain ⟨B, hB⟩ : ∃ B, B = far y := ⟨_, rfl⟩
        rw [← hA, ← hB]
        have HA := Hid.mk hA
        have HB := Hid.mk hB
        clear hA hB h2
        go_wp2_with (go_at_call 29; refine (timesD_any _ _ _).mono ?_; rintro e w' ⟨rfl, rfl⟩)
        go_round
        case rel => exact ⟨y + x, y + y, k / 2, Hn.out, by omega, rfl, by rw [HA.out, HB.out, H1.out], by rw [HB.out, H2.out]⟩
        case measure => have := Hk.out; simp [intOf]; omega
end Go.Proofs.Ytpfpmnlklhjggaa
