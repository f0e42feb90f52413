import Derived.Test.YtoghkbajdljheaaQ3
import Derived.Deep.RegionHeld3
namespace Go.Proofs.Ytoghkbajdljheaa
open Go.RowKit

/-- A number in n binary digits, the highest first. -/
def bin : Nat → Nat → List Nat
  | 0, _ => []
  | n + 1, X => bin n (X / 2) ++ [X % 2]

theorem bin_length (n X : Nat) : (bin n X).length = n := by
  induction n generalizing X with
  | zero => rfl
  | succ n ih => simp [bin, ih]

theorem bin_getD (n X k : Nat) (h : k < n) : (bin n X).getD k 0 = X / 2 ^ (n - 1 - k) % 2 := by
  induction n generalizing X with
  | zero => omega
  | succ n ih =>
    by_cases hk : k < n
    · rw [bin, List.getD_eq_getElem?_getD, List.getElem?_append_left (by rw [bin_length]; exact hk), ← List.getD_eq_getElem?_getD, ih (X / 2) hk, Nat.div_div_eq_div_mul, ← Nat.pow_succ', show (n - 1 - k).succ = n + 1 - 1 - k by omega]
    · obtain rfl : k = n := by omega
      rw [bin, List.getD_eq_getElem?_getD, List.getElem?_append_right (by rw [bin_length]; omega), bin_length]
      simp

theorem bin_add (a b X : Nat) : bin (a + b) X = bin a (X / 2 ^ b) ++ bin b X := by
  induction b generalizing X with
  | zero => simp [bin]
  | succ b ih =>
    rw [← Nat.add_assoc, bin, ih, bin, ← List.append_assoc, Nat.div_div_eq_div_mul, ← Nat.pow_succ']

theorem bin_mod (b X : Nat) : bin b (X % 2 ^ b) = bin b X := by
  induction b generalizing X with
  | zero => rfl
  | succ b ih =>
    rw [bin, bin, ← ih (X / 2)]
    have e : X % 2 ^ (b + 1) / 2 = X / 2 % 2 ^ b := by
      rw [Nat.pow_succ, Nat.mul_comm, Nat.mod_mul_right_div_self]
    have e2 : X % 2 ^ (b + 1) % 2 = X % 2 := Nat.mod_mod_of_dvd _ ⟨2 ^ b, by rw [Nat.pow_succ, Nat.mul_comm]⟩
    rw [e, e2]

/-- What is laid behind what stands. -/
theorem bin_put (len n N v : Nat) (hv : v < 2 ^ n) : bin (len + n) (N * 2 ^ n + v) = bin len N ++ bin n v := by
  rw [bin_add]
  have h1 : (N * 2 ^ n + v) / 2 ^ n = N := by
    rw [Nat.mul_comm, Nat.mul_add_div (Nat.two_pow_pos n), Nat.div_eq_of_lt hv]; omega
  have h2 : bin n (N * 2 ^ n + v) = bin n v := by
    rw [← bin_mod n (N * 2 ^ n + v), Nat.mul_comm, Nat.mul_add_mod, bin_mod]
  rw [h1, h2]

theorem bin_byts (n X : Nat) : ∀ b ∈ bin n X, b < 2 := by
  induction n generalizing X with
  | zero => intro b h; simp [bin] at h
  | succ n ih =>
    intro b h
    rw [bin, List.mem_append] at h
    rcases h with h | h
    · exact ih _ b h
    · simp at h; omega

theorem pow_step (j : Nat) (n : Int) (x : Int) (hj : (j : Int) < n) (hn : n ≤ 63) (hx : x = ((2 ^ j : Nat) : Int)) : 1 ≤ x ∧ 2 * x < 18446744073709551616 ∧ 2 * x = ((2 ^ (j + 1) : Nat) : Int) := by
  have h1 : (2 : Nat) ^ (j + 1) ≤ 2 ^ 63 := Nat.pow_le_pow_right (by decide) (by omega)
  have h2 := Nat.two_pow_pos j
  rw [Nat.pow_succ] at h1 ⊢
  generalize (2 : Nat) ^ j = y at *
  refine ⟨by omega, by omega, by omega⟩

set_option maxHeartbeats 1000000 in
/-- The document's power. -/
theorem power_any (n X : Int) (w : World) (h0 : 0 ≤ n) (h1 : n ≤ 63) (hX : X = ((2 ^ n.toNat : Nat) : Int)) :
    Calls Try.prog 50 #[.int .i64 n] w fun e w' => e = .returned (.int .u64 X) ∧ w' = w := by
  have HX := Hid.mk hX
  clear hX
  go_enter Try.func50, Try.ntmps50
  go_wp2
  go_loop [3, 4] (fun v i => ∃ (j : Nat) (x : Int), (j : Int) ≤ n ∧ i = .int .i64 j ∧ v = .int .u64 x ∧ x = ((2 ^ j : Nat) : Int)) (fun _ i => n.toNat - (intOf i).toNat)
  case atStart => exact ⟨0, 1, by omega, rfl, rfl, rfl⟩
  case round =>
    obtain ⟨j, x, hj, rfl, rfl, hx⟩ := hrel
    have Hx := Hid.mk hx
    by_cases hlt : (j : Int) < n
    · obtain ⟨x0, x1, x2⟩ := pow_step j n x hlt h1 hx
      have Hx2 := Hid.mk x2
      clear hx x2
      go_wp2
      go_round
      case rel => exact ⟨j + 1, 2 * x, by omega, by go_num, by go_num, Hx2.out⟩
      case measure => simp [intOf]; omega
    · clear hx
      go_wp2
      go_ret
      refine ⟨ret_int ?_, rfl⟩
      rw [HX.out, Hx.out, show n.toNat = j by omega]

/-- The document's writer: its bits. -/
def RefW (w : World) (B : Nat) (V : Value) (bs : List Nat) : Prop :=
  w.heap[B]? = some (.cells #[V] 78 (0, 0)) ∧ w.ownsRow 0 5 1 V bs.length (bs.map byt)

theorem cells_one' {w : World} {B : Nat} {a : Value} {t : TypeId} (h : w.heap[B]? = some (.cells #[a] t (0, 0))) : w.cell? ⟨B, 0, none⟩ = some a ∧ w.frozen? ⟨B, 0, none⟩ = false := by
  refine ⟨?_, ?_⟩ <;> simp [World.cell?, World.frozen?, h]

set_option maxHeartbeats 400000 in
theorem refNewWriter_any (w : World) :
    Calls Try.prog 11 #[] w fun e w' => e = .returned (.pointer (some ⟨w.heap.size, 0, none⟩)) ∧ w' = w.alloc (.cells #[.slice none 0 0] 78) := by
  go_enter Try.func11, Try.ntmps11
  go_wp2
  go_ret
  exact ⟨rfl, rfl⟩

set_option maxHeartbeats 400000 in
theorem refLen_any (B : Nat) (V : Value) (bs : List Nat) (w : World) (h : RefW w B V bs) :
    Calls Try.prog 48 #[.pointer (some ⟨B, 0, none⟩)] w fun e w' => e = .returned (.int .i64 (bs.length : Int)) ∧ w' = w := by
  obtain ⟨c0, c1⟩ := cells_one' h.1
  obtain ⟨ao, cap, rfl⟩ := row_form h.2
  go_enter Try.func48, Try.ntmps48
  go_wp2
  go_ret
  exact ⟨rfl, rfl⟩

set_option maxHeartbeats 400000 in
theorem refPut_width (B : Nat) (v n : Int) (w : World) (h : n < 0 ∨ 32 < n) :
    Calls Try.prog 47 #[.pointer (some ⟨B, 0, none⟩), .int .u32 v, .int .i64 n] w fun e w' => e = .returned (.int .i64 11) ∧ w' = w := by
  rcases h with h | h
  · go_enter Try.func47, Try.ntmps47
    go_wp2
    go_ret
    exact ⟨rfl, rfl⟩
  · have t1 : decide (n < 0) = false := by simp; omega
    go_enter Try.func47, Try.ntmps47
    go_wp2
    go_ret
    exact ⟨rfl, rfl⟩

set_option maxHeartbeats 400000 in
theorem refPut_value (B : Nat) (v n X : Int) (w : World) (h0 : 0 ≤ n) (h1 : n ≤ 32) (v0 : 0 ≤ v) (v1 : v < 4294967296) (hX : X = ((2 ^ n.toNat : Nat) : Int)) (hv : X ≤ v) :
    Calls Try.prog 47 #[.pointer (some ⟨B, 0, none⟩), .int .u32 v, .int .i64 n] w fun e w' => e = .returned (.int .i64 12) ∧ w' = w := by
  have HX := Hid.mk hX
  have t1 : decide (n < 0) = false := by simp; omega
  clear hX
  go_enter Try.func47, Try.ntmps47
  go_wp2_with (go_at_call 50; refine (power_any _ X _ (by omega) (by omega) HX.out).mono ?_; rintro e w1 ⟨rfl, rfl⟩)
  go_ret
  exact ⟨rfl, rfl⟩
end Go.Proofs.Ytoghkbajdljheaa
