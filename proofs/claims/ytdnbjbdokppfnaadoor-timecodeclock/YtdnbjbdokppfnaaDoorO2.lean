import Derived.Test.YtdnbjbdokppfnaaDoorO1
namespace Go.Proofs.YtdnbjbdokppfnaaDoor
open Go.RowKit

theorem pw_add (a b : Nat) : pw (a + b) = 2 ^ b * pw a := by unfold pw; rw [Nat.pow_add, Nat.mul_comm]
theorem pw_pos (a : Nat) : 0 < pw a := Nat.two_pow_pos a
theorem pw_at (a b c k : Nat) (h : c = a + b) (hk : 2 ^ b = k) : pw c = k * pw a := by rw [h, pw_add, hk]
theorem pw74 : pw 1074 = 68719476736 * pw 1038 := pw_at 1038 36 1074 _ (by decide) (by decide)
theorem pw91 : pw 1091 = 9007199254740992 * pw 1038 := pw_at 1038 53 1091 _ (by decide) (by decide)
set_option maxRecDepth 100000 in
/-- A whole number as a float: exact. -/
theorem int_exact (x : Nat) (h0 : 0 < x) (h : x < 4503599627370496) : ∃ m, Ieee.double.read (floatOfInt .f64 (x : Int)) = .number false m ((x.log2 : Int) - 52) ∧ m = x * 2 ^ (52 - x.log2) ∧ m.log2 = 52 ∧ x.log2 ≤ 51 := by
  have g1 : 2 ^ x.log2 ≤ x := Nat.log2_self_le (by omega)
  have g2 : x < 2 ^ (x.log2 + 1) := Nat.lt_log2_self
  have g3 : x.log2 < 52 := (Nat.log2_lt (by omega)).2 h
  have hq : floatOfInt .f64 (x : Int) = Ieee.double.nearest false x 0 := by
    show Ieee.double.write (.number (decide ((x : Int) < 0)) (x : Int).natAbs 0) = _
    rw [show decide ((x : Int) < 0) = false by simp]
    rfl
  rw [hq]
  obtain ⟨g, eg⟩ : ∃ g, x.log2 = g := ⟨_, rfl⟩
  rw [eg] at g1 g2 g3 ⊢
  unfold Ieee.Format.nearest
  rw [if_neg (by omega)]
  simp only [dbl_binade, dbl_inf, dbl_least, dbl_frac, eg]
  have hL : max ((0 : Int) + (g : Int) - 52) (-1074) = (g : Int) - 52 := by omega
  rw [hL]
  have u1 : ((0 : Int) - ((g : Int) - 52)).toNat = 52 - g := by omega
  have u2 : ((g : Int) - 52 - 0).toNat = 0 := by omega
  have u3 : ((g : Int) - 52 - -1074).toNat = g + 1022 := by omega
  rw [u1, u2, u3, cut_zero, Nat.shiftLeft_eq]
  have k1 : x * 2 ^ (52 - g) < 2 ^ (g + 1) * 2 ^ (52 - g) := Nat.mul_lt_mul_of_pos_right g2 (Nat.two_pow_pos _)
  have k2 : 2 ^ g * 2 ^ (52 - g) ≤ x * 2 ^ (52 - g) := Nat.mul_le_mul_right _ g1
  rw [← Nat.pow_add, show g + 1 + (52 - g) = 53 by omega] at k1
  rw [← Nat.pow_add, show g + (52 - g) = 52 by omega] at k2
  generalize x * 2 ^ (52 - g) = k at k1 k2 ⊢
  have e53 : (2 : Nat) ^ 53 = 9007199254740992 := by decide
  have e52 : (2 : Nat) ^ 52 = 4503599627370496 := by decide
  rw [Nat.min_eq_left (by omega)]
  obtain ⟨m, p, h1, _, _, h4⟩ := read_rung false (g + 1022) k (by omega) (by omega) (fun _ => by omega)
  obtain ⟨rfl, rfl⟩ := h4 (by omega) (by omega)
  refine ⟨m, ?_, rfl, ?_, by omega⟩
  · rw [h1]; congr 1; omega
  · have a1 : m.log2 < 53 := (Nat.log2_lt (by omega)).2 k1
    have a2 : 52 ≤ m.log2 := (Nat.le_log2 (by omega)).2 k2
    omega
/-- Signed. -/
def sg (s : Bool) (x : Nat) : Int := if s then -(x : Int) else x
theorem cmp_mul (a b k : Int) (hk : 0 < k) : compare a b = compare (a * k) (b * k) := by
  have e : ∀ x y : Int, compare x y = if x < y then .lt else if x = y then .eq else .gt := fun _ _ => rfl
  rw [e, e]
  by_cases h1 : a < b
  · rw [if_pos h1, if_pos (Int.mul_lt_mul_of_pos_right h1 hk)]
  · rw [if_neg h1]
    by_cases h2 : a = b
    · subst h2; simp
    · have h3 : b < a := by omega
      have h4 := Int.mul_lt_mul_of_pos_right h3 hk
      rw [if_neg h2, if_neg (by omega), if_neg (by omega)]
theorem signed_sg (s : Bool) (m u v : Nat) : Ieee.signed s m u * ((2 ^ v : Nat) : Int) = sg s (m * 2 ^ (u + v)) := by
  unfold Ieee.signed sg
  rw [Nat.shiftLeft_eq, Nat.pow_add, ← Nat.mul_assoc]
  cases s
  · simp [Int.natCast_mul]
  · simp [Int.natCast_mul, Int.neg_mul]
theorem order_wth (s t : Bool) (m n : Nat) (p j : Int) (hp : -1074 ≤ p) (hj : -1074 ≤ j) : (Ieee.Datum.number s m p).order (.number t n j) = some (compare (sg s (wth m p)) (sg t (wth n j))) := by
  show some (compare (Ieee.signed s m (p - min p j).toNat) (Ieee.signed t n (j - min p j).toNat)) = _
  congr 1
  rw [cmp_mul _ _ ((2 ^ (min p j + 1074).toNat : Nat) : Int) (Int.natCast_pos.2 (Nat.two_pow_pos _)), signed_sg, signed_sg]
  unfold wth
  rw [show (p - min p j).toNat + (min p j + 1074).toNat = (p + 1074).toNat by omega, show (j - min p j).toNat + (min p j + 1074).toNat = (j + 1074).toNat by omega]
end Go.Proofs.YtdnbjbdokppfnaaDoor
