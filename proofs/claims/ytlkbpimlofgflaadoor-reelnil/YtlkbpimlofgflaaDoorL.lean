import Derived.Test.YtlkbpimlofgflaaDoorD
import Derived.Lib.Strings
import Derived.Lib.Slices
import Derived.Lib.Small
import Derived.Lib.Walk
import Derived.Lib.BitFns
namespace Go.Proofs.YtlkbpimlofgflaaDoor
open Go.RowKit

theorem tab_int (x : Int) (h0 : 0 ≤ x) (h : x.toNat < Lib.len8tab.size) : wrap64 ((Lib.len8tab[x.toNat]'h).toNat : Int) = (Lib.bitLen x.toNat : Int) ∧ Lib.bitLen x.toNat ≤ 8 := by
  have h2 : x.toNat < 256 := by rw [← Lib.len8tab_size]; exact h
  have hl : Lib.bitLen x.toNat ≤ 8 := Lib.bitLen_le8 ⟨x.toNat, h2⟩
  have e := Lib.len8_of x h0 (by omega)
  unfold Lib.len8 at e
  rw [getElem?_pos Lib.len8tab x.toNat h, Option.getD_some] at e
  refine ⟨?_, hl⟩
  rw [e]
  unfold wrap64
  omega

theorem nextN_lt (l : List Nat) (t n : Nat) : nextN l t n < 2 ^ n := Nat.mod_lt _ (Nat.two_pow_pos _)

/-- Two numbers taken one behind the other. -/
theorem nextN_join (l : List Nat) (t a b : Nat) (h : t + a + b ≤ 8 * l.length) : nextN l t (a + b) = nextN l t a * 2 ^ b + nextN l (t + a) b := by
  unfold nextN
  have e1 : 8 * l.length - (t + a) = (8 * l.length - (t + (a + b))) + b := by omega
  have e2 : t + a + b = t + (a + b) := by omega
  have e3 : num l / 2 ^ (8 * l.length - (t + (a + b)) + b) = num l / 2 ^ (8 * l.length - (t + (a + b))) / 2 ^ b := by rw [Nat.pow_add, ← Nat.div_div_eq_div_mul]
  rw [e1, e2, e3]
  generalize num l / 2 ^ (8 * l.length - (t + (a + b))) = Y
  rw [Nat.add_comm a b, Nat.pow_add, Nat.mod_mul, Nat.mul_comm (2 ^ b), Nat.add_comm]

/-- One bit out of a number. -/
theorem nextN_bit (l : List Nat) (t m i : Nat) (hi : i < m) (h : t + m ≤ 8 * l.length) : nextN l (t + i) 1 = nextN l t m / 2 ^ (m - 1 - i) % 2 := by
  have h1 := nextN_join l t i (m - i) (by omega)
  have h2 := nextN_join l (t + i) 1 (m - i - 1) (by omega)
  rw [show i + (m - i) = m by omega] at h1
  rw [show 1 + (m - i - 1) = m - i by omega] at h2
  have l3 := nextN_lt l (t + i + 1) (m - i - 1)
  have l4 := nextN_lt l (t + i) 1
  have e : m - i = (m - 1 - i) + 1 := by omega
  have e' : m - i - 1 = m - 1 - i := by omega
  rw [e'] at h2 l3
  rw [h1, h2, e, Nat.pow_succ]
  generalize nextN l t i = A at *
  generalize nextN l (t + i) 1 = Bt at *
  generalize nextN l (t + i + 1) (m - 1 - i) = C at *
  generalize 2 ^ (m - 1 - i) = P at *
  have e3 : A * (P * 2) + (Bt * P + C) = (A * 2 + Bt) * P + C := by rw [Nat.add_mul, Nat.mul_assoc, Nat.mul_comm 2 P, Nat.add_assoc]
  rw [e3, Nat.add_comm, Nat.add_mul_div_right _ _ (by omega), Nat.div_eq_of_lt l3, Nat.zero_add]
  omega

theorem bitLen_zero : Lib.bitLen 0 = 0 := by decide
theorem bitLen_bounds (x : Nat) (h : x < 2 ^ 64) (h0 : x ≠ 0) : 1 ≤ Lib.bitLen x ∧ 2 ^ (Lib.bitLen x - 1) ≤ x ∧ x < 2 ^ Lib.bitLen x := by
  induction x using Nat.strongRecOn with
  | _ x ih =>
    have hh := Lib.bitLen_half x h0 h
    by_cases h1 : x / 2 = 0
    · have : x = 1 := by omega
      subst this
      decide
    · have := ih (x / 2) (by omega) (by omega) h1
      rw [hh]
      have e : 1 + Lib.bitLen (x / 2) - 1 = (Lib.bitLen (x / 2) - 1) + 1 := by omega
      rw [e, Nat.pow_succ, Nat.add_comm 1, Nat.pow_succ]
      omega

/-- What Get comes to. -/
def GetRes (l : List Nat) (t n : Nat) (X E : Int) (t' : Nat) : Prop :=
  (t + n ≤ 8 * l.length ∧ X = (nextN l t n : Int) ∧ E = 0 ∧ t' = t + n) ∨ (8 * l.length < t + n ∧ X = 0 ∧ E = 13 ∧ t' = t)

theorem getRes_ex (l : List Nat) (t n : Nat) : ∃ X E t', GetRes l t n X E t' := by
  by_cases h : t + n ≤ 8 * l.length
  · exact ⟨_, _, _, .inl ⟨h, rfl, rfl, rfl⟩⟩
  · exact ⟨_, _, _, .inr ⟨by omega, rfl, rfl, rfl⟩⟩

/-- What Zeros comes to. -/
def ZerosRes (l : List Nat) (t n : Nat) (Z E : Int) (t' : Nat) : Prop :=
  (∃ j, j < n ∧ t + j < 8 * l.length ∧ (∀ i, i < j → nextN l (t + i) 1 = 0) ∧ nextN l (t + j) 1 = 1 ∧ Z = (j : Int) ∧ E = 0 ∧ t' = t + j + 1) ∨
  (t + n ≤ 8 * l.length ∧ (∀ i, i < n → nextN l (t + i) 1 = 0) ∧ Z = (n : Int) ∧ E = 0 ∧ t' = t + n) ∨
  (8 * l.length < t + n ∧ (∀ i, t + i < 8 * l.length → nextN l (t + i) 1 = 0) ∧ Z = 0 ∧ E = 13 ∧ t' = t)

/-- The noughts ahead of the first one of m bits. -/
theorem lead (l : List Nat) (t m : Nat) (hm : m ≤ 32) (h : t + m ≤ 8 * l.length) (hx : nextN l t m ≠ 0) :
    Lib.bitLen (nextN l t m) ≤ m ∧ 1 ≤ Lib.bitLen (nextN l t m) ∧ (∀ i, i < m - Lib.bitLen (nextN l t m) → nextN l (t + i) 1 = 0) ∧ nextN l (t + (m - Lib.bitLen (nextN l t m))) 1 = 1 := by
  have hlt := nextN_lt l t m
  have h64 : nextN l t m < 2 ^ 64 := Nat.lt_of_lt_of_le hlt (Nat.pow_le_pow_right (by decide) (by omega))
  obtain ⟨b1, b2, b3⟩ := bitLen_bounds _ h64 hx
  have hle := Lib.bitLen_le (nextN l t m) m (by omega) hlt
  refine ⟨hle, b1, fun i hi => ?_, ?_⟩
  · rw [nextN_bit l t m i (by omega) h, Nat.div_eq_of_lt]
    exact Nat.lt_of_lt_of_le b3 (Nat.pow_le_pow_right (by decide) (by omega))
  · rw [nextN_bit l t m _ (by omega) h, show m - 1 - (m - Lib.bitLen (nextN l t m)) = Lib.bitLen (nextN l t m) - 1 by omega]
    have e : 2 ^ Lib.bitLen (nextN l t m) = 2 * 2 ^ (Lib.bitLen (nextN l t m) - 1) := by
      rw [← Nat.pow_succ']; congr 1; omega
    have : nextN l t m / 2 ^ (Lib.bitLen (nextN l t m) - 1) = 1 := by
      rw [Nat.div_eq_of_lt_le] <;> omega
    rw [this]

theorem lead_none (l : List Nat) (t m : Nat) (h : t + m ≤ 8 * l.length) (hx : nextN l t m = 0) : ∀ i, i < m → nextN l (t + i) 1 = 0 := by
  intro i hi
  rw [nextN_bit l t m i hi h, hx]
  simp

theorem next_u32 (l : List Nat) (t k : Nat) (h : k ≤ 32) : (nextN l t k : Int) ≤ 4294967295 := by
  have h1 := nextN_lt l t k
  have h2 : (2 : Nat) ^ k ≤ 2 ^ 32 := Nat.pow_le_pow_right (by decide) h
  have h3 : (2 : Nat) ^ 32 = 4294967296 := by decide
  have h4 : nextN l t k < 4294967296 := by rw [← h3]; exact Nat.lt_of_lt_of_le h1 h2
  omega

end Go.Proofs.YtlkbpimlofgflaaDoor
