import Derived.Test.YtjnmnkheichflabM4
namespace Go.Proofs.Ytjnmnkheichflab
open Go.RowKit

theorem i64_xor_nat (a b : Nat) (ha : a < 32768) (hb : b < 32768) : bits .xor .i64 (a : Int) (b : Int) = ((a ^^^ b : Nat) : Int) := by
  have hx : a ^^^ b < 2 ^ 15 := Nat.xor_lt_two_pow (by omega) (by omega)
  show IntKind.i64.wrap ((BitVec.ofInt 64 (a : Int) ^^^ BitVec.ofInt 64 (b : Int)).toNat : Int) = _
  have e : ∀ c : Nat, c < 32768 → (BitVec.ofInt 64 (c : Int)).toNat = c := by
    intro c hc
    rw [BitVec.ofInt_natCast, BitVec.toNat_ofNat]; exact Nat.mod_eq_of_lt (by omega)
  rw [BitVec.toNat_xor, e a ha, e b hb]
  have : IntKind.i64.wrap ((a ^^^ b : Nat) : Int) = ((a ^^^ b : Nat) : Int) := by
    simp [IntKind.wrap, IntKind.bits, IntKind.signed]; omega
  exact this

/-- A polynomials' product, of the first k coefficients of b. -/
def cm (a b : Nat) : Nat → Nat
  | 0 => 0
  | k + 1 => cm a b k ^^^ (if b.testBit k then a * 2 ^ k else 0)
theorem cm_lt (a b k : Nat) (ha : a < 256) (hk : k ≤ 8) : cm a b k < 32768 := by
  induction k with
  | zero => show 0 < 32768; decide
  | succ k ih =>
    have h1 := ih (by omega)
    have h2 : (if b.testBit k then a * 2 ^ k else 0) < 32768 := by
      split
      · have : 2 ^ k ≤ 2 ^ 7 := Nat.pow_le_pow_right (by decide) (by omega)
        calc a * 2 ^ k ≤ a * 2 ^ 7 := Nat.mul_le_mul_left _ this
          _ < 32768 := by omega
      · decide
    exact Nat.xor_lt_two_pow (n := 15) h1 h2

/-- One step of the division, and from the degree 14 down k steps. -/
def rs (p i : Nat) : Nat := if p.testBit i then p ^^^ (357 * 2 ^ (i - 8)) else p
def rd (p : Nat) : Nat → Nat
  | 0 => p
  | k + 1 => rs (rd p k) (14 - k)
theorem rs_xor (p q i : Nat) : rs (p ^^^ q) i = rs p i ^^^ rs q i := by
  unfold rs
  rw [Nat.testBit_xor]
  generalize 357 * 2 ^ (i - 8) = z
  cases p.testBit i <;> cases q.testBit i <;> simp only [Bool.false_eq_true, if_false, if_true, Bool.bne_false, Bool.bne_true, Bool.not_false, Bool.xor_self]
  · rw [Nat.xor_assoc]
  · rw [Nat.xor_assoc, Nat.xor_assoc, Nat.xor_comm q]
  · rw [Nat.xor_assoc p z, ← Nat.xor_assoc z q z, Nat.xor_comm z q, Nat.xor_assoc q z z, Nat.xor_self, Nat.xor_zero]
theorem rd_xor (p q k : Nat) : rd (p ^^^ q) k = rd p k ^^^ rd q k := by
  induction k with
  | zero => rfl
  | succ k ih => rw [rd, rd, rd, ih, rs_xor]
theorem rd_zero (k : Nat) : rd 0 k = 0 := by
  have h := rd_xor 0 0 k
  rw [Nat.xor_self, Nat.xor_self] at h
  exact h
theorem rd_all : ∀ a : Fin 256, ∀ k : Fin 8, rd (a.val * 2 ^ k.val) 7 = mu a.val (2 ^ k.val) := by decide +kernel
theorem bits_all : ∀ b : Fin 256, ∀ k : Fin 8, b.val % 2 ^ (k.val + 1) = (b.val % 2 ^ k.val) ^^^ (if b.val.testBit k.val then 2 ^ k.val else 0) := by decide +kernel
theorem rd_cm (a b k : Nat) (ha : a < 256) (hb : b < 256) (hk : k ≤ 8) : rd (cm a b k) 7 = mu a (b % 2 ^ k) := by
  induction k with
  | zero => rw [cm, rd_zero, Nat.pow_zero, Nat.mod_one, mu_zero]
  | succ k ih =>
    rw [cm, rd_xor, ih (by omega), bits_all ⟨b, hb⟩ ⟨k, by omega⟩, mu_xor]
    congr 1
    show rd (if b.testBit k then a * 2 ^ k else 0) 7 = mu a (if b.testBit k then 2 ^ k else 0)
    split
    · exact rd_all ⟨a, ha⟩ ⟨k, by omega⟩
    · rw [rd_zero, mu_zero]
theorem rd_mu (a b : Nat) (ha : a < 256) (hb : b < 256) : rd (cm a b 8) 7 = mu a b := by
  rw [rd_cm a b 8 ha hb (Nat.le_refl _), show b % 2 ^ 8 = b from Nat.mod_eq_of_lt hb]
theorem rs_lt (p i : Nat) (hp : p < 32768) (hi : i ≤ 14) : rs p i < 32768 := by
  unfold rs
  split
  · have : 2 ^ (i - 8) ≤ 2 ^ 6 := Nat.pow_le_pow_right (by decide) (by omega)
    exact Nat.xor_lt_two_pow (n := 15) hp (by omega)
  · exact hp
theorem rd_lt (p k : Nat) (hp : p < 32768) : rd p k < 32768 := by
  induction k with
  | zero => exact hp
  | succ k ih => exact rs_lt _ _ ih (by omega)

theorem cm_pos (a b k : Nat) (h : b.testBit k = true) : cm a b k ^^^ (a * 2 ^ k) = cm a b (k + 1) := by rw [cm, if_pos h]
theorem cm_neg (a b k : Nat) (h : b.testBit k = false) : cm a b k = cm a b (k + 1) := by rw [cm, if_neg (by simp [h]), Nat.xor_zero]
theorem rd_pos (p k : Nat) (h : (rd p k).testBit (14 - k) = true) : rd p k ^^^ (357 * 2 ^ (14 - k - 8)) = rd p (k + 1) := by rw [rd, rs, if_pos h]
theorem rd_neg (p k : Nat) (h : (rd p k).testBit (14 - k) = false) : rd p k = rd p (k + 1) := by
  have : rd p (k + 1) = rs (rd p k) (14 - k) := rfl
  rw [this, rs, if_neg (by simp [h])]

end Go.Proofs.Ytjnmnkheichflab
