import Derived.Laws.BitsAllLaws
import Derived.WalkKit
namespace Go.Proofs.Ytmgfapooanpgfaa
open Go Go.RowKit

/-- The modulus' lower coefficients. -/
def P : BitVec 8 := 0x65#8

/-- An element times x. -/
def tx (a : BitVec 8) : BitVec 8 := (a <<< 1) ^^^ (if a.msb then P else 0#8)

theorem xor4 (a b c d : BitVec 8) : (a ^^^ b) ^^^ (c ^^^ d) = (a ^^^ c) ^^^ (b ^^^ d) := by
  rw [BitVec.xor_assoc, ← BitVec.xor_assoc b, BitVec.xor_comm b c, BitVec.xor_assoc c, ← BitVec.xor_assoc a]

theorem shl_xor (a b : BitVec 8) (n : Nat) : (a ^^^ b) <<< n = (a <<< n) ^^^ (b <<< n) := by
  ext i hi
  simp only [BitVec.getElem_shiftLeft, BitVec.getElem_xor]
  cases decide (i < n) <;> simp

theorem tx_xor (a b : BitVec 8) : tx (a ^^^ b) = tx a ^^^ tx b := by
  unfold tx
  rw [shl_xor, xor4, BitVec.msb_xor]
  congr 1
  cases a.msb <;> cases b.msb <;> simp

theorem tx_zero : tx 0#8 = 0#8 := by decide

/-- By Horner: coefficients, the highest first. -/
def hor (c : Nat → Bool) : Nat → BitVec 8
  | 0 => 0#8
  | n + 1 => tx (hor c n) ^^^ (if c n then 1#8 else 0#8)

theorem shl1_bit (a : BitVec 8) (j : Nat) (hj : j < 8) : (a <<< 1).getLsbD j = (decide (0 < j) && a.getLsbD (j - 1)) := by
  rw [BitVec.getLsbD_shiftLeft]
  cases j <;> simp [hj]

theorem tx_low {a : BitVec 8} (h : a.getLsbD 7 = false) : tx a = a <<< 1 := by
  unfold tx
  rw [BitVec.msb_eq_getLsbD_last, show 8 - 1 = 7 from rfl, h]
  simp

theorem hor_bit (c : Nat → Bool) (k : Nat) (hk : k ≤ 8) (j : Nat) (hj : j < 8) : (hor c k).getLsbD j = (decide (j < k) && c (k - 1 - j)) := by
  induction k generalizing j with
  | zero => simp [hor]
  | succ k ih =>
    have h31 : (hor c k).getLsbD 7 = false := by rw [ih (by omega) 7 (by omega)]; simp; intro h; omega
    rw [hor, tx_low h31, BitVec.getLsbD_xor, shl1_bit _ _ hj]
    rcases j with _ | j
    · cases hc : c k <;> simp [hc]
    · rw [ih (by omega) _ (by omega)]
      have e : k + 1 - 1 - (j + 1) = k - 1 - j := by omega
      rw [e]
      cases hc : c k <;> simp [BitVec.getLsbD_one]

theorem hor_8 (a : BitVec 8) : hor (fun i => a.getLsbD (7 - i)) 8 = a := by
  apply BitVec.eq_of_getLsbD_eq
  intro j hj
  rw [hor_bit _ _ (Nat.le_refl _) _ hj]
  simp only [hj, decide_true, Bool.true_and]
  congr 1
  omega

/-- A product, by Horner over the first one's coefficients. -/
def mh (a b : BitVec 8) : Nat → BitVec 8
  | 0 => 0#8
  | k + 1 => tx (mh a b k) ^^^ (if a.getLsbD (7 - k) then b else 0#8)

def M (a b : BitVec 8) : BitVec 8 := mh a b 8

theorem mh_xor (a b c : BitVec 8) (k : Nat) : mh a (b ^^^ c) k = mh a b k ^^^ mh a c k := by
  induction k with
  | zero => simp [mh]
  | succ k ih =>
    rw [mh, mh, mh, ih, tx_xor, xor4]
    congr 1
    split <;> simp

theorem mh_tx (a b : BitVec 8) (k : Nat) : mh a (tx b) k = tx (mh a b k) := by
  induction k with
  | zero => simp [mh, tx_zero]
  | succ k ih =>
    rw [mh, mh, ih, tx_xor]
    congr 1
    split <;> simp [tx_zero]

theorem mh_one (a : BitVec 8) (k : Nat) : mh a 1#8 k = hor (fun i => a.getLsbD (7 - i)) k := by
  induction k with
  | zero => rfl
  | succ k ih => rw [mh, hor, ih]

theorem M_one (a : BitVec 8) : M a 1#8 = a := by rw [M, mh_one, hor_8]
theorem M_tx (a b : BitVec 8) : M a (tx b) = tx (M a b) := mh_tx a b 8
theorem M_xor (a b c : BitVec 8) : M a (b ^^^ c) = M a b ^^^ M a c := mh_xor a b c 8
theorem M_zero (a : BitVec 8) : M a 0#8 = 0#8 := by
  have h := M_xor a 0#8 0#8
  rw [BitVec.xor_self, BitVec.xor_self] at h
  exact h

theorem M_mh (a b c : BitVec 8) (k : Nat) : M a (mh b c k) = mh b (M a c) k := by
  induction k with
  | zero => exact M_zero a
  | succ k ih =>
    rw [mh, mh, M_xor, M_tx, ih]
    congr 1
    split
    · rfl
    · exact M_zero a

theorem M_comm (a b : BitVec 8) : M a b = M b a := by
  have h := M_mh a b 1#8 8
  have h2 : mh b 1#8 8 = b := M_one b
  rw [h2, M_one] at h
  exact h

theorem M_left (a b c : BitVec 8) : M a (M b c) = M b (M a c) := M_mh a b c 8
theorem M_assoc (a b c : BitVec 8) : M (M a b) c = M a (M b c) := by
  rw [M_comm (M a b) c, M_left, M_comm c b]

/-- A number's element. -/
def el (n : Nat) : BitVec 8 := BitVec.ofNat 8 n

theorem el_toNat (a : BitVec 8) : el a.toNat = a := by simp [el]
theorem toNat_el {n : Nat} (h : n < 256) : (el n).toNat = n := by simp [el]; omega
theorem el_xor (x y : Nat) : el (x ^^^ y) = el x ^^^ el y := by
  apply BitVec.eq_of_getLsbD_eq
  intro j hj
  simp [el, hj]

/-- Products of numbers below 256. -/
def mu (a b : Nat) : Nat := (M (el a) (el b)).toNat

theorem mu_lt (a b : Nat) : mu a b < 256 := (M (el a) (el b)).isLt
theorem mu_comm (a b : Nat) : mu a b = mu b a := by unfold mu; rw [M_comm]
theorem mu_assoc (a b c : Nat) : mu (mu a b) c = mu a (mu b c) := by unfold mu; rw [el_toNat, el_toNat, M_assoc]
theorem mu_left (a b c : Nat) : mu a (mu b c) = mu b (mu a c) := by unfold mu; rw [el_toNat, el_toNat, M_left]
theorem mu_xor (a b c : Nat) : mu a (b ^^^ c) = mu a b ^^^ mu a c := by unfold mu; rw [el_xor, M_xor, BitVec.toNat_xor]
theorem xor_mu (a b c : Nat) : mu (a ^^^ b) c = mu a c ^^^ mu b c := by rw [mu_comm, mu_xor, mu_comm c, mu_comm c]
theorem mu_zero (a : Nat) : mu a 0 = 0 := by unfold mu; rw [show el 0 = 0#8 from rfl, M_zero]; rfl
theorem zero_mu (a : Nat) : mu 0 a = 0 := by rw [mu_comm, mu_zero]
theorem mu_one {a : Nat} (h : a < 256) : mu a 1 = a := by unfold mu; rw [show el 1 = 1#8 from rfl, M_one, toNat_el h]
theorem one_mu {a : Nat} (h : a < 256) : mu 1 a = a := by rw [mu_comm, mu_one h]
theorem xor_lt {a b : Nat} (ha : a < 256) (hb : b < 256) : a ^^^ b < 256 := Nat.xor_lt_two_pow (n := 8) ha hb

/-- Powers. -/
def pw (a : Nat) : Nat → Nat
  | 0 => 1
  | n + 1 => mu (pw a n) a

theorem pw_lt (a n : Nat) : pw a n < 256 := by cases n with
  | zero => show 1 < 256; decide
  | succ n => exact mu_lt _ _
theorem pw_one {a : Nat} (h : a < 256) : pw a 1 = a := by rw [pw, pw, one_mu h]
theorem pw_add (a m n : Nat) : pw a (m + n) = mu (pw a m) (pw a n) := by
  induction n with
  | zero => rw [Nat.add_zero, pw, mu_one (pw_lt _ _)]
  | succ n ih => rw [← Nat.add_assoc, pw, pw, ih, mu_assoc]
theorem pw_sq (a n : Nat) : pw (mu a a) n = pw a (2 * n) := by
  induction n with
  | zero => rfl
  | succ n ih => rw [pw, ih, show 2 * (n + 1) = 2 * n + 1 + 1 from by omega, pw, pw, mu_assoc]

/-- The inverse. -/
def iv (a : Nat) : Nat := pw a 254
theorem iv_lt (a : Nat) : iv a < 256 := pw_lt _ _

/-- 255 is eight ones. -/
def chain (a : Nat) : Nat → Nat
  | 0 => 1
  | n + 1 => mu (chain (mu a a) n) a
theorem chain_pw (n a : Nat) : chain a n = pw a (2 ^ n - 1) := by
  induction n generalizing a with
  | zero => rfl
  | succ n ih =>
    rw [chain, ih, pw_sq]
    have h2 := Nat.pow_pos (n := n) (show 0 < 2 by decide)
    have e : 2 ^ (n + 1) - 1 = 2 * (2 ^ n - 1) + 1 := by rw [Nat.pow_succ]; omega
    rw [e, pw]

theorem chain_all : ∀ a : Fin 256, a.val = 0 ∨ chain a.val 8 = 1 := by decide +kernel
theorem pw_255 {a : Nat} (h0 : a ≠ 0) (h : a < 256) : pw a 255 = 1 := by
  have h1 := chain_all ⟨a, h⟩
  have h2 := chain_pw 8 a
  rw [show 2 ^ 8 - 1 = 255 from rfl] at h2
  rw [← h2]
  exact h1.resolve_left h0

theorem mu_iv {a : Nat} (h0 : a ≠ 0) (h : a < 256) : mu a (iv a) = 1 := by
  rw [mu_comm]; exact pw_255 h0 h
theorem iv_mu {a : Nat} (h0 : a ≠ 0) (h : a < 256) : mu (iv a) a = 1 := pw_255 h0 h
theorem pw_zero (n : Nat) (h : n ≠ 0) : pw 0 n = 0 := by
  cases n with
  | zero => exact absurd rfl h
  | succ n => exact mu_zero _
theorem iv_zero : iv 0 = 0 := pw_zero 254 (by decide)
theorem mu_none {a b : Nat} (ha : a < 256) (hb : b < 256) (h : mu a b = 0) : a = 0 ∨ b = 0 := by
  by_cases h0 : a = 0
  · exact .inl h0
  · right
    have h1 := congrArg (mu (iv a)) h
    rw [mu_zero, ← mu_assoc, iv_mu h0 ha, one_mu hb] at h1
    exact h1
theorem iv_ne {a : Nat} (h0 : a ≠ 0) (h : a < 256) : iv a ≠ 0 := by
  intro e
  have := mu_iv h0 h
  rw [e, mu_zero] at this
  omega
/-- The inverse is the one. -/
theorem iv_one {a b : Nat} (h0 : a ≠ 0) (h : a < 256) (hb : b < 256) (e : mu a b = 1) : b = iv a := by
  have h1 := congrArg (mu (iv a)) e
  rw [← mu_assoc, iv_mu h0 h, one_mu hb, mu_one (iv_lt _)] at h1
  exact h1

theorem pw_mod {a : Nat} (h0 : a ≠ 0) (h : a < 256) (n : Nat) : pw a n = pw a (n % 255) := by
  have key : ∀ q r, pw a (255 * q + r) = pw a r := by
    intro q r
    induction q with
    | zero => rw [Nat.mul_zero, Nat.zero_add]
    | succ q ih => rw [show 255 * (q + 1) + r = 255 + (255 * q + r) from by omega, pw_add, pw_255 h0 h, one_mu (pw_lt _ _), ih]
  have := key (n / 255) (n % 255)
  rw [Nat.div_add_mod] at this
  exact this

/-- The powers of 2 are all unlike. -/
def p2 : Nat → Nat
  | 0 => 1
  | n + 1 => let p := p2 n; if p < 128 then 2 * p else (2 * p - 256) ^^^ 0x65
theorem tx_two : ∀ a : Fin 256, mu a.val 2 = if a.val < 128 then 2 * a.val else (2 * a.val - 256) ^^^ 0x65 := by decide +kernel
theorem p2_pw (n : Nat) : pw 2 n = p2 n := by
  induction n with
  | zero => rfl
  | succ n ih => rw [pw, tx_two ⟨pw 2 n, pw_lt _ _⟩]; simp only [p2, ih]
/-- No power of 2 below the 255th is 1. -/
def round (p : Nat) : Nat → Bool
  | 0 => true
  | n + 1 => let q := if p < 128 then 2 * p else (2 * p - 256) ^^^ 0x65; (q != 1) && round q n
theorem round_ok : round 1 254 = true := by decide +kernel
theorem round_p2 (k n : Nat) (h : round (p2 k) n = true) : ∀ d, 0 < d → d ≤ n → p2 (k + d) ≠ 1 := by
  induction n generalizing k with
  | zero => intro d h1 h2; omega
  | succ n ih =>
    intro d h1 h2
    have hq : round (p2 (k + 1)) n = true ∧ p2 (k + 1) ≠ 1 := by
      simp only [round, Bool.and_eq_true, bne_iff_ne, ne_eq] at h
      exact ⟨h.2, h.1⟩
    by_cases hd : d = 1
    · subst hd; exact hq.2
    · have := ih (k + 1) hq.1 (d - 1) (by omega) (by omega)
      rw [show k + 1 + (d - 1) = k + d from by omega] at this
      exact this
theorem pw2_ne {d : Nat} (h0 : 0 < d) (h : d < 255) : pw 2 d ≠ 1 := by
  rw [p2_pw]
  have := round_p2 0 254 round_ok d h0 (by omega)
  rwa [Nat.zero_add] at this
theorem pw_ne {a : Nat} (h0 : a ≠ 0) (h : a < 256) (n : Nat) : pw a n ≠ 0 := by
  induction n with
  | zero => show (1 : Nat) ≠ 0; decide
  | succ n ih =>
    intro e
    rcases mu_none (pw_lt _ _) h e with h1 | h1
    · exact ih h1
    · exact h0 h1
theorem pw2_inj {i j : Nat} (hi : i < j) (hj : j < 255) : pw 2 i ≠ pw 2 j := by
  intro e
  rw [show j = i + (j - i) from by omega, pw_add] at e
  have h1 : mu (pw 2 i) (1 ^^^ pw 2 (j - i)) = 0 := by
    rw [mu_xor, mu_one (pw_lt _ _), ← e, Nat.xor_self]
  rcases mu_none (pw_lt _ _) (xor_lt (by decide) (pw_lt _ _)) h1 with h2 | h2
  · exact pw_ne (by decide) (by decide) i h2
  · have h3 : pw 2 (j - i) = 1 := by
      have := congrArg (1 ^^^ ·) h2
      simp only [← Nat.xor_assoc, Nat.xor_self, Nat.zero_xor, Nat.xor_zero] at this
      exact this
    exact pw2_ne (by omega) (by omega) h3
end Go.Proofs.Ytmgfapooanpgfaa
