import Derived.Laws.BitsAllLaws
import Derived.WalkKit
namespace Go.Proofs.YthhegomjipbdbaaGreatDoor.Cr
open Go Go.RowKit

/-- The divisor's lower coefficients. -/
def P : BitVec 32 := 0x04c11db7#32

/-- A rest times x. -/
def tx (a : BitVec 32) : BitVec 32 := (a <<< 1) ^^^ (if a.msb then P else 0#32)

/-- A rest times x^n. -/
def X : Nat → BitVec 32 → BitVec 32
  | 0, a => a
  | n + 1, a => tx (X n a)

theorem xor_zero' (a : BitVec 32) : a ^^^ 0#32 = a := by simp
theorem zero_xor' (a : BitVec 32) : 0#32 ^^^ a = a := by simp

theorem xor4 (a b c d : BitVec 32) : (a ^^^ b) ^^^ (c ^^^ d) = (a ^^^ c) ^^^ (b ^^^ d) := by
  rw [BitVec.xor_assoc, ← BitVec.xor_assoc b, BitVec.xor_comm b c, BitVec.xor_assoc c, ← BitVec.xor_assoc a]

theorem xor_twice (a b : BitVec 32) : a ^^^ (a ^^^ b) = b := by rw [← BitVec.xor_assoc, BitVec.xor_self, BitVec.zero_xor]

theorem shl_xor (a b : BitVec 32) (n : Nat) : (a ^^^ b) <<< n = (a <<< n) ^^^ (b <<< n) := by
  ext i hi
  simp only [BitVec.getElem_shiftLeft, BitVec.getElem_xor]
  cases decide (i < n) <;> simp

theorem tx_xor (a b : BitVec 32) : tx (a ^^^ b) = tx a ^^^ tx b := by
  unfold tx
  rw [shl_xor, xor4, BitVec.msb_xor]
  congr 1
  cases a.msb <;> cases b.msb <;> simp

theorem tx_zero : tx 0#32 = 0#32 := by decide

theorem X_xor (n : Nat) (a b : BitVec 32) : X n (a ^^^ b) = X n a ^^^ X n b := by
  induction n with
  | zero => rfl
  | succ n ih => simp only [X, ih, tx_xor]

theorem X_zero (n : Nat) : X n 0#32 = 0#32 := by
  induction n with
  | zero => rfl
  | succ n ih => simp only [X, ih, tx_zero]

theorem X_add (m n : Nat) (a : BitVec 32) : X (m + n) a = X m (X n a) := by
  induction m with
  | zero => simp [X]
  | succ m ih => rw [show m + 1 + n = (m + n) + 1 from by omega, X, X, ih]

theorem X_tx (n : Nat) (a : BitVec 32) : X n (tx a) = tx (X n a) := by
  have h := X_add n 1 a
  simp only [X] at h
  rw [← h]

theorem tx_none {a : BitVec 32} (h : tx a = 0#32) : a = 0#32 := by
  unfold tx at h
  by_cases hm : a.msb
  · have h0 := congrArg (fun z : BitVec 32 => z.getLsbD 0) h
    simp [hm, P] at h0
  · have hm' : a.msb = false := by simpa using hm
    rw [hm', if_neg (by simp), BitVec.xor_zero] at h
    ext i hi
    simp only [BitVec.getElem_zero]
    by_cases h31 : i = 31
    · subst h31
      rw [BitVec.msb_eq_getLsbD_last] at hm'
      simpa [BitVec.getLsbD_eq_getElem] using hm'
    · have h1 := congrArg (fun z : BitVec 32 => z.getLsbD (i + 1)) h
      have : i + 1 < 32 := by omega
      simp [this] at h1
      rw [← BitVec.getLsbD_eq_getElem]; exact h1

theorem X_none {n : Nat} {a : BitVec 32} (h : X n a = 0#32) : a = 0#32 := by
  induction n with
  | zero => exact h
  | succ n ih => exact ih (tx_none h)

/-- By Horner: coefficients, the highest first. -/
def hor (c : Nat → Bool) : Nat → BitVec 32
  | 0 => 0#32
  | n + 1 => tx (hor c n) ^^^ (if c n then 1#32 else 0#32)

theorem hor_congr {c d : Nat → Bool} (k : Nat) (h : ∀ i, i < k → c i = d i) : hor c k = hor d k := by
  induction k with
  | zero => rfl
  | succ k ih => rw [hor, hor, ih (fun i hi => h i (by omega)), h k (by omega)]

theorem hor_xor (c d : Nat → Bool) (k : Nat) : hor (fun i => (c i ^^ d i)) k = hor c k ^^^ hor d k := by
  induction k with
  | zero => simp [hor]
  | succ k ih =>
    rw [hor, hor, hor, ih, tx_xor, xor4]
    congr 1
    cases c k <;> cases d k <;> simp

theorem hor_none {c : Nat → Bool} (k : Nat) (h : ∀ i, i < k → c i = false) : hor c k = 0#32 := by
  induction k with
  | zero => rfl
  | succ k ih => rw [hor, ih (fun i hi => h i (by omega)), h k (by omega), tx_zero]; simp

theorem hor_add (c : Nat → Bool) (m k : Nat) : hor c (m + k) = X k (hor c m) ^^^ hor (fun i => c (m + i)) k := by
  induction k with
  | zero => simp [X, hor]
  | succ k ih => rw [← Nat.add_assoc, hor, ih, hor, X, tx_xor, BitVec.xor_assoc]

theorem shl1_bit (a : BitVec 32) (j : Nat) (hj : j < 32) : (a <<< 1).getLsbD j = (decide (0 < j) && a.getLsbD (j - 1)) := by
  rw [BitVec.getLsbD_shiftLeft]
  cases j <;> simp [hj]

theorem tx_low {a : BitVec 32} (h : a.getLsbD 31 = false) : tx a = a <<< 1 := by
  unfold tx
  rw [BitVec.msb_eq_getLsbD_last, show 32 - 1 = 31 from rfl, h]
  simp

theorem hor_bit (c : Nat → Bool) (k : Nat) (hk : k ≤ 32) (j : Nat) (hj : j < 32) : (hor c k).getLsbD j = (decide (j < k) && c (k - 1 - j)) := by
  induction k generalizing j with
  | zero => simp [hor]
  | succ k ih =>
    have h31 : (hor c k).getLsbD 31 = false := by rw [ih (by omega) 31 (by omega)]; simp; intro h; omega
    rw [hor, tx_low h31, BitVec.getLsbD_xor, shl1_bit _ _ hj]
    rcases j with _ | j
    · cases hc : c k <;> simp [hc]
    · rw [ih (by omega) _ (by omega)]
      have e : k + 1 - 1 - (j + 1) = k - 1 - j := by omega
      rw [e]
      cases hc : c k <;> simp [BitVec.getLsbD_one]

theorem hor_32 (a : BitVec 32) : hor (fun i => a.getLsbD (31 - i)) 32 = a := by
  apply BitVec.eq_of_getLsbD_eq
  intro j hj
  rw [hor_bit _ _ (Nat.le_refl _) _ hj]
  simp only [hj, decide_true, Bool.true_and]
  congr 1
  omega

theorem X_shl (k : Nat) (a : BitVec 32) (hk : k ≤ 32) (h : ∀ j, 32 - k ≤ j → a.getLsbD j = false) : X k a = a <<< k := by
  induction k with
  | zero => simp [X]
  | succ k ih =>
    rw [X, ih (by omega) (fun j hj => h j (by omega)), tx_low, ← BitVec.shiftLeft_add]
    rw [BitVec.getLsbD_shiftLeft]
    rw [h (31 - k) (by omega)]
    simp

theorem X_32_1 : X 32 1#32 = P := by decide +kernel

/-- A product's rest, by Horner over the first one's coefficients. -/
def mh (a b : BitVec 32) : Nat → BitVec 32
  | 0 => 0#32
  | k + 1 => tx (mh a b k) ^^^ (if a.getLsbD (31 - k) then b else 0#32)

def M (a b : BitVec 32) : BitVec 32 := mh a b 32

theorem mh_xor (a b c : BitVec 32) (k : Nat) : mh a (b ^^^ c) k = mh a b k ^^^ mh a c k := by
  induction k with
  | zero => simp [mh]
  | succ k ih =>
    rw [mh, mh, mh, ih, tx_xor, xor4]
    congr 1
    split <;> simp

theorem mh_tx (a b : BitVec 32) (k : Nat) : mh a (tx b) k = tx (mh a b k) := by
  induction k with
  | zero => simp [mh, tx_zero]
  | succ k ih =>
    rw [mh, mh, ih, tx_xor]
    congr 1
    split <;> simp [tx_zero]

theorem mh_one (a : BitVec 32) (k : Nat) : mh a 1#32 k = hor (fun i => a.getLsbD (31 - i)) k := by
  induction k with
  | zero => rfl
  | succ k ih => rw [mh, hor, ih]

theorem M_one (a : BitVec 32) : M a 1#32 = a := by rw [M, mh_one, hor_32]

theorem M_tx (a b : BitVec 32) : M a (tx b) = tx (M a b) := mh_tx a b 32
theorem M_xor (a b c : BitVec 32) : M a (b ^^^ c) = M a b ^^^ M a c := mh_xor a b c 32
theorem M_zero (a : BitVec 32) : M a 0#32 = 0#32 := by
  have h := M_xor a 0#32 0#32
  rw [BitVec.xor_self, BitVec.xor_self] at h
  exact h

theorem M_X (a : BitVec 32) (k : Nat) : M a (X k 1#32) = X k a := by
  induction k with
  | zero => exact M_one a
  | succ k ih => rw [X, X, M_tx, ih]

theorem M_X_X (i j : Nat) : M (X i 1#32) (X j 1#32) = X (i + j) 1#32 := by
  rw [M_X, ← X_add, Nat.add_comm]

theorem M_mh (a b : BitVec 32) (k : Nat) : M a (mh b 1#32 k) = mh b a k := by
  induction k with
  | zero => exact M_zero a
  | succ k ih =>
    rw [mh, mh, M_xor, M_tx, ih]
    congr 1
    split
    · exact M_one a
    · exact M_zero a

theorem M_comm (a b : BitVec 32) : M a b = M b a := by
  have h := M_mh a b 32
  have h2 : mh b 1#32 32 = b := M_one b
  rw [h2] at h
  exact h

/-- A byte as a rest. -/
def by8 (v : Nat) : BitVec 32 := BitVec.ofNat 32 v

/-- The state behind one byte, behind some. -/
def ad1 (s : BitVec 32) (v : Nat) : BitVec 32 := X 8 (s ^^^ (by8 v <<< 24))
def adv (s : BitVec 32) (l : List Nat) : BitVec 32 := l.foldl ad1 s

theorem adv_nil (s : BitVec 32) : adv s [] = s := rfl
theorem adv_append (s : BitVec 32) (l m : List Nat) : adv s (l ++ m) = adv (adv s l) m := by simp [adv]
theorem adv_snoc (s : BitVec 32) (l : List Nat) (v : Nat) : adv s (l ++ [v]) = ad1 (adv s l) v := by simp [adv]

theorem adv_state (s : BitVec 32) (l : List Nat) : adv s l = X (8 * l.length) s ^^^ adv 0#32 l := by
  induction l generalizing s with
  | nil => simp [adv, X]
  | cons v l ih =>
    have e1 : adv s (v :: l) = adv (ad1 s v) l := rfl
    have e2 : adv 0#32 (v :: l) = adv (ad1 0#32 v) l := rfl
    rw [e1, e2, ih (ad1 s v), ih (ad1 0#32 v), ad1, ad1, X_xor, X_xor, X_xor, X_zero]
    rw [List.length_cons, show 8 * (l.length + 1) = 8 * l.length + 8 from by omega, X_add]
    simp only [BitVec.zero_xor]
    rw [BitVec.xor_assoc]

/-- The bits of bytes, the highest of each first; noughts behind them. -/
def bt (l : List Nat) (i : Nat) : Bool := (l.getD (i / 8) 0).testBit (7 - i % 8)

theorem bt_cons (v : Nat) (l : List Nat) (i : Nat) : bt (v :: l) (8 + i) = bt l i := by
  unfold bt
  rw [show (8 + i) / 8 = i / 8 + 1 from by omega, show (8 + i) % 8 = i % 8 from by omega]
  rfl

theorem by8_bit (v : Nat) (j : Nat) (hj : j < 32) : (by8 v).getLsbD j = v.testBit j := by rw [by8, BitVec.getLsbD_ofNat]; simp [hj]

theorem byte_bit {v : Nat} (hv : v < 256) (j : Nat) (hj : 8 ≤ j) : v.testBit j = false :=
  Nat.testBit_lt_two_pow (Nat.lt_of_lt_of_le hv (Nat.pow_le_pow_right (n := 2) (by decide) hj))

theorem hor_byte (v : Nat) (l : List Nat) (hv : v < 256) : hor (bt (v :: l)) 8 = by8 v := by
  apply BitVec.eq_of_getLsbD_eq
  intro j hj
  rw [hor_bit _ _ (by omega) _ hj, by8_bit _ _ hj]
  by_cases h : j < 8
  · simp only [h, decide_true, Bool.true_and, bt]
    rw [show (8 - 1 - j) / 8 = 0 from by omega, show 7 - (8 - 1 - j) % 8 = j from by omega]
    rfl
  · rw [byte_bit hv j (by omega)]; simp [h]

theorem X_32_byte (v : Nat) (hv : v < 256) : X 32 (by8 v) = X 8 (by8 v <<< 24) := by
  have h := X_add 8 24 (by8 v)
  rw [show 8 + 24 = 32 from rfl] at h
  rw [h, X_shl 24 _ (by omega)]
  intro j hj
  by_cases h : j < 32
  · rw [by8_bit _ _ h, byte_bit hv _ (by omega)]
  · simp [BitVec.getLsbD_of_ge _ _ (by omega : 32 ≤ j)]

theorem adv_bits (l : List Nat) (hb : ∀ b ∈ l, b < 256) : adv 0#32 l = hor (bt l) (8 * l.length + 32) := by
  induction l with
  | nil =>
    rw [adv_nil, hor_none]
    intro i _
    simp [bt]
  | cons v l ih =>
    have hv : v < 256 := hb v (by simp)
    have e2 : adv 0#32 (v :: l) = adv (ad1 0#32 v) l := rfl
    rw [e2, adv_state, ih (fun b h => hb b (by simp [h])), List.length_cons, show 8 * (l.length + 1) + 32 = 8 + (8 * l.length + 32) from by omega, hor_add (bt (v :: l)) 8 (8 * l.length + 32), hor_byte v l hv, X_add (8 * l.length) 32, X_32_byte v hv, ad1, BitVec.zero_xor]
    rw [hor_congr (c := fun i => bt (v :: l) (8 + i)) (d := bt l) _ (fun i _ => bt_cons v l i)]

/-- The document's coefficients: those of the bytes, the first 32 put to those of a state. -/
def coef (s : BitVec 32) (l : List Nat) (i : Nat) : Bool := bt l i ^^ (decide (i < 32) && s.getLsbD (31 - i))

theorem adv_coef (s : BitVec 32) (l : List Nat) (hb : ∀ b ∈ l, b < 256) : hor (coef s l) (8 * l.length + 32) = adv s l := by
  have h := hor_xor (bt l) (fun i => (decide (i < 32) && s.getLsbD (31 - i))) (8 * l.length + 32)
  have e : (fun i => (bt l i ^^ (decide (i < 32) && s.getLsbD (31 - i)))) = coef s l := rfl
  rw [e] at h
  rw [h, ← adv_bits l hb, adv_state s l, BitVec.xor_comm]
  congr 1
  rw [Nat.add_comm, hor_add, hor_none (c := fun i => (decide (32 + i < 32) && s.getLsbD (31 - (32 + i)))), BitVec.xor_zero]
  · congr 1
    rw [hor_congr (d := fun i => s.getLsbD (31 - i)) 32 (fun i hi => by simp [hi]), hor_32]
  · intro i _; simp; intro h; omega
end Go.Proofs.YthhegomjipbdbaaGreatDoor.Cr
