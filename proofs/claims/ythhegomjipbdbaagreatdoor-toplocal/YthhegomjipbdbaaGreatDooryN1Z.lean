import Derived.Laws.BitsAllLaws
import Derived.WalkKit
namespace Go.Proofs.YthhegomjipbdbaaGreatDoor.Py
open Go Go.RowKit

/-- The modulus' lower coefficients. -/
def P : BitVec 8 := 0x65#8

/-- An element times x. -/
def tx (a : BitVec 8) : BitVec 8 := (a <<< 1) ^^^ (if a.msb then P else 0#8)

theorem xor4 (a b c d : BitVec 8) : (a ^^^ b) ^^^ (c ^^^ d) = (a ^^^ c) ^^^ (b ^^^ d) := by
  rw [BitVec.xor_assoc, ← BitVec.xor_assoc b, BitVec.xor_comm b c, BitVec.xor_assoc c, ← BitVec.xor_assoc a]

theorem shl_xor (a b : BitVec 8) (n : Nat) : (a ^^^ b) <<< n = (a <<< n) ^^^ (b <<< n) := by
  ext i hi
  simp only [BitVec.getElem_shiftLeft, BitVec.getElem_xor]
  cases decide (i < n) <;> simp

theorem tx_xor (a b : BitVec 8) : tx (a ^^^ b) = tx a ^^^ tx b := by
  unfold tx
  rw [shl_xor, xor4, BitVec.msb_xor]
  congr 1
  cases a.msb <;> cases b.msb <;> simp

theorem tx_zero : tx 0#8 = 0#8 := by decide

/-- By Horner: coefficients, the highest first. -/
def hor (c : Nat → Bool) : Nat → BitVec 8
  | 0 => 0#8
  | n + 1 => tx (hor c n) ^^^ (if c n then 1#8 else 0#8)

theorem shl1_bit (a : BitVec 8) (j : Nat) (hj : j < 8) : (a <<< 1).getLsbD j = (decide (0 < j) && a.getLsbD (j - 1)) := by
  rw [BitVec.getLsbD_shiftLeft]
  cases j <;> simp [hj]

theorem tx_low {a : BitVec 8} (h : a.getLsbD 7 = false) : tx a = a <<< 1 := by
  unfold tx
  rw [BitVec.msb_eq_getLsbD_last, show 8 - 1 = 7 from rfl, h]
  simp

theorem hor_bit (c : Nat → Bool) (k : Nat) (hk : k ≤ 8) (j : Nat) (hj : j < 8) : (hor c k).getLsbD j = (decide (j < k) && c (k - 1 - j)) := by
  induction k generalizing j with
  | zero => simp [hor]
  | succ k ih =>
    have h31 : (hor c k).getLsbD 7 = false := by rw [ih (by omega) 7 (by omega)]; simp; intro h; omega
    rw [hor, tx_low h31, BitVec.getLsbD_xor, shl1_bit _ _ hj]
    rcases j with _ | j
    · cases hc : c k <;> simp [hc]
    · rw [ih (by omega) _ (by omega)]
      have e : k + 1 - 1 - (j + 1) = k - 1 - j := by omega
      rw [e]
      cases hc : c k <;> simp [BitVec.getLsbD_one]

theorem hor_8 (a : BitVec 8) : hor (fun i => a.getLsbD (7 - i)) 8 = a := by
  apply BitVec.eq_of_getLsbD_eq
  intro j hj
  rw [hor_bit _ _ (Nat.le_refl _) _ hj]
  simp only [hj, decide_true, Bool.true_and]
  congr 1
  omega

/-- A product, by Horner over the first one's coefficients. -/
def mh (a b : BitVec 8) : Nat → BitVec 8
  | 0 => 0#8
  | k + 1 => tx (mh a b k) ^^^ (if a.getLsbD (7 - k) then b else 0#8)

def M (a b : BitVec 8) : BitVec 8 := mh a b 8

theorem mh_xor (a b c : BitVec 8) (k : Nat) : mh a (b ^^^ c) k = mh a b k ^^^ mh a c k := by
  induction k with
  | zero => simp [mh]
  | succ k ih =>
    rw [mh, mh, mh, ih, tx_xor, xor4]
    congr 1
    split <;> simp

theorem mh_tx (a b : BitVec 8) (k : Nat) : mh a (tx b) k = tx (mh a b k) := by
  induction k with
  | zero => simp [mh, tx_zero]
  | succ k ih =>
    rw [mh, mh, ih, tx_xor]
    congr 1
    split <;> simp [tx_zero]

theorem mh_one (a : BitVec 8) (k : Nat) : mh a 1#8 k = hor (fun i => a.getLsbD (7 - i)) k := by
  induction k with
  | zero => rfl
  | succ k ih => rw [mh, hor, ih]

theorem M_one (a : BitVec 8) : M a 1#8 = a := by rw [M, mh_one, hor_8]
theorem M_tx (a b : BitVec 8) : M a (tx b) = tx (M a b) := mh_tx a b 8
theorem M_xor (a b c : BitVec 8) : M a (b ^^^ c) = M a b ^^^ M a c := mh_xor a b c 8
theorem M_zero (a : BitVec 8) : M a 0#8 = 0#8 := by
  have h := M_xor a 0#8 0#8
  rw [BitVec.xor_self, BitVec.xor_self] at h
  exact h

theorem M_mh (a b c : BitVec 8) (k : Nat) : M a (mh b c k) = mh b (M a c) k := by
  induction k with
  | zero => exact M_zero a
  | succ k ih =>
    rw [mh, mh, M_xor, M_tx, ih]
    congr 1
    split
    · rfl
    · exact M_zero a

theorem M_comm (a b : BitVec 8) : M a b = M b a := by
  have h := M_mh a b 1#8 8
  have h2 : mh b 1#8 8 = b := M_one b
  rw [h2, M_one] at h
  exact h

theorem M_left (a b c : BitVec 8) : M a (M b c) = M b (M a c) := M_mh a b c 8
theorem M_assoc (a b c : BitVec 8) : M (M a b) c = M a (M b c) := by
  rw [M_comm (M a b) c, M_left, M_comm c b]

/-- A number's element. -/
def el (n : Nat) : BitVec 8 := BitVec.ofNat 8 n

theorem el_toNat (a : BitVec 8) : el a.toNat = a := by simp [el]
theorem toNat_el {n : Nat} (h : n < 256) : (el n).toNat = n := by simp [el]; omega
theorem el_xor (x y : Nat) : el (x ^^^ y) = el x ^^^ el y := by
  apply BitVec.eq_of_getLsbD_eq
  intro j hj
  simp [el, hj]

/-- Products of numbers below 256. -/
def mu (a b : Nat) : Nat := (M (el a) (el b)).toNat

theorem mu_lt (a b : Nat) : mu a b < 256 := (M (el a) (el b)).isLt
theorem mu_comm (a b : Nat) : mu a b = mu b a := by unfold mu; rw [M_comm]
theorem mu_assoc (a b c : Nat) : mu (mu a b) c = mu a (mu b c) := by unfold mu; rw [el_toNat, el_toNat, M_assoc]
theorem mu_left (a b c : Nat) : mu a (mu b c) = mu b (mu a c) := by unfold mu; rw [el_toNat, el_toNat, M_left]
theorem mu_xor (a b c : Nat) : mu a (b ^^^ c) = mu a b ^^^ mu a c := by unfold mu; rw [el_xor, M_xor, BitVec.toNat_xor]
theorem xor_mu (a b c : Nat) : mu (a ^^^ b) c = mu a c ^^^ mu b c := by rw [mu_comm, mu_xor, mu_comm c, mu_comm c]
theorem mu_zero (a : Nat) : mu a 0 = 0 := by unfold mu; rw [show el 0 = 0#8 from rfl, M_zero]; rfl
theorem zero_mu (a : Nat) : mu 0 a = 0 := by rw [mu_comm, mu_zero]
theorem mu_one {a : Nat} (h : a < 256) : mu a 1 = a := by unfold mu; rw [show el 1 = 1#8 from rfl, M_one, toNat_el h]
theorem one_mu {a : Nat} (h : a < 256) : mu 1 a = a := by rw [mu_comm, mu_one h]
theorem xor_lt {a b : Nat} (ha : a < 256) (hb : b < 256) : a ^^^ b < 256 := Nat.xor_lt_two_pow (n := 8) ha hb

/-- Powers. -/
def pw (a : Nat) : Nat → Nat
  | 0 => 1
  | n + 1 => mu (pw a n) a

theorem pw_lt (a n : Nat) : pw a n < 256 := by cases n with
  | zero => show 1 < 256; decide
  | succ n => exact mu_lt _ _
theorem pw_one {a : Nat} (h : a < 256) : pw a 1 = a := by rw [pw, pw, one_mu h]
theorem pw_add (a m n : Nat) : pw a (m + n) = mu (pw a m) (pw a n) := by
  induction n with
  | zero => rw [Nat.add_zero, pw, mu_one (pw_lt _ _)]
  | succ n ih => rw [← Nat.add_assoc, pw, pw, ih, mu_assoc]
theorem pw_sq (a n : Nat) : pw (mu a a) n = pw a (2 * n) := by
  induction n with
  | zero => rfl
  | succ n ih => rw [pw, ih, show 2 * (n + 1) = 2 * n + 1 + 1 from by omega, pw, pw, mu_assoc]

/-- The inverse. -/
def iv (a : Nat) : Nat := pw a 254
theorem iv_lt (a : Nat) : iv a < 256 := pw_lt _ _

/-- 255 is eight ones. -/
def chain (a : Nat) : Nat → Nat
  | 0 => 1
  | n + 1 => mu (chain (mu a a) n) a
theorem chain_pw (n a : Nat) : chain a n = pw a (2 ^ n - 1) := by
  induction n generalizing a with
  | zero => rfl
  | succ n ih =>
    rw [chain, ih, pw_sq]
    have h2 := Nat.pow_pos (n := n) (show 0 < 2 by decide)
    have e : 2 ^ (n + 1) - 1 = 2 * (2 ^ n - 1) + 1 := by rw [Nat.pow_succ]; omega
    rw [e, pw]

theorem chain_all : ∀ a : Fin 256, a.val = 0 ∨ chain a.val 8 = 1 := by decide +kernel
theorem pw_255 {a : Nat} (h0 : a ≠ 0) (h : a < 256) : pw a 255 = 1 := by
  have h1 := chain_all ⟨a, h⟩
  have h2 := chain_pw 8 a
  rw [show 2 ^ 8 - 1 = 255 from rfl] at h2
  rw [← h2]
  exact h1.resolve_left h0

theorem mu_iv {a : Nat} (h0 : a ≠ 0) (h : a < 256) : mu a (iv a) = 1 := by
  rw [mu_comm]; exact pw_255 h0 h
theorem iv_mu {a : Nat} (h0 : a ≠ 0) (h : a < 256) : mu (iv a) a = 1 := pw_255 h0 h
theorem pw_zero (n : Nat) (h : n ≠ 0) : pw 0 n = 0 := by
  cases n with
  | zero => exact absurd rfl h
  | succ n => exact mu_zero _
theorem iv_zero : iv 0 = 0 := pw_zero 254 (by decide)
theorem mu_none {a b : Nat} (ha : a < 256) (hb : b < 256) (h : mu a b = 0) : a = 0 ∨ b = 0 := by
  by_cases h0 : a = 0
  · exact .inl h0
  · right
    have h1 := congrArg (mu (iv a)) h
    rw [mu_zero, ← mu_assoc, iv_mu h0 ha, one_mu hb] at h1
    exact h1
theorem iv_ne {a : Nat} (h0 : a ≠ 0) (h : a < 256) : iv a ≠ 0 := by
  intro e
  have := mu_iv h0 h
  rw [e, mu_zero] at this
  omega
/-- The inverse is the one. -/
theorem iv_one {a b : Nat} (h0 : a ≠ 0) (h : a < 256) (hb : b < 256) (e : mu a b = 1) : b = iv a := by
  have h1 := congrArg (mu (iv a)) e
  rw [← mu_assoc, iv_mu h0 h, one_mu hb, mu_one (iv_lt _)] at h1
  exact h1

theorem pw_mod {a : Nat} (h0 : a ≠ 0) (h : a < 256) (n : Nat) : pw a n = pw a (n % 255) := by
  have key : ∀ q r, pw a (255 * q + r) = pw a r := by
    intro q r
    induction q with
    | zero => rw [Nat.mul_zero, Nat.zero_add]
    | succ q ih => rw [show 255 * (q + 1) + r = 255 + (255 * q + r) from by omega, pw_add, pw_255 h0 h, one_mu (pw_lt _ _), ih]
  have := key (n / 255) (n % 255)
  rw [Nat.div_add_mod] at this
  exact this

/-- The powers of 2 are all unlike. -/
def p2 : Nat → Nat
  | 0 => 1
  | n + 1 => let p := p2 n; if p < 128 then 2 * p else (2 * p - 256) ^^^ 0x65
theorem tx_two : ∀ a : Fin 256, mu a.val 2 = if a.val < 128 then 2 * a.val else (2 * a.val - 256) ^^^ 0x65 := by decide +kernel
theorem p2_pw (n : Nat) : pw 2 n = p2 n := by
  induction n with
  | zero => rfl
  | succ n ih => rw [pw, tx_two ⟨pw 2 n, pw_lt _ _⟩]; simp only [p2, ih]
/-- No power of 2 below the 255th is 1. -/
def round (p : Nat) : Nat → Bool
  | 0 => true
  | n + 1 => let q := if p < 128 then 2 * p else (2 * p - 256) ^^^ 0x65; (q != 1) && round q n
theorem round_ok : round 1 254 = true := by decide +kernel
theorem round_p2 (k n : Nat) (h : round (p2 k) n = true) : ∀ d, 0 < d → d ≤ n → p2 (k + d) ≠ 1 := by
  induction n generalizing k with
  | zero => intro d h1 h2; omega
  | succ n ih =>
    intro d h1 h2
    have hq : round (p2 (k + 1)) n = true ∧ p2 (k + 1) ≠ 1 := by
      simp only [round, Bool.and_eq_true, bne_iff_ne, ne_eq] at h
      exact ⟨h.2, h.1⟩
    by_cases hd : d = 1
    · subst hd; exact hq.2
    · have := ih (k + 1) hq.1 (d - 1) (by omega) (by omega)
      rw [show k + 1 + (d - 1) = k + d from by omega] at this
      exact this
theorem pw2_ne {d : Nat} (h0 : 0 < d) (h : d < 255) : pw 2 d ≠ 1 := by
  rw [p2_pw]
  have := round_p2 0 254 round_ok d h0 (by omega)
  rwa [Nat.zero_add] at this
theorem pw_ne {a : Nat} (h0 : a ≠ 0) (h : a < 256) (n : Nat) : pw a n ≠ 0 := by
  induction n with
  | zero => show (1 : Nat) ≠ 0; decide
  | succ n ih =>
    intro e
    rcases mu_none (pw_lt _ _) h e with h1 | h1
    · exact ih h1
    · exact h0 h1
theorem pw2_inj {i j : Nat} (hi : i < j) (hj : j < 255) : pw 2 i ≠ pw 2 j := by
  intro e
  rw [show j = i + (j - i) from by omega, pw_add] at e
  have h1 : mu (pw 2 i) (1 ^^^ pw 2 (j - i)) = 0 := by
    rw [mu_xor, mu_one (pw_lt _ _), ← e, Nat.xor_self]
  rcases mu_none (pw_lt _ _) (xor_lt (by decide) (pw_lt _ _)) h1 with h2 | h2
  · exact pw_ne (by decide) (by decide) i h2
  · have h3 : pw 2 (j - i) = 1 := by
      have := congrArg (1 ^^^ ·) h2
      simp only [← Nat.xor_assoc, Nat.xor_self, Nat.zero_xor, Nat.xor_zero] at this
      exact this
    exact pw2_ne (by omega) (by omega) h3
end Go.Proofs.YthhegomjipbdbaaGreatDoor.Py

namespace Go.Proofs.YthhegomjipbdbaaGreatDoor.Py
open Go Go.RowKit

/-- A sum of n elements. -/
def sm (f : Nat → Nat) : Nat → Nat
  | 0 => 0
  | n + 1 => sm f n ^^^ f n

theorem sm_congr {f g : Nat → Nat} (n : Nat) (h : ∀ j, j < n → f j = g j) : sm f n = sm g n := by
  induction n with
  | zero => rfl
  | succ n ih => rw [sm, sm, ih (fun j hj => h j (by omega)), h n (by omega)]
theorem sm_lt (f : Nat → Nat) (n : Nat) (h : ∀ j, j < n → f j < 256) : sm f n < 256 := by
  induction n with
  | zero => show 0 < 256; decide
  | succ n ih => exact xor_lt (ih (fun j hj => h j (by omega))) (h n (by omega))
theorem xor_4 (a b c d : Nat) : (a ^^^ b) ^^^ (c ^^^ d) = (a ^^^ c) ^^^ (b ^^^ d) := by
  rw [Nat.xor_assoc, ← Nat.xor_assoc b, Nat.xor_comm b c, Nat.xor_assoc c, ← Nat.xor_assoc a]
theorem sm_xor (f g : Nat → Nat) (n : Nat) : sm (fun j => f j ^^^ g j) n = sm f n ^^^ sm g n := by
  induction n with
  | zero => rw [sm, sm, sm, Nat.xor_self]
  | succ n ih => rw [sm, sm, sm, ih, xor_4]
theorem sm_mu (s : Nat) (f : Nat → Nat) (n : Nat) : sm (fun j => mu s (f j)) n = mu s (sm f n) := by
  induction n with
  | zero => rw [sm, sm, mu_zero]
  | succ n ih => rw [sm, sm, ih, mu_xor]
theorem sm_none (f : Nat → Nat) (n : Nat) (h : ∀ j, j < n → f j = 0) : sm f n = 0 := by
  induction n with
  | zero => rfl
  | succ n ih => rw [sm, ih (fun j hj => h j (by omega)), h n (by omega)]; rfl
theorem sm_one (f : Nat → Nat) (n k : Nat) (hk : k < n) (h : ∀ j, j < n → j ≠ k → f j = 0) : sm f n = f k := by
  induction n with
  | zero => omega
  | succ n ih =>
    rw [sm]
    by_cases e : k = n
    · subst e; rw [sm_none f k (fun j hj => h j (by omega) (by omega)), Nat.zero_xor]
    · rw [ih (by omega) (fun j hj => h j (by omega)), h n (by omega) (by omega), Nat.xor_zero]

/-- A matrix by a column. -/
def ap (n : Nat) (A : Nat → Nat → Nat) (x : Nat → Nat) (i : Nat) : Nat := sm (fun j => mu (A i j) (x j)) n

/-- Two rows' places. -/
def sw (a b i : Nat) : Nat := if i = a then b else if i = b then a else i
theorem sw_sw (a b i : Nat) : sw a b (sw a b i) = i := by
  unfold sw
  by_cases h1 : i = a
  · subst h1; by_cases h2 : b = i <;> simp [h2]
  · by_cases h2 : i = b
    · subst h2; simp [h1]
    · simp [h1, h2]
theorem sw_lt {a b i n : Nat} (ha : a < n) (hb : b < n) (hi : i < n) : sw a b i < n := by
  unfold sw; split
  · exact hb
  · split
    · exact ha
    · exact hi
theorem sw_left (a b : Nat) : sw a b a = b := by simp [sw]
theorem sw_inj {a b i j : Nat} (h : sw a b i = sw a b j) : i = j := by
  have := congrArg (sw a b) h
  rwa [sw_sw, sw_sw] at this

/-- One column cleared, by the row r. -/
def st (A : Nat → Nat → Nat) (c r : Nat) (X : Nat → Nat → Nat) : Nat → Nat → Nat := fun i j =>
  if i = c then mu (iv (A r c)) (X r j) else X (sw c r i) j ^^^ mu (A (sw c r i) c) (mu (iv (A r c)) (X r j))

theorem ap_st (n : Nat) (A : Nat → Nat → Nat) (c r : Nat) (x : Nat → Nat) (i : Nat) :
    ap n (st A c r A) x i = if i = c then mu (iv (A r c)) (ap n A x r) else ap n A x (sw c r i) ^^^ mu (A (sw c r i) c) (mu (iv (A r c)) (ap n A x r)) := by
  unfold ap st
  by_cases h : i = c
  · simp only [h, if_true]
    rw [← sm_mu]
    exact sm_congr n (fun j _ => by rw [mu_assoc])
  · simp only [h, if_false]
    rw [← sm_mu, ← sm_mu, ← sm_xor]
    exact sm_congr n (fun j _ => by rw [xor_mu, mu_assoc, mu_assoc])

/-- What solves the rows solves the cleared ones. -/
theorem st_on {n : Nat} {A X : Nat → Nat → Nat} {c r k : Nat} {x : Nat → Nat} (hc : c < n) (hr : r < n) (h : ∀ i, i < n → ap n A x i = X i k) : ∀ i, i < n → ap n (st A c r A) x i = st A c r X i k := by
  intro i hi
  rw [ap_st, h r hr, h _ (sw_lt hc hr hi)]
  rfl

theorem xor_back {a b c : Nat} (h : a ^^^ c = b ^^^ c) : a = b := by
  have := congrArg (· ^^^ c) h
  simpa [Nat.xor_assoc] using this

theorem ap_lt (n : Nat) (A : Nat → Nat → Nat) (x : Nat → Nat) (i : Nat) : ap n A x i < 256 := sm_lt _ _ (fun _ _ => mu_lt _ _)

/-- And back. -/
theorem st_back {n : Nat} {A X : Nat → Nat → Nat} {c r k : Nat} {x : Nat → Nat} (hc : c < n) (hr : r < n) (hp : A r c ≠ 0) (ha : A r c < 256) (hX : X r k < 256)
    (h : ∀ i, i < n → ap n (st A c r A) x i = st A c r X i k) : ∀ i, i < n → ap n A x i = X i k := by
  have h1 := h c hc
  rw [ap_st] at h1
  simp only [st, if_true] at h1
  have hrr : ap n A x r = X r k := by
    have h2 := congrArg (mu (A r c)) h1
    rw [← mu_assoc, ← mu_assoc, mu_iv hp ha, one_mu hX, one_mu (ap_lt _ _ _ _)] at h2
    exact h2
  have hs : ∀ i, i < n → ap n A x (sw c r i) = X (sw c r i) k := by
    intro i hi
    by_cases e : i = c
    · subst e; rw [sw_left]; exact hrr
    · have h2 := h i hi
      rw [ap_st] at h2
      simp only [st, e, if_false] at h2
      rw [hrr] at h2
      exact xor_back h2
  intro i hi
  have := hs (sw c r i) (sw_lt hc hr hi)
  rwa [sw_sw] at this

/-- Below 256. -/
def Lo (X : Nat → Nat → Nat) : Prop := ∀ i j, X i j < 256
theorem st_lo {A X : Nat → Nat → Nat} {c r : Nat} (hX : Lo X) : Lo (st A c r X) := by
  intro i j
  unfold st
  split
  · exact mu_lt _ _
  · exact xor_lt (hX _ _) (mu_lt _ _)

/-- The first columns are those of one. -/
def Un (n c : Nat) (A : Nat → Nat → Nat) : Prop := ∀ i j, i < n → j < c → A i j = if i = j then 1 else 0

theorem un_st {n c r : Nat} {A : Nat → Nat → Nat} (hc : c < n) (hr : r < n) (hcr : c ≤ r) (hp : A r c ≠ 0) (hA : Lo A) (h : Un n c A) : Un n (c + 1) (st A c r A) := by
  intro i j hi hj
  unfold st
  by_cases hjc : j = c
  · subst hjc
    rw [iv_mu hp (hA _ _), mu_one (hA _ _), Nat.xor_self]
  · have hj2 : j < c := by omega
    have h0 : A r j = 0 := by rw [h r j hr hj2, if_neg (by omega)]
    rw [h0, mu_zero, mu_zero, Nat.xor_zero]
    by_cases e : i = c
    · subst e; rw [if_pos rfl, if_neg (by omega)]
    · rw [if_neg e, h _ j (sw_lt hc hr hi) hj2]
      have : (sw c r i = j) = (i = j) := by
        apply propext
        unfold sw
        rw [if_neg e]
        split <;> omega
      simp [this]

/-- The row that is taken for a column: the first from c on that has something there. -/
def pv (A : Nat → Nat → Nat) (c : Nat) (r : Nat) : Nat → Option Nat
  | 0 => none
  | k + 1 => if A r c = 0 then pv A c (r + 1) k else some r

theorem pv_some {A : Nat → Nat → Nat} {c : Nat} (k r p : Nat) (h : pv A c r k = some p) : r ≤ p ∧ p < r + k ∧ A p c ≠ 0 ∧ ∀ i, r ≤ i → i < p → A i c = 0 := by
  induction k generalizing r with
  | zero => simp [pv] at h
  | succ k ih =>
    rw [pv] at h
    split at h
    · rename_i h0
      obtain ⟨h1, h2, h3, h4⟩ := ih (r + 1) h
      refine ⟨by omega, by omega, h3, fun i hi hp => ?_⟩
      by_cases e : i = r
      · subst e; exact h0
      · exact h4 i (by omega) hp
    · rename_i h0
      cases h
      exact ⟨Nat.le_refl _, by omega, h0, fun i h1 h2 => by omega⟩
theorem pv_none {A : Nat → Nat → Nat} {c : Nat} (k r : Nat) (h : pv A c r k = none) : ∀ i, r ≤ i → i < r + k → A i c = 0 := by
  induction k generalizing r with
  | zero => intro i h1 h2; omega
  | succ k ih =>
    rw [pv] at h
    split at h
    · rename_i h0
      intro i h1 h2
      by_cases e : i = r
      · subst e; exact h0
      · exact ih (r + 1) h i (by omega) (by omega)
    · cases h
theorem pv_of {A : Nat → Nat → Nat} {c : Nat} (k r p : Nat) (h1 : r ≤ p) (h2 : p < r + k) (h3 : A p c ≠ 0) (h4 : ∀ i, r ≤ i → i < p → A i c = 0) : pv A c r k = some p := by
  induction k generalizing r with
  | zero => omega
  | succ k ih =>
    rw [pv]
    by_cases e : r = p
    · subst e; rw [if_neg h3]
    · rw [if_pos (h4 r (Nat.le_refl _) (by omega)), ih (r + 1) (by omega) (by omega) (fun i hi hp => h4 i (by omega) hp)]
theorem pv_no {A : Nat → Nat → Nat} {c : Nat} (k r : Nat) (h : ∀ i, r ≤ i → i < r + k → A i c = 0) : pv A c r k = none := by
  induction k generalizing r with
  | zero => rfl
  | succ k ih => rw [pv, if_pos (h r (Nat.le_refl _) (by omega)), ih (r + 1) (fun i h1 h2 => h i (by omega) (by omega))]

/-- Gauss: of k columns more, from c on. -/
def gs (n : Nat) (c : Nat) (A B : Nat → Nat → Nat) : Nat → Option (Nat → Nat → Nat)
  | 0 => some B
  | k + 1 => match pv A c c (n - c) with
    | none => none
    | some r => gs n (c + 1) (st A c r A) (st A c r B) k

/-- What the code leaves behind: the state ahead of the column c, or that there is none. -/
def gt (n : Nat) (A B : Nat → Nat → Nat) : Nat → Option ((Nat → Nat → Nat) × (Nat → Nat → Nat))
  | 0 => some (A, B)
  | c + 1 => match gt n A B c with
    | none => none
    | some (X, Y) => match pv X c c (n - c) with
      | none => none
      | some r => some (st X c r X, st X c r Y)

theorem gt_lo {n : Nat} {A B : Nat → Nat → Nat} (hA : Lo A) (hB : Lo B) (c : Nat) {X Y : Nat → Nat → Nat} (h : gt n A B c = some (X, Y)) : Lo X ∧ Lo Y := by
  induction c generalizing X Y with
  | zero => cases h; exact ⟨hA, hB⟩
  | succ c ih =>
    rw [gt] at h
    split at h
    · cases h
    · rename_i X0 Y0 h0
      split at h
      · cases h
      · cases h
        obtain ⟨h1, h2⟩ := ih h0
        exact ⟨st_lo h1, st_lo h2⟩

theorem gt_un {n : Nat} {A B : Nat → Nat → Nat} (hA : Lo A) (hB : Lo B) (c : Nat) (hc : c ≤ n) {X Y : Nat → Nat → Nat} (h : gt n A B c = some (X, Y)) : Un n c X := by
  induction c generalizing X Y with
  | zero => intro i j _ hj; omega
  | succ c ih =>
    rw [gt] at h
    split at h
    · cases h
    · rename_i X0 Y0 h0
      split at h
      · cases h
      · rename_i r hr
        cases h
        obtain ⟨h1, h2, h3, _⟩ := pv_some _ _ _ hr
        exact un_st (by omega) (by omega) h1 h3 (gt_lo hA hB c h0).1 (ih (by omega) h0)

/-- What solves A, B solves what comes of them; and back. -/
theorem gt_on {n : Nat} {A B : Nat → Nat → Nat} (c : Nat) (hc : c ≤ n) {X Y : Nat → Nat → Nat} (h : gt n A B c = some (X, Y)) {x : Nat → Nat} {k : Nat} (hx : ∀ i, i < n → ap n A x i = B i k) : ∀ i, i < n → ap n X x i = Y i k := by
  induction c generalizing X Y with
  | zero => cases h; exact hx
  | succ c ih =>
    rw [gt] at h
    split at h
    · cases h
    · rename_i X0 Y0 h0
      split at h
      · cases h
      · rename_i r hr
        cases h
        obtain ⟨h1, h2, _, _⟩ := pv_some _ _ _ hr
        exact st_on (by omega) (by omega) (ih (by omega) h0)
theorem gt_back {n : Nat} {A B : Nat → Nat → Nat} (hA : Lo A) (hB : Lo B) (c : Nat) (hc : c ≤ n) {X Y : Nat → Nat → Nat} (h : gt n A B c = some (X, Y)) {x : Nat → Nat} {k : Nat} (hx : ∀ i, i < n → ap n X x i = Y i k) : ∀ i, i < n → ap n A x i = B i k := by
  induction c generalizing X Y with
  | zero => cases h; exact hx
  | succ c ih =>
    rw [gt] at h
    split at h
    · cases h
    · rename_i X0 Y0 h0
      split at h
      · cases h
      · rename_i r hr
        cases h
        obtain ⟨h1, h2, h3, _⟩ := pv_some _ _ _ hr
        obtain ⟨l1, l2⟩ := gt_lo hA hB c h0
        exact ih (by omega) h0 (st_back (by omega) (by omega) h3 (l1 _ _) (l2 _ _) hx)

theorem ap_un {n : Nat} {X : Nat → Nat → Nat} (h : Un n n X) {x : Nat → Nat} (hx : ∀ i, i < n → x i < 256) (i : Nat) (hi : i < n) : ap n X x i = x i := by
  unfold ap
  rw [sm_one _ n i hi (fun j hj hn => by rw [h i j hi hj, if_neg (Ne.symm hn), zero_mu]), h i i hi hi, if_pos rfl, one_mu (hx i hi)]

/-- What is found is the one that solves. -/
theorem gt_one {n : Nat} {A B : Nat → Nat → Nat} (hA : Lo A) (hB : Lo B) {X Y : Nat → Nat → Nat} (h : gt n A B n = some (X, Y)) {x : Nat → Nat} {k : Nat} (hl : ∀ i, i < n → x i < 256) (hx : ∀ i, i < n → ap n A x i = B i k) : ∀ i, i < n → Y i k = x i := by
  intro i hi
  rw [← gt_on n (Nat.le_refl _) h hx i hi]
  exact ap_un (gt_un hA hB n (Nat.le_refl _) h) hl i hi
/-- What is found solves. -/
theorem gt_is {n : Nat} {A B : Nat → Nat → Nat} (hA : Lo A) (hB : Lo B) {X Y : Nat → Nat → Nat} (h : gt n A B n = some (X, Y)) (k : Nat) : ∀ i, i < n → ap n A (fun j => Y j k) i = B i k := by
  refine gt_back hA hB n (Nat.le_refl _) h (fun i hi => ?_)
  exact ap_un (gt_un hA hB n (Nat.le_refl _) h) (fun i _ => (gt_lo hA hB n h).2 i k) i hi

/-- Whether it comes to an end hangs on A alone. -/
theorem gt_any {n : Nat} {A B : Nat → Nat → Nat} (B2 : Nat → Nat → Nat) (c : Nat) {X Y : Nat → Nat → Nat} (h : gt n A B c = some (X, Y)) : ∃ Y2, gt n A B2 c = some (X, Y2) := by
  induction c generalizing X Y with
  | zero => cases h; exact ⟨B2, rfl⟩
  | succ c ih =>
    rw [gt] at h
    split at h
    · cases h
    · rename_i X0 Y0 h0
      split at h
      · cases h
      · rename_i r hr
        cases h
        obtain ⟨Y2, h2⟩ := ih h0
        exact ⟨st X0 c r Y2, by rw [gt, h2]; simp only [hr]⟩

/-- Two equal rows: it can't be solved. -/
theorem gt_twice {n : Nat} {A B : Nat → Nat → Nat} (hA : Lo A) {k l : Nat} (hk : k < n) (hl : l < n) (hn : k ≠ l) (he : ∀ j, j < n → A k j = A l j) : gt n A B n = none := by
  rcases h : gt n A B n with _ | ⟨X, Y⟩
  · rfl
  · exfalso
    obtain ⟨Y2, h2⟩ := gt_any (fun i _ => if i = k then 1 else 0) n h
    have hB2 : Lo (fun i _ => if i = k then 1 else 0) := by intro i j; show (if i = k then 1 else 0) < 256; split <;> decide
    have h3 := gt_is hA hB2 h2 0
    have h4 := h3 k hk
    have h5 := h3 l hl
    have h6 : ap n A (fun j => Y2 j 0) k = ap n A (fun j => Y2 j 0) l := sm_congr n (fun j hj => by rw [he j hj])
    rw [h4, h5, if_pos rfl, if_neg (Ne.symm hn)] at h6
    cases h6

/-- Where nothing but noughts goes to noughts, it can be solved. -/
theorem gt_full {n : Nat} {A B : Nat → Nat → Nat} (hA : Lo A) (hk : ∀ x : Nat → Nat, (∀ i, i < n → x i < 256) → (∀ i, i < n → ap n A x i = 0) → ∀ i, i < n → x i = 0) (c : Nat) (hc : c ≤ n) : ∃ X Y, gt n A B c = some (X, Y) := by
  induction c with
  | zero => exact ⟨A, B, rfl⟩
  | succ c ih =>
    obtain ⟨X, Y, h⟩ := ih (by omega)
    rcases hr : pv X c c (n - c) with _ | r
    · exfalso
      have hB0 : Lo (fun _ _ => 0) := fun _ _ => by show 0 < 256; decide
      obtain ⟨Y0, h0⟩ := gt_any (fun _ _ => 0) c h
      have hu := gt_un hA hB0 c (by omega) h0
      have hlo := (gt_lo hA hB0 c h0).1
      have hz := pv_none _ _ hr
      -- the columns behind are noughts
      have hY : ∀ i k, Y0 i k = 0 := by
        clear hu hz hlo h hr ih
        revert X Y0
        induction c with
        | zero => intro X Y0 h0 i k; cases h0; rfl
        | succ c ih =>
          intro X Y0 h0 i k
          rw [gt] at h0
          split at h0
          · cases h0
          · rename_i X1 Y1 h1
            split at h0
            · cases h0
            · cases h0
              have := ih (by omega) X1 Y1 h1
              unfold st
              simp only [this, mu_zero, Nat.xor_zero, ite_self]
      let x : Nat → Nat := fun j => if j < c then X j c else if j = c then 1 else 0
      have hx : ∀ i, i < n → x i < 256 := by
        intro i _
        show (if i < c then X i c else if i = c then 1 else 0) < 256
        split
        · exact hlo _ _
        · split <;> decide
      have hap : ∀ i, i < n → ap n X x i = Y0 i 0 := by
        intro i hi
        rw [hY]
        unfold ap
        have e : sm (fun j => mu (X i j) (x j)) n = sm (fun j => (if j = i ∧ j < c then X j c else 0) ^^^ (if j = c then X i c else 0)) n := by
          apply sm_congr
          intro j hj
          by_cases h1 : j < c
          · have h2 : x j = X j c := if_pos h1
            rw [h2, hu i j hi h1]
            by_cases h3 : i = j
            · subst h3; rw [if_pos rfl, if_pos ⟨rfl, h1⟩, if_neg (by omega), one_mu (hlo _ _), Nat.xor_zero]
            · rw [if_neg h3, zero_mu, if_neg (fun h => h3 h.1.symm), if_neg (by omega)]; rfl
          · by_cases h2 : j = c
            · subst h2
              have h3 : x j = 1 := by show (if j < j then X j j else if j = j then 1 else 0) = 1; simp
              rw [h3, mu_one (hlo _ _), if_neg (fun h => by omega), if_pos rfl, Nat.zero_xor]
            · have h3 : x j = 0 := by show (if j < c then X j c else if j = c then 1 else 0) = 0; simp [h1, h2]
              rw [h3, mu_zero, if_neg (fun h => h1 h.2), if_neg h2]; rfl
        rw [e, sm_xor, sm_one (fun j => if j = c then X i c else 0) n c (by omega) (fun j _ hn => if_neg hn), if_pos rfl]
        by_cases h1 : i < c
        · rw [sm_one (fun j => if j = i ∧ j < c then X j c else 0) n i hi (fun j _ hn => if_neg (fun h => hn h.1)), if_pos ⟨rfl, h1⟩, Nat.xor_self]
        · rw [sm_none _ n (fun j _ => if_neg (fun h => by omega)), hz i (by omega) (by omega)]; rfl
      have hb := gt_back hA hB0 c (by omega) h0 hap
      have := hk x hx hb c (by omega)
      have h3 : x c = 1 := by show (if c < c then X c c else if c = c then 1 else 0) = 1; simp
      omega
    · exact ⟨st X c r X, st X c r Y, by rw [gt, h]; simp only [hr]⟩
end Go.Proofs.YthhegomjipbdbaaGreatDoor.Py
