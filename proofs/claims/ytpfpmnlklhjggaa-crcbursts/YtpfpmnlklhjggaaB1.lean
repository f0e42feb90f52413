import Derived.Test.YtpfpmnlklhjggaaC8
namespace Go.Proofs.Ytpfpmnlklhjggaa
open Go.RowKit

/-- Is the bit i of the run to be turned? -/
def ev (r : BitVec 32) (F n i : Nat) : Bool := r.getLsbD (31 - i) && decide (F + i < n)

def fl (r : BitVec 32) (F n : Nat) (l : List Nat) : Nat → List Nat
  | 0 => l
  | j + 1 => if ev r F n j then (fl r F n l j).set ((F + j) / 8) ((fl r F n l j).getD ((F + j) / 8) 0 ^^^ 2 ^ (7 - (F + j) % 8)) else fl r F n l j

def tn (r : BitVec 32) (F n : Nat) : Nat → Bool
  | 0 => false
  | j + 1 => tn r F n j || ev r F n j

theorem fl_length (r : BitVec 32) (F n : Nat) (l : List Nat) (j : Nat) : (fl r F n l j).length = l.length := by
  induction j with
  | zero => rfl
  | succ j ih => rw [fl]; split <;> simp [ih]

theorem pow7_lt (x : Nat) : 2 ^ (7 - x) < 256 := by
  have h : 2 ^ (7 - x) ≤ 2 ^ 7 := Nat.pow_le_pow_right (by decide) (by omega)
  have : 2 ^ 7 = 128 := rfl
  omega

theorem fl_byts (r : BitVec 32) (F n : Nat) (l : List Nat) (j : Nat) (hb : Byts l) : Byts (fl r F n l j) := by
  induction j with
  | zero => exact hb
  | succ j ih =>
    rw [fl]
    split
    · intro b h
      rcases List.mem_or_eq_of_mem_set h with h | h
      · exact ih b h
      · subst h
        exact Nat.xor_lt_two_pow (n := 8) (getD_lt _ _ ih) (pow7_lt _)
    · exact ih

theorem bt_set (L : List Nat) (K i : Nat) (h : K / 8 < L.length) : bt (L.set (K / 8) (L.getD (K / 8) 0 ^^^ 2 ^ (7 - K % 8))) i = (bt L i ^^ decide (i = K)) := by
  unfold bt
  by_cases e : i / 8 = K / 8
  · rw [e, List.getD_eq_getElem?_getD, List.getElem?_set_self h]
    simp only [Option.getD_some, Nat.testBit_xor, Nat.testBit_two_pow]
    congr 1
    have : (7 - K % 8 = 7 - i % 8) = (i = K) := by apply propext; omega
    simp only [this]
  · rw [List.getD_eq_getElem?_getD, List.getElem?_set_ne (fun h => e h.symm), ← List.getD_eq_getElem?_getD]
    have : ¬ i = K := fun h => e (by rw [h])
    simp [this]

theorem bt_fl (r : BitVec 32) (F n : Nat) (l : List Nat) (hn : n = 8 * l.length) (j i : Nat) : bt (fl r F n l j) i = (bt l i ^^ (decide (F ≤ i ∧ i < F + j) && ev r F n (i - F))) := by
  induction j with
  | zero =>
    have : ¬ (F ≤ i ∧ i < F + 0) := by omega
    simp only [fl, this, decide_false, Bool.false_and, Bool.xor_false]
  | succ j ih =>
    rw [fl]
    by_cases hij : i = F + j
    · subst hij
      have h1 : ¬ (F ≤ F + j ∧ F + j < F + j) := by omega
      have h2 : F ≤ F + j ∧ F + j < F + (j + 1) := by omega
      have h3 : F + j - F = j := by omega
      simp only [h1, decide_false, Bool.false_and, Bool.xor_false] at ih
      simp only [h2, h3, and_self, decide_true, Bool.true_and]
      cases he : ev r F n j
      · simpa using ih
      · have hlt : (F + j) / 8 < (fl r F n l j).length := by
          rw [fl_length]
          unfold ev at he
          simp at he
          omega
        simp only [if_true]
        rw [bt_set _ _ _ hlt, ih]
        simp
    · have h2 : (F ≤ i ∧ i < F + (j + 1)) = (F ≤ i ∧ i < F + j) := by apply propext; omega
      simp only [h2]
      cases he : ev r F n j
      · simpa using ih
      · have hlt : (F + j) / 8 < (fl r F n l j).length := by
          rw [fl_length]
          unfold ev at he
          simp at he
          omega
        simp only [if_true]
        rw [bt_set _ _ _ hlt, ih]
        simp [hij]

theorem tn_iff (r : BitVec 32) (F n j : Nat) : tn r F n j = true ↔ ∃ i, i < j ∧ ev r F n i = true := by
  induction j with
  | zero => simp [tn]
  | succ j ih =>
    rw [tn, Bool.or_eq_true, ih]
    constructor
    · rintro (⟨i, hi, h⟩ | h)
      · exact ⟨i, by omega, h⟩
      · exact ⟨j, by omega, h⟩
    · rintro ⟨i, hi, h⟩
      by_cases e : i = j
      · subst e; exact .inr h
      · exact .inl ⟨i, by omega, h⟩

theorem burst_adv (r : BitVec 32) (F n : Nat) (l : List Nat) (hb : Byts l) (hn : n = 8 * l.length) (hF : F < n) :
    adv 0#32 (fl r F n l 32) = adv 0#32 l ^^^ X (n - F) (hor (ev r F n) 32) := by
  rw [adv_bits _ (fl_byts r F n l 32 hb), adv_bits _ hb, fl_length]
  rw [hor_congr (d := fun i => (bt l i ^^ (decide (F ≤ i ∧ i < F + 32) && ev r F n (i - F)))) _ (fun i _ => bt_fl r F n l hn 32 i), hor_xor]
  congr 1
  rw [← hn, show n + 32 = F + (32 + (n - F)) by omega, hor_add, hor_none (c := fun i => (decide (F ≤ i ∧ i < F + 32) && ev r F n (i - F))) F, X_zero, BitVec.zero_xor, hor_add, hor_none (k := n - F), BitVec.xor_zero]
  · congr 1
    apply hor_congr
    intro i hi
    have h1 : F ≤ F + i ∧ F + i < F + 32 := by omega
    have h2 : F + i - F = i := by omega
    simp only [h1, h2, and_self, decide_true, Bool.true_and]
  · intro i _
    have : ¬ (F ≤ F + (32 + i) ∧ F + (32 + i) < F + 32) := by omega
    simp only [this, decide_false, Bool.false_and]
  · intro i hi
    have : ¬ (F ≤ i ∧ i < F + 32) := by omega
    simp only [this, decide_false, Bool.false_and]

theorem hor_ev (r : BitVec 32) (F n : Nat) : hor (ev r F n) 32 = 0#32 ↔ tn r F n 32 = false := by
  constructor
  · intro h
    rw [← Bool.not_eq_true, tn_iff]
    rintro ⟨i, hi, he⟩
    have h2 := hor_bit (ev r F n) 32 (Nat.le_refl _) (31 - i) (by omega)
    rw [h, show 32 - 1 - (31 - i) = i by omega, he] at h2
    have : 31 - i < 32 := by omega
    simp [this] at h2
  · intro h
    apply hor_none
    intro i hi
    rw [← Bool.not_eq_true]
    intro he
    have := (tn_iff r F n 32).2 ⟨i, hi, he⟩
    rw [h] at this
    cases this

theorem burst_sum (r : BitVec 32) (F n : Nat) (l : List Nat) (hb : Byts l) (hn : n = 8 * l.length) (hF : F < n) :
    nm (sm l) = nm (sm (fl r F n l 32)) ↔ tn r F n 32 = false := by
  rw [nm_eq, ← hor_ev]
  unfold sm mr
  rw [adv_state _ l, adv_state _ (fl r F n l 32), fl_length, burst_adv r F n l hb hn hF]
  constructor
  · intro h
    have h1 := congrArg (fun z : BitVec 32 => ~~~ z) h
    simp only [BitVec.not_not] at h1
    have h2 := congrArg (fun z => X (8 * l.length) (~~~0#32) ^^^ z) h1
    simp only [xor_twice] at h2
    have h3 := congrArg (fun z => adv 0#32 l ^^^ z) h2
    simp only [xor_twice, BitVec.xor_self] at h3
    exact X_none h3.symm
  · intro h
    rw [h, X_zero, BitVec.xor_zero]
end Go.Proofs.Ytpfpmnlklhjggaa
