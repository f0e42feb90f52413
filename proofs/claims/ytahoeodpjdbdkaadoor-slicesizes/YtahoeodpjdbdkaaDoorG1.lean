import Derived.Test.YtahoeodpjdbdkaaDoorL
namespace Go.Proofs.YtahoeodpjdbdkaaDoor
open Go.RowKit

/-- How many bits the form of a number has. -/
def gw (v k wide : Nat) : Nat := if v / 2 ^ k < 24 then v / 2 ^ k + 1 + k else 24 + wide
/-- The form, as a number. -/
def gf (v k : Nat) : Nat := if v / 2 ^ k < 24 then 2 ^ k + v % 2 ^ k else v

theorem gf_lt (v k wide : Nat) (h : v < 2 ^ wide) : gf v k < 2 ^ gw v k wide := by
  unfold gf gw
  split
  · have h1 : v % 2 ^ k < 2 ^ k := Nat.mod_lt _ (Nat.two_pow_pos _)
    have h2 : 2 ^ (1 + k) ≤ 2 ^ (v / 2 ^ k + 1 + k) := Nat.pow_le_pow_right (by decide) (by rw [Nat.add_assoc]; exact Nat.le_add_left _ _)
    have h3 : 2 ^ (1 + k) = 2 * 2 ^ k := by rw [Nat.pow_add, Nat.pow_one]
    omega
  · have h2 : 2 ^ wide ≤ 2 ^ (24 + wide) := Nat.pow_le_pow_right (by decide) (by omega)
    omega

theorem gw_le (v k wide : Nat) (hk : k ≤ 15) (hw : wide ≤ 16) : 1 ≤ gw v k wide ∧ gw v k wide ≤ 40 := by
  unfold gw
  generalize v / 2 ^ k = u
  split <;> omega

/-- J of the chapter. -/
def jt : List Nat := [0, 0, 0, 0, 1, 1, 1, 1, 2, 2, 2, 3, 3, 4, 4, 5, 6, 7, 8, 9, 10, 11, 12]
def J (r : Nat) : Nat := jt.getD r 0

theorem J_le (r : Nat) : J r ≤ 12 := by
  by_cases h : r < 23
  · exact (show ∀ x : Fin 23, J x.1 ≤ 12 by decide) ⟨r, h⟩
  · unfold J
    rw [List.getD_eq_getElem?_getD, List.getElem?_eq_none (by simp [jt]; omega)]
    simp

/-- The samples of the first i stretches. -/
def S (r : Nat) : Nat → Nat
  | 0 => 0
  | i + 1 => S r i + 2 ^ J (min (r + i) 22)

theorem S_ge (r i : Nat) : i ≤ S r i := by
  induction i with
  | zero => simp [S]
  | succ i ih => have := Nat.two_pow_pos (J (min (r + i) 22)); simp only [S]; omega

theorem S_mono (r i j : Nat) (h : i ≤ j) : S r i ≤ S r j := by
  induction j with
  | zero => have : i = 0 := by omega
            subst this; exact Nat.le_refl _
  | succ j ih =>
    by_cases e : i = j + 1
    · subst e; exact Nat.le_refl _
    · have := ih (by omega)
      have h2 := Nat.zero_le (2 ^ J (min (r + j) 22))
      simp only [S]
      generalize 2 ^ J (min (r + j) 22) = q at *
      omega

def cntUp (r n : Nat) : Nat → Nat
  | 0 => 0
  | f + 1 => if S r (cntUp r n f + 1) ≤ n then cntUp r n f + 1 else cntUp r n f
/-- How many stretches a run has. -/
def cnt (r n : Nat) : Nat := cntUp r n (n + 1)

theorem cntUp_is (r n f : Nat) : S r (cntUp r n f) ≤ n ∧ (cntUp r n f = f ∨ n < S r (cntUp r n f + 1)) := by
  induction f with
  | zero => exact ⟨by simp [cntUp, S], .inl rfl⟩
  | succ f ih =>
    unfold cntUp
    split
    · refine ⟨by assumption, ?_⟩
      rcases ih.2 with h | h
      · left; rw [h]
      · omega
    · exact ⟨ih.1, .inr (by omega)⟩

theorem cnt_lo (r n : Nat) : S r (cnt r n) ≤ n := (cntUp_is r n (n + 1)).1
theorem cnt_hi (r n : Nat) : n < S r (cnt r n + 1) := by
  rcases (cntUp_is r n (n + 1)).2 with h | h
  · have h1 := cnt_lo r n
    have h2 := S_ge r (cnt r n)
    unfold cnt at h1 h2
    omega
  · exact h

theorem cnt_eq (r n m : Nat) (h1 : S r m ≤ n) (h2 : n < S r (m + 1)) : cnt r n = m := by
  have a := cnt_lo r n
  have b := cnt_hi r n
  rcases Nat.lt_trichotomy (cnt r n) m with h | h | h
  · have := S_mono r (cnt r n + 1) m (by omega); omega
  · exact h
  · have := S_mono r (m + 1) (cnt r n) (by omega); omega

theorem cnt_le (r n : Nat) : cnt r n ≤ n := Nat.le_trans (S_ge r _) (cnt_lo r n)

/-- The rate behind the stretches. -/
def rm (r n : Nat) : Nat := min (r + cnt r n) 22
/-- How many bits a run has; the bits as a number; the rate behind it. -/
def rw_ (r n room : Nat) : Nat := if n < room then cnt r n + 1 + J (rm r n) else if S r (cnt r n) < n then cnt r n + 1 else cnt r n
def rf (r n room : Nat) : Nat := if n < room then (2 ^ cnt r n - 1) * 2 ^ (1 + J (rm r n)) + (n - S r (cnt r n)) else 2 ^ rw_ r n room - 1
def rr (r n room : Nat) : Nat := if n < room then rm r n - 1 else rm r n

theorem rm_le (r n : Nat) : rm r n ≤ 22 := by unfold rm; omega
theorem rr_le (r n room : Nat) : rr r n room ≤ 22 := by have := rm_le r n; unfold rr; split <;> omega
theorem left_lt (r n : Nat) : n - S r (cnt r n) < 2 ^ J (rm r n) := by
  have h := cnt_hi r n
  have h2 := cnt_lo r n
  simp only [S] at h
  unfold rm
  omega

theorem rf_lt (r n room : Nat) : rf r n room < 2 ^ rw_ r n room := by
  unfold rf
  split
  · rename_i h
    have h1 := left_lt r n
    have h2 := Nat.two_pow_pos (cnt r n)
    have h3 : rw_ r n room = cnt r n + (1 + J (rm r n)) := by unfold rw_; rw [if_pos h]; omega
    have h4 : 2 ^ (1 + J (rm r n)) = 2 * 2 ^ J (rm r n) := by rw [Nat.pow_add, Nat.pow_one]
    have h6 : 2 ^ (cnt r n + (1 + J (rm r n))) = 2 ^ cnt r n * 2 ^ (1 + J (rm r n)) := Nat.pow_add _ _ _
    have h5 : 2 ^ (1 + J (rm r n)) ≤ 2 ^ cnt r n * 2 ^ (1 + J (rm r n)) := Nat.le_mul_of_pos_left _ h2
    rw [h3, h6, Nat.sub_mul, Nat.one_mul]
    generalize 2 ^ cnt r n * 2 ^ (1 + J (rm r n)) = A at *
    generalize 2 ^ (1 + J (rm r n)) = B at *
    generalize 2 ^ J (rm r n) = C at *
    omega
  · have := Nat.two_pow_pos (rw_ r n room); omega

theorem rw_le (r n room : Nat) (h : n ≤ room) (hr : room ≤ 4096) : rw_ r n room ≤ 4109 := by
  have h1 := cnt_le r n
  have h2 := J_le (rm r n)
  unfold rw_
  split
  · omega
  · split <;> omega
end Go.Proofs.YtahoeodpjdbdkaaDoor
