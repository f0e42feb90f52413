import Derived.Test.YtmgfapooanpgfaaN3
import Derived.Test.YtmgfapooanpgfaaN2b
import Derived.Test.YtmgfapooanpgfaaCa
namespace Go.Proofs.Ytmgfapooanpgfaa

theorem getD_left (a b : List Nat) (i : Nat) (h : i < a.length) : (a ++ b).getD i 0 = a.getD i 0 := by
  rw [List.getD_eq_getElem?_getD, List.getD_eq_getElem?_getD, List.getElem?_append_left h]
theorem getD_right (a b : List Nat) (i : Nat) (h : a.length ≤ i) : (a ++ b).getD i 0 = b.getD (i - a.length) 0 := by
  rw [List.getD_eq_getElem?_getD, List.getD_eq_getElem?_getD, List.getElem?_append_right h]
/-- The first numbers below k that are so, most at most. -/
def nm (m : Nat → Bool) (a : Bool) (most : Nat) : Nat → List Nat
  | 0 => []
  | k + 1 => if m k = a ∧ (nm m a most k).length < most then nm m a most k ++ [k] else nm m a most k
/-- How many below k are so. -/
def cnt (m : Nat → Bool) : Nat → Nat
  | 0 => 0
  | k + 1 => cnt m k + (if m k then 1 else 0)
theorem cnt_le (m : Nat → Bool) (k : Nat) : cnt m k ≤ k := by
  induction k with
  | zero => exact Nat.le_refl _
  | succ k ih => rw [cnt]; split <;> omega
theorem cnt_congr {m m' : Nat → Bool} {k : Nat} (h : ∀ i, i < k → m i = m' i) : cnt m k = cnt m' k := by
  induction k with
  | zero => rfl
  | succ k ih => rw [cnt, cnt, ih (fun i hi => h i (by omega)), h k (by omega)]
theorem cnt_not (m : Nat → Bool) (k : Nat) : cnt (fun i => !m i) k = k - cnt m k := by
  induction k with
  | zero => rfl
  | succ k ih =>
    have := cnt_le m k
    rw [cnt, cnt, ih]
    cases m k <;> simp <;> omega
theorem cnt_add (m : Nat → Bool) (n k : Nat) : cnt m (n + k) = cnt m n + cnt (fun i => m (n + i)) k := by
  induction k with
  | zero => rfl
  | succ k ih => rw [← Nat.add_assoc, cnt, cnt, ih]; omega
theorem cnt_set {m m' : Nat → Bool} {N j : Nat} (hj : j < N) (h0 : m j = false) (h1 : m' j = true) (h : ∀ i, i < N → i ≠ j → m' i = m i) : cnt m' N = cnt m N + 1 := by
  induction N with
  | zero => omega
  | succ N ih =>
    rw [cnt, cnt]
    by_cases e : j = N
    · subst e
      rw [cnt_congr (fun i hi => h i (by omega) (by omega)), h0, h1]; rfl
    · rw [ih (by omega) (fun i hi hn => h i (by omega) hn), h N (by omega) (Ne.symm e)]; omega

theorem nm_len (m : Nat → Bool) (a : Bool) (most k : Nat) : (nm m a most k).length = min most (cnt (fun i => m i == a) k) := by
  induction k with
  | zero => simp [nm, cnt]
  | succ k ih =>
    rw [nm, cnt]
    by_cases h : m k = a
    · by_cases h2 : (nm m a most k).length < most
      · rw [if_pos ⟨h, h2⟩, List.length_append, ih]; simp [h]; omega
      · rw [if_neg (by simp [h2]), ih]; simp [h]; omega
    · rw [if_neg (by simp [h]), ih]; simp [h]
theorem nm_mem {m : Nat → Bool} {a : Bool} {most k j : Nat} (h : j ∈ nm m a most k) : j < k ∧ m j = a := by
  induction k with
  | zero => simp [nm] at h
  | succ k ih =>
    rw [nm] at h
    split at h
    · next hc =>
      rw [List.mem_append] at h
      rcases h with h | h
      · have := ih h; exact ⟨by omega, this.2⟩
      · simp at h; subst h; exact ⟨by omega, hc.1⟩
    · have := ih h; exact ⟨by omega, this.2⟩
theorem nm_at {m : Nat → Bool} {a : Bool} {most k t : Nat} (h : t < (nm m a most k).length) : (nm m a most k).getD t 0 < k ∧ m ((nm m a most k).getD t 0) = a := by
  apply nm_mem (most := most)
  rw [List.getD_eq_getElem?_getD, List.getElem?_eq_getElem h]
  exact List.getElem_mem h
theorem nm_inj {m : Nat → Bool} {a : Bool} {most k : Nat} : ∀ s t, s < t → t < (nm m a most k).length → (nm m a most k).getD s 0 < (nm m a most k).getD t 0 := by
  induction k with
  | zero => intro s t _ ht; simp [nm] at ht
  | succ k ih =>
    intro s t hst ht
    rw [nm] at ht ⊢
    by_cases hc : m k = a ∧ (nm m a most k).length < most
    · rw [if_pos hc] at ht ⊢
      rw [List.length_append, List.length_singleton] at ht
      by_cases e : t < (nm m a most k).length
      · rw [getD_left _ _ _ (by omega), getD_left _ _ _ e]
        exact ih s t hst e
      · have e2 : t = (nm m a most k).length := by omega
        subst e2
        rw [getD_left _ _ _ hst, getD_right _ _ _ (Nat.le_refl _), Nat.sub_self]
        exact (nm_at hst).1
    · rw [if_neg hc] at ht ⊢
      exact ih s t hst ht
theorem nm_eq {m : Nat → Bool} {a : Bool} {most k s t : Nat} (hs : s < (nm m a most k).length) (ht : t < (nm m a most k).length) (h : (nm m a most k).getD s 0 = (nm m a most k).getD t 0) : s = t := by
  rcases Nat.lt_trichotomy s t with h1 | h1 | h1
  · have := nm_inj s t h1 ht; omega
  · exact h1
  · have := nm_inj t s h1 hs; omega

/-- A sum over those that are so is the sum over their list. -/
theorem sm_nm (m : Nat → Bool) (f : Nat → Nat) (most k : Nat) (h : k ≤ most) : sm (fun t => f ((nm m true most k).getD t 0)) (nm m true most k).length = sm (fun j => if m j then f j else 0) k := by
  induction k with
  | zero => rfl
  | succ k ih =>
    have hl : (nm m true most k).length < most := by
      rw [nm_len]
      have := cnt_le (fun i => m i == true) k
      omega
    have ih := ih (by omega)
    rw [nm, sm, ← ih]
    by_cases hm : m k = true
    · rw [if_pos ⟨hm, hl⟩, List.length_append, List.length_singleton, sm, if_pos hm]
      congr 1
      · exact sm_congr _ (fun j hj => by rw [getD_left _ _ _ hj])
      · rw [getD_right _ _ _ (Nat.le_refl _), Nat.sub_self]; rfl
    · rw [if_neg (by simp [hm]), if_neg hm, Nat.xor_zero]

theorem sm_swap (f : Nat → Nat → Nat) (n k : Nat) : sm (fun i => sm (fun j => f i j) k) n = sm (fun j => sm (fun i => f i j) n) k := by
  induction n with
  | zero => exact (sm_none _ _ (fun _ _ => rfl)).symm
  | succ n ih =>
    rw [sm, ih, ← sm_xor]
    exact sm_congr _ (fun j _ => rfl)
theorem sm_split (f : Nat → Nat) (n p : Nat) : sm f (n + p) = sm f n ^^^ sm (fun i => f (n + i)) p := by
  induction p with
  | zero => exact (Nat.xor_zero _).symm
  | succ p ih => rw [← Nat.add_assoc, sm, ih, sm, Nat.xor_assoc]
end Go.Proofs.Ytmgfapooanpgfaa
