import Derived.Test.YthhegomjipbdbaaGreatDoorLZ
namespace Go.Proofs.YthhegomjipbdbaaGreatDoor
open Go.RowKit

/-- How many bits the form of a number has. -/
def gw (v k wide : Nat) : Nat := if v / 2 ^ k < 24 then v / 2 ^ k + 1 + k else 24 + wide
/-- The form, as a number. -/
def gf (v k : Nat) : Nat := if v / 2 ^ k < 24 then 2 ^ k + v % 2 ^ k else v

theorem gf_lt (v k wide : Nat) (h : v < 2 ^ wide) : gf v k < 2 ^ gw v k wide := by
  unfold gf gw
  split
  · have h1 : v % 2 ^ k < 2 ^ k := Nat.mod_lt _ (Nat.two_pow_pos _)
    have h2 : 2 ^ (1 + k) ≤ 2 ^ (v / 2 ^ k + 1 + k) := Nat.pow_le_pow_right (by decide) (by rw [Nat.add_assoc]; exact Nat.le_add_left _ _)
    have h3 : 2 ^ (1 + k) = 2 * 2 ^ k := by rw [Nat.pow_add, Nat.pow_one]
    omega
  · have h2 : 2 ^ wide ≤ 2 ^ (24 + wide) := Nat.pow_le_pow_right (by decide) (by omega)
    omega

theorem gw_le (v k wide : Nat) (hk : k ≤ 15) (hw : wide ≤ 16) : 1 ≤ gw v k wide ∧ gw v k wide ≤ 40 := by
  unfold gw
  generalize v / 2 ^ k = u
  split <;> omega

/-- J of the chapter. -/
def jt : List Nat := [0, 0, 0, 0, 1, 1, 1, 1, 2, 2, 2, 3, 3, 4, 4, 5, 6, 7, 8, 9, 10, 11, 12]
def J (r : Nat) : Nat := jt.getD r 0

theorem J_le (r : Nat) : J r ≤ 12 := by
  by_cases h : r < 23
  · exact (show ∀ x : Fin 23, J x.1 ≤ 12 by decide) ⟨r, h⟩
  · unfold J
    rw [List.getD_eq_getElem?_getD, List.getElem?_eq_none (by simp [jt]; omega)]
    simp

/-- The samples of the first i stretches. -/
def S (r : Nat) : Nat → Nat
  | 0 => 0
  | i + 1 => S r i + 2 ^ J (min (r + i) 22)

theorem S_ge (r i : Nat) : i ≤ S r i := by
  induction i with
  | zero => simp [S]
  | succ i ih => have := Nat.two_pow_pos (J (min (r + i) 22)); simp only [S]; omega

theorem S_mono (r i j : Nat) (h : i ≤ j) : S r i ≤ S r j := by
  induction j with
  | zero => have : i = 0 := by omega
            subst this; exact Nat.le_refl _
  | succ j ih =>
    by_cases e : i = j + 1
    · subst e; exact Nat.le_refl _
    · have := ih (by omega)
      have h2 := Nat.zero_le (2 ^ J (min (r + j) 22))
      simp only [S]
      generalize 2 ^ J (min (r + j) 22) = q at *
      omega

def cntUp (r n : Nat) : Nat → Nat
  | 0 => 0
  | f + 1 => if S r (cntUp r n f + 1) ≤ n then cntUp r n f + 1 else cntUp r n f
/-- How many stretches a run has. -/
def cnt (r n : Nat) : Nat := cntUp r n (n + 1)

theorem cntUp_is (r n f : Nat) : S r (cntUp r n f) ≤ n ∧ (cntUp r n f = f ∨ n < S r (cntUp r n f + 1)) := by
  induction f with
  | zero => exact ⟨by simp [cntUp, S], .inl rfl⟩
  | succ f ih =>
    unfold cntUp
    split
    · refine ⟨by assumption, ?_⟩
      rcases ih.2 with h | h
      · left; rw [h]
      · omega
    · exact ⟨ih.1, .inr (by omega)⟩

theorem cnt_lo (r n : Nat) : S r (cnt r n) ≤ n := (cntUp_is r n (n + 1)).1
theorem cnt_hi (r n : Nat) : n < S r (cnt r n + 1) := by
  rcases (cntUp_is r n (n + 1)).2 with h | h
  · have h1 := cnt_lo r n
    have h2 := S_ge r (cnt r n)
    unfold cnt at h1 h2
    omega
  · exact h

theorem cnt_eq (r n m : Nat) (h1 : S r m ≤ n) (h2 : n < S r (m + 1)) : cnt r n = m := by
  have a := cnt_lo r n
  have b := cnt_hi r n
  rcases Nat.lt_trichotomy (cnt r n) m with h | h | h
  · have := S_mono r (cnt r n + 1) m (by omega); omega
  · exact h
  · have := S_mono r (m + 1) (cnt r n) (by omega); omega

theorem cnt_le (r n : Nat) : cnt r n ≤ n := Nat.le_trans (S_ge r _) (cnt_lo r n)

/-- The rate behind the stretches. -/
def rm (r n : Nat) : Nat := min (r + cnt r n) 22
/-- How many bits a run has; the bits as a number; the rate behind it. -/
def rw_ (r n room : Nat) : Nat := if n < room then cnt r n + 1 + J (rm r n) else if S r (cnt r n) < n then cnt r n + 1 else cnt r n
def rf (r n room : Nat) : Nat := if n < room then (2 ^ cnt r n - 1) * 2 ^ (1 + J (rm r n)) + (n - S r (cnt r n)) else 2 ^ rw_ r n room - 1
def rr (r n room : Nat) : Nat := if n < room then rm r n - 1 else rm r n

theorem rm_le (r n : Nat) : rm r n ≤ 22 := by unfold rm; omega
theorem rr_le (r n room : Nat) : rr r n room ≤ 22 := by have := rm_le r n; unfold rr; split <;> omega
theorem left_lt (r n : Nat) : n - S r (cnt r n) < 2 ^ J (rm r n) := by
  have h := cnt_hi r n
  have h2 := cnt_lo r n
  simp only [S] at h
  unfold rm
  omega

theorem rf_lt (r n room : Nat) : rf r n room < 2 ^ rw_ r n room := by
  unfold rf
  split
  · rename_i h
    have h1 := left_lt r n
    have h2 := Nat.two_pow_pos (cnt r n)
    have h3 : rw_ r n room = cnt r n + (1 + J (rm r n)) := by unfold rw_; rw [if_pos h]; omega
    have h4 : 2 ^ (1 + J (rm r n)) = 2 * 2 ^ J (rm r n) := by rw [Nat.pow_add, Nat.pow_one]
    have h6 : 2 ^ (cnt r n + (1 + J (rm r n))) = 2 ^ cnt r n * 2 ^ (1 + J (rm r n)) := Nat.pow_add _ _ _
    have h5 : 2 ^ (1 + J (rm r n)) ≤ 2 ^ cnt r n * 2 ^ (1 + J (rm r n)) := Nat.le_mul_of_pos_left _ h2
    rw [h3, h6, Nat.sub_mul, Nat.one_mul]
    generalize 2 ^ cnt r n * 2 ^ (1 + J (rm r n)) = A at *
    generalize 2 ^ (1 + J (rm r n)) = B at *
    generalize 2 ^ J (rm r n) = C at *
    omega
  · have := Nat.two_pow_pos (rw_ r n room); omega

theorem rw_le (r n room : Nat) (h : n ≤ room) (hr : room ≤ 4096) : rw_ r n room ≤ 4109 := by
  have h1 := cnt_le r n
  have h2 := J_le (rm r n)
  unfold rw_
  split
  · omega
  · split <;> omega
end Go.Proofs.YthhegomjipbdbaaGreatDoor

namespace Go.Proofs.YthhegomjipbdbaaGreatDoor
open Go.RowKit

theorem bit_lt (l : List Nat) (t : Nat) : nextN l t 1 < 2 := nextN_lt l t 1

/-- Noughts alone are nought. -/
theorem zeros_next (l : List Nat) (t u : Nat) (h : t + u ≤ 8 * l.length) (hz : ∀ i, i < u → nextN l (t + i) 1 = 0) : nextN l t u = 0 := by
  induction u with
  | zero => unfold nextN; rw [Nat.pow_zero, Nat.mod_one]
  | succ u ih =>
    rw [nextN_join l t u 1 (by omega), ih (by omega) (fun i hi => hz i (by omega)), hz u (by omega)]

/-- Ones alone. -/
theorem ones_next (l : List Nat) (t u : Nat) (h : t + u ≤ 8 * l.length) (hz : ∀ i, i < u → nextN l (t + i) 1 = 1) : nextN l t u = 2 ^ u - 1 := by
  induction u with
  | zero => unfold nextN; rw [Nat.pow_zero, Nat.mod_one]
  | succ u ih =>
    rw [nextN_join l t u 1 (by omega), ih (by omega) (fun i hi => hz i (by omega)), hz u (by omega)]
    have := Nat.two_pow_pos u
    rw [Nat.pow_succ]
    omega

theorem next_zeros (l : List Nat) (t u : Nat) (h : t + u ≤ 8 * l.length) (hz : nextN l t u = 0) : ∀ i, i < u → nextN l (t + i) 1 = 0 := lead_none l t u h hz

theorem next_ones (l : List Nat) (t u : Nat) (h : t + u ≤ 8 * l.length) (hz : nextN l t u = 2 ^ u - 1) : ∀ i, i < u → nextN l (t + i) 1 = 1 := by
  induction u with
  | zero => intro i hi; omega
  | succ u ih =>
    have hj := nextN_join l t u 1 (by omega)
    have b := bit_lt l (t + u)
    have hp := Nat.two_pow_pos u
    rw [hz, Nat.pow_succ] at hj
    have h1 : nextN l (t + u) 1 = 1 := by omega
    have h2 : nextN l t u = 2 ^ u - 1 := by omega
    intro i hi
    by_cases e : i = u
    · subst e; exact h1
    · exact ih (by omega) h2 i (by omega)

/-- A short form's bits. -/
theorem next_short (l : List Nat) (t u k : Nat) (h : t + u + 1 + k ≤ 8 * l.length) (hz : ∀ i, i < u → nextN l (t + i) 1 = 0) (h1 : nextN l (t + u) 1 = 1) :
    nextN l t (u + 1 + k) = 2 ^ k + nextN l (t + u + 1) k := by
  have e1 := nextN_join l t (u + 1) k (by omega)
  have e2 := nextN_join l t u 1 (by omega)
  rw [zeros_next l t u (by omega) hz, h1] at e2
  rw [e1, e2, show t + (u + 1) = t + u + 1 by omega]
  simp

theorem short_next (l : List Nat) (t u k low : Nat) (h : t + u + 1 + k ≤ 8 * l.length) (hl : low < 2 ^ k) (hn : nextN l t (u + 1 + k) = 2 ^ k + low) :
    (∀ i, i < u → nextN l (t + i) 1 = 0) ∧ nextN l (t + u) 1 = 1 ∧ nextN l (t + u + 1) k = low := by
  have e1 := nextN_join l t (u + 1) k (by omega)
  have e2 := nextN_join l t u 1 (by omega)
  rw [show t + (u + 1) = t + u + 1 by omega] at e1
  have b1 := nextN_lt l (t + u + 1) k
  have b2 := bit_lt l (t + u)
  rw [hn] at e1
  have h3 : nextN l t (u + 1) = 1 := by
    have d1 : (2 ^ k + low) / 2 ^ k = 1 := by
      rw [Nat.add_comm, Nat.add_div_right _ (Nat.two_pow_pos _), Nat.div_eq_of_lt hl]
    have d2 : (nextN l t (u + 1) * 2 ^ k + nextN l (t + u + 1) k) / 2 ^ k = nextN l t (u + 1) := by
      rw [Nat.add_comm, Nat.add_mul_div_right _ _ (Nat.two_pow_pos _), Nat.div_eq_of_lt b1, Nat.zero_add]
    rw [← d2, ← e1, d1]
  rw [h3] at e1 e2
  have h4 : nextN l t u = 0 := by omega
  exact ⟨next_zeros l t u (by omega) h4, by omega, by omega⟩

/-- A long form's bits. -/
theorem next_long (l : List Nat) (t wide : Nat) (h : t + 24 + wide ≤ 8 * l.length) (hz : ∀ i, i < 24 → nextN l (t + i) 1 = 0) : nextN l t (24 + wide) = nextN l (t + 24) wide := by
  rw [nextN_join l t 24 wide (by omega), zeros_next l t 24 (by omega) hz]
  simp

theorem long_next (l : List Nat) (t wide v : Nat) (h : t + 24 + wide ≤ 8 * l.length) (hv : v < 2 ^ wide) (hn : nextN l t (24 + wide) = v) :
    (∀ i, i < 24 → nextN l (t + i) 1 = 0) ∧ nextN l (t + 24) wide = v := by
  have e1 := nextN_join l t 24 wide (by omega)
  have b1 := nextN_lt l (t + 24) wide
  rw [hn] at e1
  have h3 : nextN l t 24 = 0 := by
    have d2 : (nextN l t 24 * 2 ^ wide + nextN l (t + 24) wide) / 2 ^ wide = nextN l t 24 := by
      rw [Nat.add_comm, Nat.add_mul_div_right _ _ (Nat.two_pow_pos _), Nat.div_eq_of_lt b1, Nat.zero_add]
    rw [← d2, ← e1, Nat.div_eq_of_lt hv]
  rw [h3] at e1
  exact ⟨next_zeros l t 24 (by omega) h3, by omega⟩

/-- What Get of a number comes to. -/
def NumRes (l : List Nat) (t k wide : Nat) (X E : Int) (t' : Nat) : Prop :=
  (∃ u, u < 24 ∧ (∀ i, i < u → nextN l (t + i) 1 = 0) ∧ nextN l (t + u) 1 = 1 ∧ t + u + 1 + k ≤ 8 * l.length ∧ u * 2 ^ k + nextN l (t + u + 1) k < 2 ^ wide ∧
    X = ((u * 2 ^ k + nextN l (t + u + 1) k : Nat) : Int) ∧ E = 0 ∧ t' = t + u + 1 + k) ∨
  ((∀ i, i < 24 → nextN l (t + i) 1 = 0) ∧ t + 24 + wide ≤ 8 * l.length ∧ 24 ≤ nextN l (t + 24) wide / 2 ^ k ∧ X = (nextN l (t + 24) wide : Int) ∧ E = 0 ∧ t' = t + 24 + wide) ∨
  (X = 0 ∧ t' = t ∧ E = 23 ∧ ((∃ u, u < 24 ∧ (∀ i, i < u → nextN l (t + i) 1 = 0) ∧ nextN l (t + u) 1 = 1 ∧ t + u < 8 * l.length ∧ 8 * l.length < t + u + 1 + k) ∨
    ((∀ i, i < 24 → nextN l (t + i) 1 = 0) ∧ t + 24 ≤ 8 * l.length ∧ 8 * l.length < t + 24 + wide) ∨ (8 * l.length < t + 24 ∧ ∀ i, t + i < 8 * l.length → nextN l (t + i) 1 = 0))) ∨
  (X = 0 ∧ t' = t ∧ E = 24 ∧ ((∃ u, u < 24 ∧ (∀ i, i < u → nextN l (t + i) 1 = 0) ∧ nextN l (t + u) 1 = 1 ∧ t + u + 1 + k ≤ 8 * l.length ∧ 2 ^ wide ≤ u * 2 ^ k + nextN l (t + u + 1) k) ∨
    ((∀ i, i < 24 → nextN l (t + i) 1 = 0) ∧ t + 24 + wide ≤ 8 * l.length ∧ nextN l (t + 24) wide / 2 ^ k < 24)))

theorem first_one {l : List Nat} {t u v : Nat} (hu : ∀ i, i < u → nextN l (t + i) 1 = 0) (h1 : nextN l (t + u) 1 = 1) (hv : ∀ i, i < v → nextN l (t + i) 1 = 0) (h2 : nextN l (t + v) 1 = 1) : u = v := by
  rcases Nat.lt_trichotomy u v with h | h | h
  · have := hv u h; omega
  · exact h
  · have := hu v h; omega

theorem gf_short {v k wide : Nat} (h : v / 2 ^ k < 24) : gw v k wide = v / 2 ^ k + 1 + k ∧ gf v k = 2 ^ k + v % 2 ^ k := by unfold gw gf; rw [if_pos h, if_pos h]; exact ⟨rfl, rfl⟩
theorem gf_long {v k wide : Nat} (h : ¬ v / 2 ^ k < 24) : gw v k wide = 24 + wide ∧ gf v k = v := by unfold gw gf; rw [if_neg h, if_neg h]; exact ⟨rfl, rfl⟩

theorem two_parts (u k low : Nat) (h : low < 2 ^ k) : (u * 2 ^ k + low) / 2 ^ k = u ∧ (u * 2 ^ k + low) % 2 ^ k = low := by
  refine ⟨?_, ?_⟩
  · rw [Nat.add_comm, Nat.add_mul_div_right _ _ (Nat.two_pow_pos _), Nat.div_eq_of_lt h, Nat.zero_add]
  · rw [Nat.mul_add_mod_self_right, Nat.mod_eq_of_lt h]

/-- Where the next bits are a number's form, that number is read. -/
theorem numRes_form {l : List Nat} {t k wide v : Nat} {X E : Int} {t' : Nat} (h : NumRes l t k wide X E t') (hv : v < 2 ^ wide) (hl : t + gw v k wide ≤ 8 * l.length) (hn : nextN l t (gw v k wide) = gf v k) :
    X = (v : Int) ∧ E = 0 ∧ t' = t + gw v k wide := by
  by_cases hs : v / 2 ^ k < 24
  · obtain ⟨e1, e2⟩ := gf_short (wide := wide) hs
    rw [e1, e2] at hn
    rw [e1] at hl ⊢
    obtain ⟨z, o, n⟩ := short_next l t (v / 2 ^ k) k (v % 2 ^ k) (by omega) (Nat.mod_lt _ (Nat.two_pow_pos _)) hn
    have hvv : v / 2 ^ k * 2 ^ k + v % 2 ^ k = v := by rw [Nat.mul_comm]; exact Nat.div_add_mod v (2 ^ k)
    generalize v / 2 ^ k = u at *
    generalize v % 2 ^ k = low at *
    rcases h with ⟨u', hu, z', o', hh, hb, rfl, rfl, rfl⟩ | ⟨z', _⟩ | ⟨_, _, _, ⟨u', hu, z', o', _, hh⟩ | ⟨z', _⟩ | ⟨_, z'⟩⟩ | ⟨_, _, _, ⟨u', hu, z', o', _, hh⟩ | ⟨z', _⟩⟩
    · obtain rfl := first_one z o z' o'
      rw [n, hvv]; exact ⟨rfl, rfl, by omega⟩
    · have := z' u hs; omega
    · obtain rfl := first_one z o z' o'; omega
    · have := z' u hs; omega
    · have := z' u (by omega); omega
    · obtain rfl := first_one z o z' o'; rw [n, hvv] at hh; omega
    · have := z' u hs; omega
  · obtain ⟨e1, e2⟩ := gf_long (wide := wide) hs
    rw [e1, e2] at hn
    rw [e1] at hl ⊢
    obtain ⟨z, n⟩ := long_next l t wide v (by omega) hv hn
    rcases h with ⟨u', hu, z', o', hh, hb, rfl, rfl, rfl⟩ | ⟨z', h1, h2, rfl, rfl, rfl⟩ | ⟨_, _, _, ⟨u', hu, z', o', _, hh⟩ | ⟨z', _, hh⟩ | ⟨hh, z'⟩⟩ | ⟨_, _, _, ⟨u', hu, z', o', _, hh⟩ | ⟨z', _, hh⟩⟩
    · have := z u' hu; omega
    · rw [n]; exact ⟨rfl, rfl, by omega⟩
    · have := z u' hu; omega
    · omega
    · omega
    · have := z u' hu; omega
    · rw [n] at hh; omega

/-- What is read has just the form that is taken. -/
theorem numRes_ok {l : List Nat} {t k wide : Nat} {X E : Int} {t' : Nat} (h : NumRes l t k wide X E t') :
    (E = 0 ∧ ∃ v : Nat, X = (v : Int) ∧ v < 2 ^ wide ∧ t' = t + gw v k wide ∧ t' ≤ 8 * l.length ∧ nextN l t (gw v k wide) = gf v k) ∨ ((E = 23 ∨ E = 24) ∧ t' = t) := by
  rcases h with ⟨u, hu, z, o, hh, hb, rfl, rfl, rfl⟩ | ⟨z, h1, h2, rfl, rfl, rfl⟩ | ⟨_, h, h2, _⟩ | ⟨_, h, h2, _⟩
  · have hp := two_parts u k (nextN l (t + u + 1) k) (nextN_lt _ _ _)
    have hs : (u * 2 ^ k + nextN l (t + u + 1) k) / 2 ^ k < 24 := by rw [hp.1]; exact hu
    obtain ⟨e1, e2⟩ := gf_short (wide := wide) hs
    rw [hp.1] at e1
    rw [hp.2] at e2
    refine .inl ⟨rfl, _, rfl, hb, by rw [e1]; omega, by omega, ?_⟩
    rw [e1, e2, next_short l t u k (by omega) z o]
  · obtain ⟨e1, e2⟩ := gf_long (wide := wide) (show ¬ nextN l (t + 24) wide / 2 ^ k < 24 by omega)
    refine .inl ⟨rfl, _, rfl, nextN_lt _ _ _, by rw [e1]; omega, by omega, ?_⟩
    rw [e1, e2, next_long l t wide (by omega) z]
  · exact .inr ⟨.inl h2, h⟩
  · exact .inr ⟨.inr h2, h⟩
end Go.Proofs.YthhegomjipbdbaaGreatDoor

namespace Go.Proofs.YthhegomjipbdbaaGreatDoor
open Go.RowKit

/-- The rate behind i stretches. -/
def ri (r i : Nat) : Nat := min (r + i) 22

/-- What Get of a run comes to. -/
def RunRes (l : List Nat) (t r room : Nat) (X E : Int) (t' r' : Nat) : Prop :=
  ∃ i, (∀ a, a < i → nextN l (t + a) 1 = 1) ∧ S r i ≤ room ∧ t + i ≤ 8 * l.length ∧
    ((S r i = room ∧ X = (room : Int) ∧ E = 0 ∧ t' = t + i ∧ r' = ri r i) ∨
     (S r i < room ∧ t + i < 8 * l.length ∧ nextN l (t + i) 1 = 1 ∧ room < S r (i + 1) ∧ X = (room : Int) ∧ E = 0 ∧ t' = t + i + 1 ∧ r' = ri r i) ∨
     (S r i < room ∧ t + i < 8 * l.length ∧ nextN l (t + i) 1 = 0 ∧ t + i + 1 + J (ri r i) ≤ 8 * l.length ∧ S r i + nextN l (t + i + 1) (J (ri r i)) < room ∧
       X = ((S r i + nextN l (t + i + 1) (J (ri r i)) : Nat) : Int) ∧ E = 0 ∧ t' = t + i + 1 + J (ri r i) ∧ r' = ri r i - 1) ∨
     (S r i < room ∧ X = 0 ∧ t' = t ∧ r' = r ∧ E = 23 ∧ (t + i = 8 * l.length ∨ (t + i < 8 * l.length ∧ nextN l (t + i) 1 = 0 ∧ 8 * l.length < t + i + 1 + J (ri r i)))) ∨
     (S r i < room ∧ t + i < 8 * l.length ∧ X = 0 ∧ t' = t ∧ r' = r ∧ E = 24 ∧ nextN l (t + i) 1 = 0 ∧ t + i + 1 + J (ri r i) ≤ 8 * l.length ∧ room ≤ S r i + nextN l (t + i + 1) (J (ri r i))))

theorem rm_ri (r n : Nat) : rm r n = ri r (cnt r n) := rfl
theorem ri_le (r i : Nat) : ri r i ≤ 22 := by unfold ri; omega
theorem S_succ (r i : Nat) : S r (i + 1) = S r i + 2 ^ J (ri r i) := rfl

theorem run_short {r n room : Nat} (h : n < room) : rw_ r n room = cnt r n + 1 + J (ri r (cnt r n)) ∧ rf r n room = (2 ^ cnt r n - 1) * 2 ^ (1 + J (ri r (cnt r n))) + (n - S r (cnt r n)) ∧ rr r n room = ri r (cnt r n) - 1 := by
  unfold rw_ rf rr; rw [if_pos h, if_pos h, if_pos h]; exact ⟨rfl, rfl, rfl⟩
theorem run_full {r room : Nat} (h : S r (cnt r room) = room) : rw_ r room room = cnt r room ∧ rf r room room = 2 ^ cnt r room - 1 ∧ rr r room room = ri r (cnt r room) := by
  have h0 : ¬ room < room := by omega
  have h1 : rw_ r room room = cnt r room := by unfold rw_; rw [if_neg h0, if_neg (by omega)]
  unfold rf rr
  rw [if_neg h0, if_neg h0, h1]; exact ⟨rfl, rfl, rfl⟩
theorem run_over {r room : Nat} (h : S r (cnt r room) < room) : rw_ r room room = cnt r room + 1 ∧ rf r room room = 2 ^ (cnt r room + 1) - 1 ∧ rr r room room = ri r (cnt r room) := by
  have h0 : ¬ room < room := by omega
  have h1 : rw_ r room room = cnt r room + 1 := by unfold rw_; rw [if_neg h0, if_pos h]
  unfold rf rr
  rw [if_neg h0, if_neg h0, h1]; exact ⟨rfl, rfl, rfl⟩

/-- A run's bits that end in a nought and a number. -/
theorem next_run (l : List Nat) (t i j : Nat) (h : t + i + 1 + j ≤ 8 * l.length) (ho : ∀ a, a < i → nextN l (t + a) 1 = 1) (hz : nextN l (t + i) 1 = 0) :
    nextN l t (i + 1 + j) = (2 ^ i - 1) * 2 ^ (1 + j) + nextN l (t + i + 1) j := by
  have e1 := nextN_join l t (i + 1) j (by omega)
  have e2 := nextN_join l t i 1 (by omega)
  rw [ones_next l t i (by omega) ho, hz] at e2
  rw [e1, e2, show t + (i + 1) = t + i + 1 by omega, Nat.pow_add, Nat.add_zero, Nat.mul_assoc]

theorem run_next (l : List Nat) (t i j low : Nat) (h : t + i + 1 + j ≤ 8 * l.length) (hl : low < 2 ^ j) (hn : nextN l t (i + 1 + j) = (2 ^ i - 1) * 2 ^ (1 + j) + low) :
    (∀ a, a < i → nextN l (t + a) 1 = 1) ∧ nextN l (t + i) 1 = 0 ∧ nextN l (t + i + 1) j = low := by
  have e1 := nextN_join l t (i + 1) j (by omega)
  have e2 := nextN_join l t i 1 (by omega)
  rw [show t + (i + 1) = t + i + 1 by omega] at e1
  have b1 := nextN_lt l (t + i + 1) j
  have b2 := bit_lt l (t + i)
  rw [hn] at e1
  have h3 : nextN l t (i + 1) = (2 ^ i - 1) * 2 := by
    have d1 := two_parts ((2 ^ i - 1) * 2) j low hl
    have d2 := two_parts (nextN l t (i + 1)) j _ b1
    rw [← e1, Nat.pow_add, Nat.pow_one, ← Nat.mul_assoc] at d2
    rw [← d2.1, d1.1]
  have h5 : nextN l (t + i + 1) j = low := by
    rw [h3, Nat.pow_add, Nat.pow_one, ← Nat.mul_assoc] at e1
    omega
  rw [h3] at e2
  exact ⟨next_ones l t i (by omega) (by omega), by omega, h5⟩

theorem runs_same {l : List Nat} {t i j : Nat} (hz : nextN l (t + i) 1 = 0) (hj : ∀ a, a < j → nextN l (t + a) 1 = 1) : j ≤ i := by
  rcases Nat.lt_or_ge i j with h | h
  · have := hj i h; omega
  · exact h

/-- Where the next bits are a run's, that run is read. -/
theorem runRes_form {l : List Nat} {t r room n : Nat} {X E : Int} {t' r' : Nat} (h : RunRes l t r room X E t' r') (hn : n ≤ room) (hl : t + rw_ r n room ≤ 8 * l.length) (hb : nextN l t (rw_ r n room) = rf r n room) :
    X = (n : Int) ∧ E = 0 ∧ t' = t + rw_ r n room ∧ r' = rr r n room := by
  have c1 := cnt_lo r n
  have c2 := cnt_hi r n
  have c3 := left_lt r n
  obtain ⟨i, ho, hS, hti, hc⟩ := h
  by_cases hlt : n < room
  · obtain ⟨e1, e2, e3⟩ := run_short (r := r) hlt
    rw [e1, e2] at hb
    rw [e1] at hl ⊢
    rw [e3]
    rw [rm_ri] at c3
    obtain ⟨o, z, nx⟩ := run_next l t _ _ _ (by omega) c3 hb
    have hle := runs_same z ho
    have hSi := S_mono r (i + 1) (cnt r n)
    have hi : i < cnt r n → S r (i + 1) ≤ n ∧ nextN l (t + i) 1 = 1 := fun h => ⟨by have := hSi h; omega, o i h⟩
    rcases Nat.lt_or_ge i (cnt r n) with hic | hic
    · obtain ⟨g1, g2⟩ := hi hic
      have g3 := S_succ r i
      have g4 := Nat.two_pow_pos (J (ri r i))
      rcases hc with ⟨h1, _⟩ | ⟨_, _, _, h1, _⟩ | ⟨_, _, h1, _⟩ | ⟨_, _, _, _, _, h1 | ⟨_, h1, _⟩⟩ | ⟨_, _, _, _, _, _, h1, _⟩ <;> omega
    · obtain rfl : i = cnt r n := by omega
      rcases hc with ⟨h1, _⟩ | ⟨_, _, h1, _⟩ | ⟨_, _, _, _, _, rfl, rfl, rfl, rfl⟩ | ⟨_, _, _, _, _, h1 | ⟨_, h1, h2⟩⟩ | ⟨_, _, _, _, _, _, h1, _, h2⟩
      · omega
      · omega
      · rw [nx]
        exact ⟨by omega, rfl, by omega, rfl⟩
      · omega
      · omega
      · rw [nx] at h2; omega
  · obtain rfl : n = room := by omega
    rcases Nat.lt_or_ge (S r (cnt r n)) n with hs | hs
    · obtain ⟨e1, e2, e3⟩ := run_over hs
      rw [e1, e2] at hb
      rw [e1] at hl ⊢
      rw [e3]
      have o := next_ones l t _ (by omega) hb
      have hic : i ≤ cnt r n := by
        rcases Nat.lt_or_ge (cnt r n) i with h | h
        · have := S_mono r (cnt r n + 1) i h; omega
        · exact h
      have oi := o i (by omega)
      rcases Nat.lt_or_ge i (cnt r n) with hlt2 | hge
      · have := S_mono r (i + 1) (cnt r n) hlt2
        have g3 := S_succ r i
        have g4 := Nat.two_pow_pos (J (ri r i))
        rcases hc with ⟨h1, _⟩ | ⟨_, _, _, h1, _⟩ | ⟨_, _, h1, _⟩ | ⟨_, _, _, _, _, h1 | ⟨_, h1, _⟩⟩ | ⟨_, _, _, _, _, _, h1, _⟩ <;> omega
      · obtain rfl : i = cnt r n := by omega
        rcases hc with ⟨h1, _⟩ | ⟨_, _, _, _, rfl, rfl, rfl, rfl⟩ | ⟨_, _, h1, _⟩ | ⟨_, _, _, _, _, h1 | ⟨_, h1, _⟩⟩ | ⟨_, _, _, _, _, _, h1, _⟩
        · omega
        · exact ⟨rfl, rfl, by omega, rfl⟩
        · omega
        · omega
        · omega
        · omega
    · have hs2 : S r (cnt r n) = n := by omega
      obtain ⟨e1, e2, e3⟩ := run_full hs2
      rw [e1, e2] at hb
      rw [e1] at hl ⊢
      rw [e3]
      have o := next_ones l t _ (by omega) hb
      have hic : i ≤ cnt r n := by
        rcases Nat.lt_or_ge (cnt r n) i with h | h
        · have := S_mono r (cnt r n + 1) i h; omega
        · exact h
      rcases Nat.lt_or_ge i (cnt r n) with hlt2 | hge
      · have oi := o i (by omega)
        have := S_mono r (i + 1) (cnt r n) hlt2
        have g3 := S_succ r i
        have g4 := Nat.two_pow_pos (J (ri r i))
        rcases hc with ⟨h1, _⟩ | ⟨_, _, _, h1, _⟩ | ⟨_, _, h1, _⟩ | ⟨_, _, _, _, _, h1 | ⟨_, h1, _⟩⟩ | ⟨_, _, _, _, _, _, h1, _⟩ <;> omega
      · obtain rfl : i = cnt r n := by omega
        rcases hc with ⟨h1, rfl, rfl, rfl, rfl⟩ | ⟨h1, _⟩ | ⟨h1, _⟩ | ⟨h1, _⟩ | ⟨h1, _⟩
        · exact ⟨rfl, rfl, rfl, rfl⟩
        · omega
        · omega
        · omega
        · omega

/-- What is read is a run whose bits are just those that are taken. -/
theorem runRes_ok {l : List Nat} {t r room : Nat} {X E : Int} {t' r' : Nat} (h : RunRes l t r room X E t' r') :
    (E = 0 ∧ ∃ n : Nat, X = (n : Int) ∧ n ≤ room ∧ t' = t + rw_ r n room ∧ t' ≤ 8 * l.length ∧ r' = rr r n room ∧ nextN l t (rw_ r n room) = rf r n room) ∨ ((E = 23 ∨ E = 24) ∧ t' = t ∧ r' = r) := by
  obtain ⟨i, ho, hS, hti, hc⟩ := h
  rcases hc with ⟨h1, rfl, rfl, rfl, rfl⟩ | ⟨h1, h2, h3, h4, rfl, rfl, rfl, rfl⟩ | ⟨h1, h2, h3, h4, h5, rfl, rfl, rfl, rfl⟩ | ⟨_, _, h1, h2, h3, _⟩ | ⟨_, _, _, h1, h2, h3, _⟩
  · have hm : cnt r room = i := cnt_eq r room i hS (by have := S_succ r i; have := Nat.two_pow_pos (J (ri r i)); omega)
    obtain ⟨e1, e2, e3⟩ := run_full (r := r) (room := room) (by rw [hm]; exact h1)
    rw [hm] at e1 e2 e3
    refine .inl ⟨rfl, room, rfl, Nat.le_refl _, by rw [e1], hti, by rw [e3], ?_⟩
    rw [e1, e2]
    exact ones_next l t i hti ho
  · have hm : cnt r room = i := cnt_eq r room i hS h4
    obtain ⟨e1, e2, e3⟩ := run_over (r := r) (room := room) (by rw [hm]; exact h1)
    rw [hm] at e1 e2 e3
    refine .inl ⟨rfl, room, rfl, Nat.le_refl _, by rw [e1]; omega, by omega, by rw [e3], ?_⟩
    rw [e1, e2]
    refine ones_next l t (i + 1) (by omega) (fun a ha => ?_)
    by_cases e : a = i
    · subst e; exact h3
    · exact ho a (by omega)
  · have hlow := nextN_lt l (t + i + 1) (J (ri r i))
    have hm : cnt r (S r i + nextN l (t + i + 1) (J (ri r i))) = i := cnt_eq r _ i (by omega) (by rw [S_succ]; omega)
    obtain ⟨e1, e2, e3⟩ := run_short (r := r) h5
    rw [hm] at e1 e2 e3
    refine .inl ⟨rfl, _, rfl, by omega, by rw [e1]; omega, h4, by rw [e3], ?_⟩
    rw [e1, e2, next_run l t i (J (ri r i)) h4 ho h3]
    omega
  · exact .inr ⟨.inl h3, h1, h2⟩
  · exact .inr ⟨.inr h3, h1, h2⟩

/-- A row that is a run rises the rate by as many as it has bits, but one. -/
theorem row_bits (r n : Nat) (hr : r ≤ 22) (h1 : 1 ≤ n) (hn : n ≤ 4096) : rw_ r n n + r ≤ rr r n n + 1 := by
  have c1 := cnt_lo r n
  have c2 := cnt_hi r n
  by_cases h22 : r + cnt r n ≤ 22
  · have hri : ri r (cnt r n) = r + cnt r n := by unfold ri; omega
    rcases Nat.lt_or_ge (S r (cnt r n)) n with hs | hs
    · obtain ⟨e1, _, e3⟩ := run_over hs
      rw [e1, e3, hri]; omega
    · obtain ⟨e1, _, e3⟩ := run_full (show S r (cnt r n) = n by omega)
      rw [e1, e3, hri]; omega
  · have hj : J 22 = 12 := by decide
    -- the stretch at the rate 22 is the whole room
    have hk : S r (22 - r) + 4096 ≤ S r (cnt r n) := by
      have h := S_mono r (22 - r + 1) (cnt r n) (by omega)
      rw [S_succ, show ri r (22 - r) = 22 by unfold ri; omega, hj] at h
      exact h
    have hg := S_ge r (22 - r)
    have hr22 : r = 22 := by omega
    subst hr22
    have hc1 : cnt 22 n = 1 := by
      have h := S_mono 22 2 (cnt 22 n)
      have h2 : S 22 2 = 8192 := by decide
      rcases Nat.lt_or_ge (cnt 22 n) 2 with h3 | h3
      · omega
      · have := h h3; omega
    have h41 : S 22 1 = 4096 := by decide
    rw [hc1] at c1
    obtain ⟨e1, _, e3⟩ := run_full (r := 22) (room := n) (by rw [hc1]; omega)
    rw [e1, e3, hc1]
    decide
end Go.Proofs.YthhegomjipbdbaaGreatDoor

namespace Go.Proofs.YthhegomjipbdbaaGreatDoor
open Go.RowKit

set_option maxHeartbeats 400000 in
theorem formed_ok (k wide : Int) (w : World) (k0 : 0 ≤ k) (k1 : k ≤ 15) (w0 : 1 ≤ wide) (w1 : wide ≤ 16) :
    Calls Tryz.prog 183 #[.int .i64 k, .int .i64 wide] w fun e w' => e = .returned (.bool true) ∧ w' = w := by
  go_enter Tryz.func183, Tryz.ntmps183
  go_wp2
  go_ret
  exact ⟨ret_bool (by simp), rfl⟩

set_option maxHeartbeats 400000 in
theorem check_ok (v k wide : Int) (w : World) (k0 : 0 ≤ k) (k1 : k ≤ 15) (w0 : 1 ≤ wide) (w1 : wide ≤ 16) (v0 : 0 ≤ v) (hv : v / 2 ^ wide.toNat = 0) :
    Calls Tryz.prog 177 #[.int .i64 v, .int .i64 k, .int .i64 wide] w fun e w' => e = .returned (.int .i64 0) ∧ w' = w := by
  have v0' : decide (v < 0) = false := by simp; omega
  go_enter Tryz.func177, Tryz.ntmps177
  go_wp2_with (go_at_call 183; refine (formed_ok k wide _ k0 k1 w0 w1).mono ?_; rintro e w' ⟨rfl, rfl⟩)
  go_ret
  exact ⟨rfl, rfl⟩
end Go.Proofs.YthhegomjipbdbaaGreatDoor

namespace Go.Proofs.YthhegomjipbdbaaGreatDoor
open Go.RowKit

theorem one_lt (n : Nat) (h : 1 ≤ n) : 1 < 2 ^ n := by
  have : 2 ^ 1 ≤ 2 ^ n := Nat.pow_le_pow_right (by decide) h
  omega

theorem keep_two {w w1 w2 : World} {B : Nat} {V V1 : Value} (k1 : Kept (B :: V.ownBlock.toList) w w1) (l1 : Lies w V V1) (k2 : Kept (B :: V1.ownBlock.toList) w1 w2) : Kept (B :: V.ownBlock.toList) w w2 := by
  refine k1.step k2 ?_
  intro x hx
  rcases List.mem_cons.1 hx with h | h
  · left; rw [h]; exact List.mem_cons_self
  · rcases l1.mem x h with h | h
    · left; exact List.mem_cons_of_mem _ h
    · right; exact h

set_option maxHeartbeats 2000000 in
set_option maxRecDepth 1000000 in
theorem gput_short (B : Nat) (V : Value) (N len : Nat) (v k wide u M low : Int) (w : World) (hw : WriterAt w B V N len) (k0 : 0 ≤ k) (k1 : k ≤ 15) (w0 : 1 ≤ wide) (w1 : wide ≤ 16) (v0 : 0 ≤ v) (v1 : v < 65536)
    (hv : v / 2 ^ wide.toNat = 0) (hu : v / 2 ^ k.toNat = u) (u0 : 0 ≤ u) (u1 : u < 24) (hM : u * 2 ^ k.toNat = M) (M0 : 0 ≤ M) (hlow : v - M = low) (l0 : 0 ≤ low) (l1 : low.toNat < 2 ^ k.toNat) (l2 : low < 65536) (hl : len / 8 + 16 ≤ 140737488355328) :
    Calls Tryz.prog 153 #[.pointer (some ⟨B, 0, none⟩), .int .i64 v, .int .i64 k, .int .i64 wide] w fun e w' => e = .returned (.int .i64 0) ∧
      ∃ V', WriterAt w' B V' ((N * 2 ^ (u + 1).toNat + 1) * 2 ^ k.toNat + low.toNat) (len + (u + 1).toNat + k.toNat) ∧ Kept (B :: V.ownBlock.toList) w w' ∧ Lies w V V' := by
  have HW := Hid.mk hw
  have HC := Hid.mk (fun w => check_ok v k wide w k0 k1 w0 w1 v0 hv)
  have Hl1 := Hid.mk l1
  have hM1 : M ≤ v := by omega
  clear hw l1 hv
  go_enter Tryz.func153, Tryz.ntmps153
  go_wp2_with (go_at_call 177; refine (HC.out _).mono ?_; rintro e w' ⟨rfl, rfl⟩)
  refine (put_any B V N len 1 (u + 1) _ HW.out (by omega) (by omega) (by omega) (one_lt _ (by omega)) (by omega)).mono ?_
  rintro e w1 ⟨rfl, V1, hw1, hk1, hl1⟩
  have HW1 := Hid.mk hw1
  clear hw1
  go_wp2_with fail
  refine (put_any B V1 _ _ low k _ HW1.out (by omega) (by omega) (by omega) Hl1.out (by omega)).mono ?_
  rintro e w2 ⟨rfl, V2, hw2, hk2, hl2⟩
  have HW2 := Hid.mk hw2
  clear hw2
  go_wp2_with fail
  go_ret
  exact ⟨rfl, V2, HW2.out, keep_two hk1 hl1 hk2, hl1.trans hl2 hk1.size⟩

set_option maxHeartbeats 2000000 in
set_option maxRecDepth 1000000 in
theorem gput_long (B : Nat) (V : Value) (N len : Nat) (v k wide u : Int) (w : World) (hw : WriterAt w B V N len) (k0 : 0 ≤ k) (k1 : k ≤ 15) (w0 : 1 ≤ wide) (w1 : wide ≤ 16) (v0 : 0 ≤ v) (v1 : v < 65536)
    (hv : v / 2 ^ wide.toNat = 0) (hv2 : v.toNat < 2 ^ wide.toNat) (hu : v / 2 ^ k.toNat = u) (u1 : 24 ≤ u) (hl : len / 8 + 16 ≤ 140737488355328) :
    Calls Tryz.prog 153 #[.pointer (some ⟨B, 0, none⟩), .int .i64 v, .int .i64 k, .int .i64 wide] w fun e w' => e = .returned (.int .i64 0) ∧
      ∃ V', WriterAt w' B V' ((N * 2 ^ (24 : Int).toNat + (0 : Int).toNat) * 2 ^ wide.toNat + v.toNat) (len + (24 : Int).toNat + wide.toNat) ∧ Kept (B :: V.ownBlock.toList) w w' ∧ Lies w V V' := by
  have HW := Hid.mk hw
  have HC := Hid.mk (fun w => check_ok v k wide w k0 k1 w0 w1 v0 hv)
  have Hv2 := Hid.mk hv2
  clear hw hv hv2
  go_enter Tryz.func153, Tryz.ntmps153
  go_wp2_with (go_at_call 177; refine (HC.out _).mono ?_; rintro e w' ⟨rfl, rfl⟩)
  refine (put_any B V N len 0 24 _ HW.out (by omega) (by omega) (by omega) (Nat.two_pow_pos _) (by omega)).mono ?_
  rintro e w1 ⟨rfl, V1, hw1, hk1, hl1⟩
  have HW1 := Hid.mk hw1
  clear hw1
  go_wp2_with fail
  refine (put_any B V1 _ _ v wide _ HW1.out (by omega) (by omega) (by omega) Hv2.out (by omega)).mono ?_
  rintro e w2 ⟨rfl, V2, hw2, hk2, hl2⟩
  have HW2 := Hid.mk hw2
  clear hw2
  go_wp2_with fail
  go_ret
  exact ⟨rfl, V2, HW2.out, keep_two hk1 hl1 hk2, hl1.trans hl2 hk1.size⟩

theorem pow16 (wide : Int) (w1 : wide ≤ 16) : 2 ^ wide.toNat ≤ 65536 := by
  have : 2 ^ wide.toNat ≤ 2 ^ 16 := Nat.pow_le_pow_right (by decide) (by omega)
  exact this

theorem div_zero_of (v wide : Int) (v0 : 0 ≤ v) (hv : v.toNat < 2 ^ wide.toNat) : v / 2 ^ wide.toNat = 0 := by
  rw [pow_two_int]
  exact Int.ediv_eq_zero_of_lt v0 (by omega)

/-- Put of a number lays its form down. -/
theorem gput_any (B : Nat) (V : Value) (N len : Nat) (v k wide : Int) (w : World) (hw : WriterAt w B V N len) (k0 : 0 ≤ k) (k1 : k ≤ 15) (w0 : 1 ≤ wide) (w1 : wide ≤ 16) (v0 : 0 ≤ v) (hv : v.toNat < 2 ^ wide.toNat) (hl : len / 8 + 16 ≤ 140737488355328) :
    Calls Tryz.prog 153 #[.pointer (some ⟨B, 0, none⟩), .int .i64 v, .int .i64 k, .int .i64 wide] w fun e w' => e = .returned (.int .i64 0) ∧
      ∃ V', WriterAt w' B V' (N * 2 ^ gw v.toNat k.toNat wide.toNat + gf v.toNat k.toNat) (len + gw v.toNat k.toNat wide.toNat) ∧ Kept (B :: V.ownBlock.toList) w w' ∧ Lies w V V' := by
  have h16 := pow16 wide w1
  have hv0 := div_zero_of v wide v0 hv
  obtain ⟨x, rfl⟩ := Int.eq_ofNat_of_zero_le v0
  rw [Int.toNat_natCast] at hv ⊢
  have hdiv : (x : Int) / 2 ^ k.toNat = ((x / 2 ^ k.toNat : Nat) : Int) := by rw [pow_two_int, Int.natCast_ediv]
  have hmod := Nat.mod_lt x (Nat.two_pow_pos k.toNat)
  have hdm : x / 2 ^ k.toNat * 2 ^ k.toNat + x % 2 ^ k.toNat = x := by rw [Nat.mul_comm]; exact Nat.div_add_mod x (2 ^ k.toNat)
  by_cases hs : x / 2 ^ k.toNat < 24
  · obtain ⟨e1, e2⟩ := gf_short (wide := wide.toNat) hs
    rw [e1, e2]
    have hM : ((x / 2 ^ k.toNat : Nat) : Int) * 2 ^ k.toNat = ((x / 2 ^ k.toNat * 2 ^ k.toNat : Nat) : Int) := by rw [pow_two_int, Int.natCast_mul]
    have hmul : (N * 2 ^ (x / 2 ^ k.toNat + 1) + 1) * 2 ^ k.toNat + x % 2 ^ k.toNat = N * 2 ^ (x / 2 ^ k.toNat + 1 + k.toNat) + (2 ^ k.toNat + x % 2 ^ k.toNat) := by
      rw [Nat.pow_add _ (x / 2 ^ k.toNat + 1), Nat.add_mul, Nat.one_mul, Nat.mul_assoc, Nat.add_assoc]
    clear e1 e2
    generalize x / 2 ^ k.toNat = q at *
    generalize hr : x % 2 ^ k.toNat = low at *
    have h := gput_short B V N len x k wide (q : Int) ((q * 2 ^ k.toNat : Nat) : Int) (low : Int) w hw k0 k1 w0 w1 v0 (by omega) hv0 hdiv (by omega) (by omega) hM (by omega) (by omega) (by omega) (by rw [Int.toNat_natCast]; exact hmod) (by omega) hl
    rw [Int.toNat_natCast, show ((q : Int) + 1).toNat = q + 1 by omega, hmul, Nat.add_assoc len] at h
    exact h
  · obtain ⟨e1, e2⟩ := gf_long (wide := wide.toNat) hs
    rw [e1, e2]
    have h := gput_long B V N len x k wide ((x / 2 ^ k.toNat : Nat) : Int) w hw k0 k1 w0 w1 v0 (by omega) hv0 (by rw [Int.toNat_natCast]; exact hv) hdiv (by omega) hl
    rw [Int.toNat_natCast, show (24 : Int).toNat = 24 from rfl, show (0 : Int).toNat = 0 from rfl, Nat.add_zero, Nat.mul_assoc, ← Nat.pow_add, Nat.add_assoc len] at h
    exact h

end Go.Proofs.YthhegomjipbdbaaGreatDoor

namespace Go.Proofs.YthhegomjipbdbaaGreatDoor
open Go.RowKit

/-- The coder whose struct is block X has the rate r. -/
def CoderAt (w : World) (X r : Nat) : Prop := w.heap[X]? = some (.cells #[.int .i64 (r : Int)] 215 (0, 0)) ∧ r ≤ 22

/-- The table of widths lies in block 0. -/
def Tab (w : World) : Prop := ∀ i, i < 23 → w.cell? ⟨0, i, none⟩ = some (.int .i64 (J i : Int))

theorem Tab.pos {w : World} (h : Tab w) : 0 < w.heap.size := World.block_lt_of_cell? w _ (h 0 (by decide))
theorem Tab.kept {w w' : World} {ks : List Nat} (h : Tab w) (hk : Kept ks w w') (h0 : 0 ∉ ks) : Tab w' :=
  fun i hi => (World.cell?_of_block (a := ⟨0, i, none⟩) (hk.block 0 h.pos h0)).trans (h i hi)
theorem Tab.drewN {w : World} (h : Tab w) (q : Nat) : Tab (w.drewN q) := h.kept ((Kept.refl [] w).drewN q) (by simp)
theorem CoderAt.kept {w w' : World} {X r : Nat} {ks : List Nat} (h : CoderAt w X r) (hk : Kept ks w w') (h0 : X ∉ ks) : CoderAt w' X r := ⟨hk.heap h.1 h0, h.2⟩
theorem CoderAt.drewN {w : World} {X r : Nat} (h : CoderAt w X r) (q : Nat) : CoderAt (w.drewN q) X r := h.kept ((Kept.refl [] w).drewN q) (by simp)
theorem WriterAt.kept {w w' : World} {B N len : Nat} {V : Value} {ks : List Nat} (h : WriterAt w B V N len) (hk : Kept ks w w') (h0 : B ∉ ks) (h1 : ∀ g, V.ownBlock = some g → g ∉ ks) : WriterAt w' B V N len := ⟨hk.heap h.1 h0, hk.row h.2 h1⟩

theorem cells_one {w : World} {B : Nat} {a : Value} {t : TypeId} (h : w.heap[B]? = some (.cells #[a] t (0, 0))) : w.cell? ⟨B, 0, none⟩ = some a ∧ w.frozen? ⟨B, 0, none⟩ = false := by
  refine ⟨?_, ?_⟩ <;> simp [World.cell?, World.frozen?, h]

set_option maxHeartbeats 400000 in
theorem newRuns_any (w : World) :
    Calls Tryz.prog 130 #[] w fun e w' => e = .returned (.pointer (some ⟨w.heap.size, 0, none⟩)) ∧ w' = w.alloc (.cells #[.int .i64 0] 215) := by
  go_enter Tryz.func130, Tryz.ntmps130
  go_wp2
  go_ret
  exact ⟨rfl, rfl⟩

theorem newRuns_at (w : World) : CoderAt (w.alloc (.cells #[.int .i64 0] 215)) w.heap.size 0 := ⟨by rw [heap_alloc_new]; simp, by decide⟩

theorem stretch_le (r : Nat) : 2 ^ J r ≤ 4096 := by
  have hp : (2 : Nat) ^ J r ≤ 2 ^ 12 := Nat.pow_le_pow_right (by decide) (J_le r)
  exact hp

theorem wrap_stretch (r : Nat) : wrap64 (2 ^ J r) = ((2 ^ J r : Nat) : Int) := by
  have h := stretch_le r
  rw [pow_two_int]
  generalize 2 ^ J r = q at *
  unfold wrap64
  omega

set_option maxHeartbeats 1000000 in
theorem stretch_any (X r : Nat) (s : Int) (w : World) (hx : CoderAt w X r) (hT : Tab w) (hs : s = ((2 ^ J r : Nat) : Int)) :
    Calls Tryz.prog 173 #[.pointer (some ⟨X, 0, none⟩)] w fun e w' => e = .returned (.int .i64 s) ∧ w' = w := by
  obtain ⟨c0, f0⟩ := cells_one hx.1
  have hr := hx.2
  have hj := hT r (by omega)
  have j12 := J_le r
  have Hs := Hid.mk hs
  clear hT hx hs
  go_enter Tryz.func173, Tryz.ntmps173
  go_wp2
  go_ret
  exact ⟨ret_int (by rw [wrap_stretch, Hs.out]), rfl⟩

set_option maxHeartbeats 1000000 in
theorem rise_any (X r : Nat) (w : World) (hx : CoderAt w X r) :
    Calls Tryz.prog 174 #[.pointer (some ⟨X, 0, none⟩)] w fun e w' => e = .returned (.tuple #[]) ∧ CoderAt w' X (min (r + 1) 22) ∧ Kept [X] w w' := by
  obtain ⟨c0, f0⟩ := cells_one hx.1
  have hr := hx.2
  have HX := Hid.mk hx
  clear hx
  go_enter Tryz.func174, Tryz.ntmps174
  go_wp2
  go_end0
  refine ⟨rfl, ⟨?_, by omega⟩, (Kept.refl _ _).setCell (by simp) _⟩
  rw [heap_setCell_at HX.out.1]
  have e : min ((r : Int) + 1) 22 = ((min (r + 1) 22 : Nat) : Int) := by omega
  rw [e]
  rfl

set_option maxHeartbeats 1000000 in
theorem fall_any (X r : Nat) (w : World) (hx : CoderAt w X r) :
    Calls Tryz.prog 175 #[.pointer (some ⟨X, 0, none⟩)] w fun e w' => e = .returned (.tuple #[]) ∧ CoderAt w' X (r - 1) ∧ Kept [X] w w' := by
  obtain ⟨c0, f0⟩ := cells_one hx.1
  have hr := hx.2
  have HX := Hid.mk hx
  clear hx
  go_enter Tryz.func175, Tryz.ntmps175
  go_wp2
  go_end0
  refine ⟨rfl, ⟨?_, by omega⟩, (Kept.refl _ _).setCell (by simp) _⟩
  rw [heap_setCell_at HX.out.1]
  have e : max ((r : Int) - 1) 0 = ((r - 1 : Nat) : Int) := by omega
  rw [e]
  rfl

set_option maxHeartbeats 400000 in
theorem roomy_ok (room : Int) (w : World) (h0 : 1 ≤ room) (h1 : room ≤ 4096) :
    Calls Tryz.prog 172 #[.int .i64 room] w fun e w' => e = .returned (.bool true) ∧ w' = w := by
  go_enter Tryz.func172, Tryz.ntmps172
  go_wp2
  go_ret
  exact ⟨ret_bool (by simp), rfl⟩
end Go.Proofs.YthhegomjipbdbaaGreatDoor
