import Derived.Test.YtahoeodpjdbdkabDoorL
namespace Go.Proofs.YtahoeodpjdbdkabDoor
open Go.RowKit

/-- How many bits the form of a number has. -/
def gw (v k wide : Nat) : Nat := if v / 2 ^ k < 24 then v / 2 ^ k + 1 + k else 24 + wide
/-- The form, as a number. -/
def gf (v k : Nat) : Nat := if v / 2 ^ k < 24 then 2 ^ k + v % 2 ^ k else v

theorem gf_lt (v k wide : Nat) (h : v < 2 ^ wide) : gf v k < 2 ^ gw v k wide := by
  unfold gf gw
  split
  · have h1 : v % 2 ^ k < 2 ^ k := Nat.mod_lt _ (Nat.two_pow_pos _)
    have h2 : 2 ^ (1 + k) ≤ 2 ^ (v / 2 ^ k + 1 + k) := Nat.pow_le_pow_right (by decide) (by rw [Nat.add_assoc]; exact Nat.le_add_left _ _)
    have h3 : 2 ^ (1 + k) = 2 * 2 ^ k := by rw [Nat.pow_add, Nat.pow_one]
    omega
  · have h2 : 2 ^ wide ≤ 2 ^ (24 + wide) := Nat.pow_le_pow_right (by decide) (by omega)
    omega

theorem gw_le (v k wide : Nat) (hk : k ≤ 15) (hw : wide ≤ 16) : 1 ≤ gw v k wide ∧ gw v k wide ≤ 40 := by
  unfold gw
  generalize v / 2 ^ k = u
  split <;> omega

/-- J of the chapter. -/
def jt : List Nat := [0, 0, 0, 0, 1, 1, 1, 1, 2, 2, 2, 3, 3, 4, 4, 5, 6, 7, 8, 9, 10, 11, 12]
def J (r : Nat) : Nat := jt.getD r 0

theorem J_le (r : Nat) : J r ≤ 12 := by
  by_cases h : r < 23
  · exact (show ∀ x : Fin 23, J x.1 ≤ 12 by decide) ⟨r, h⟩
  · unfold J
    rw [List.getD_eq_getElem?_getD, List.getElem?_eq_none (by simp [jt]; omega)]
    simp

/-- The samples of the first i stretches. -/
def S (r : Nat) : Nat → Nat
  | 0 => 0
  | i + 1 => S r i + 2 ^ J (min (r + i) 22)

theorem S_ge (r i : Nat) : i ≤ S r i := by
  induction i with
  | zero => simp [S]
  | succ i ih => have := Nat.two_pow_pos (J (min (r + i) 22)); simp only [S]; omega

theorem S_mono (r i j : Nat) (h : i ≤ j) : S r i ≤ S r j := by
  induction j with
  | zero => have : i = 0 := by omega
            subst this; exact Nat.le_refl _
  | succ j ih =>
    by_cases e : i = j + 1
    · subst e; exact Nat.le_refl _
    · have := ih (by omega)
      have h2 := Nat.zero_le (2 ^ J (min (r + j) 22))
      simp only [S]
      generalize 2 ^ J (min (r + j) 22) = q at *
      omega

def cntUp (r n : Nat) : Nat → Nat
  | 0 => 0
  | f + 1 => if S r (cntUp r n f + 1) ≤ n then cntUp r n f + 1 else cntUp r n f
/-- How many stretches a run has. -/
def cnt (r n : Nat) : Nat := cntUp r n (n + 1)

theorem cntUp_is (r n f : Nat) : S r (cntUp r n f) ≤ n ∧ (cntUp r n f = f ∨ n < S r (cntUp r n f + 1)) := by
  induction f with
  | zero => exact ⟨by simp [cntUp, S], .inl rfl⟩
  | succ f ih =>
    unfold cntUp
    split
    · refine ⟨by assumption, ?_⟩
      rcases ih.2 with h | h
      · left; rw [h]
      · omega
    · exact ⟨ih.1, .inr (by omega)⟩

theorem cnt_lo (r n : Nat) : S r (cnt r n) ≤ n := (cntUp_is r n (n + 1)).1
theorem cnt_hi (r n : Nat) : n < S r (cnt r n + 1) := by
  rcases (cntUp_is r n (n + 1)).2 with h | h
  · have h1 := cnt_lo r n
    have h2 := S_ge r (cnt r n)
    unfold cnt at h1 h2
    omega
  · exact h

theorem cnt_eq (r n m : Nat) (h1 : S r m ≤ n) (h2 : n < S r (m + 1)) : cnt r n = m := by
  have a := cnt_lo r n
  have b := cnt_hi r n
  rcases Nat.lt_trichotomy (cnt r n) m with h | h | h
  · have := S_mono r (cnt r n + 1) m (by omega); omega
  · exact h
  · have := S_mono r (m + 1) (cnt r n) (by omega); omega

theorem cnt_le (r n : Nat) : cnt r n ≤ n := Nat.le_trans (S_ge r _) (cnt_lo r n)

/-- The rate behind the stretches. -/
def rm (r n : Nat) : Nat := min (r + cnt r n) 22
/-- How many bits a run has; the bits as a number; the rate behind it. -/
def rw_ (r n room : Nat) : Nat := if n < room then cnt r n + 1 + J (rm r n) else if S r (cnt r n) < n then cnt r n + 1 else cnt r n
def rf (r n room : Nat) : Nat := if n < room then (2 ^ cnt r n - 1) * 2 ^ (1 + J (rm r n)) + (n - S r (cnt r n)) else 2 ^ rw_ r n room - 1
def rr (r n room : Nat) : Nat := if n < room then rm r n - 1 else rm r n

theorem rm_le (r n : Nat) : rm r n ≤ 22 := by unfold rm; omega
theorem rr_le (r n room : Nat) : rr r n room ≤ 22 := by have := rm_le r n; unfold rr; split <;> omega
theorem left_lt (r n : Nat) : n - S r (cnt r n) < 2 ^ J (rm r n) := by
  have h := cnt_hi r n
  have h2 := cnt_lo r n
  simp only [S] at h
  unfold rm
  omega

theorem rf_lt (r n room : Nat) : rf r n room < 2 ^ rw_ r n room := by
  unfold rf
  split
  · rename_i h
    have h1 := left_lt r n
    have h2 := Nat.two_pow_pos (cnt r n)
    have h3 : rw_ r n room = cnt r n + (1 + J (rm r n)) := by unfold rw_; rw [if_pos h]; omega
    have h4 : 2 ^ (1 + J (rm r n)) = 2 * 2 ^ J (rm r n) := by rw [Nat.pow_add, Nat.pow_one]
    have h6 : 2 ^ (cnt r n + (1 + J (rm r n))) = 2 ^ cnt r n * 2 ^ (1 + J (rm r n)) := Nat.pow_add _ _ _
    have h5 : 2 ^ (1 + J (rm r n)) ≤ 2 ^ cnt r n * 2 ^ (1 + J (rm r n)) := Nat.le_mul_of_pos_left _ h2
    rw [h3, h6, Nat.sub_mul, Nat.one_mul]
    generalize 2 ^ cnt r n * 2 ^ (1 + J (rm r n)) = A at *
    generalize 2 ^ (1 + J (rm r n)) = B at *
    generalize 2 ^ J (rm r n) = C at *
    omega
  · have := Nat.two_pow_pos (rw_ r n room); omega

theorem rw_le (r n room : Nat) (h : n ≤ room) (hr : room ≤ 4096) : rw_ r n room ≤ 4109 := by
  have h1 := cnt_le r n
  have h2 := J_le (rm r n)
  unfold rw_
  split
  · omega
  · split <;> omega
end Go.Proofs.YtahoeodpjdbdkabDoor

namespace Go.Proofs.YtahoeodpjdbdkabDoor
open Go.RowKit

theorem bit_lt (l : List Nat) (t : Nat) : nextN l t 1 < 2 := nextN_lt l t 1

/-- Noughts alone are nought. -/
theorem zeros_next (l : List Nat) (t u : Nat) (h : t + u ≤ 8 * l.length) (hz : ∀ i, i < u → nextN l (t + i) 1 = 0) : nextN l t u = 0 := by
  induction u with
  | zero => unfold nextN; rw [Nat.pow_zero, Nat.mod_one]
  | succ u ih =>
    rw [nextN_join l t u 1 (by omega), ih (by omega) (fun i hi => hz i (by omega)), hz u (by omega)]

/-- Ones alone. -/
theorem ones_next (l : List Nat) (t u : Nat) (h : t + u ≤ 8 * l.length) (hz : ∀ i, i < u → nextN l (t + i) 1 = 1) : nextN l t u = 2 ^ u - 1 := by
  induction u with
  | zero => unfold nextN; rw [Nat.pow_zero, Nat.mod_one]
  | succ u ih =>
    rw [nextN_join l t u 1 (by omega), ih (by omega) (fun i hi => hz i (by omega)), hz u (by omega)]
    have := Nat.two_pow_pos u
    rw [Nat.pow_succ]
    omega

theorem next_zeros (l : List Nat) (t u : Nat) (h : t + u ≤ 8 * l.length) (hz : nextN l t u = 0) : ∀ i, i < u → nextN l (t + i) 1 = 0 := lead_none l t u h hz

theorem next_ones (l : List Nat) (t u : Nat) (h : t + u ≤ 8 * l.length) (hz : nextN l t u = 2 ^ u - 1) : ∀ i, i < u → nextN l (t + i) 1 = 1 := by
  induction u with
  | zero => intro i hi; omega
  | succ u ih =>
    have hj := nextN_join l t u 1 (by omega)
    have b := bit_lt l (t + u)
    have hp := Nat.two_pow_pos u
    rw [hz, Nat.pow_succ] at hj
    have h1 : nextN l (t + u) 1 = 1 := by omega
    have h2 : nextN l t u = 2 ^ u - 1 := by omega
    intro i hi
    by_cases e : i = u
    · subst e; exact h1
    · exact ih (by omega) h2 i (by omega)

/-- A short form's bits. -/
theorem next_short (l : List Nat) (t u k : Nat) (h : t + u + 1 + k ≤ 8 * l.length) (hz : ∀ i, i < u → nextN l (t + i) 1 = 0) (h1 : nextN l (t + u) 1 = 1) :
    nextN l t (u + 1 + k) = 2 ^ k + nextN l (t + u + 1) k := by
  have e1 := nextN_join l t (u + 1) k (by omega)
  have e2 := nextN_join l t u 1 (by omega)
  rw [zeros_next l t u (by omega) hz, h1] at e2
  rw [e1, e2, show t + (u + 1) = t + u + 1 by omega]
  simp

theorem short_next (l : List Nat) (t u k low : Nat) (h : t + u + 1 + k ≤ 8 * l.length) (hl : low < 2 ^ k) (hn : nextN l t (u + 1 + k) = 2 ^ k + low) :
    (∀ i, i < u → nextN l (t + i) 1 = 0) ∧ nextN l (t + u) 1 = 1 ∧ nextN l (t + u + 1) k = low := by
  have e1 := nextN_join l t (u + 1) k (by omega)
  have e2 := nextN_join l t u 1 (by omega)
  rw [show t + (u + 1) = t + u + 1 by omega] at e1
  have b1 := nextN_lt l (t + u + 1) k
  have b2 := bit_lt l (t + u)
  rw [hn] at e1
  have h3 : nextN l t (u + 1) = 1 := by
    have d1 : (2 ^ k + low) / 2 ^ k = 1 := by
      rw [Nat.add_comm, Nat.add_div_right _ (Nat.two_pow_pos _), Nat.div_eq_of_lt hl]
    have d2 : (nextN l t (u + 1) * 2 ^ k + nextN l (t + u + 1) k) / 2 ^ k = nextN l t (u + 1) := by
      rw [Nat.add_comm, Nat.add_mul_div_right _ _ (Nat.two_pow_pos _), Nat.div_eq_of_lt b1, Nat.zero_add]
    rw [← d2, ← e1, d1]
  rw [h3] at e1 e2
  have h4 : nextN l t u = 0 := by omega
  exact ⟨next_zeros l t u (by omega) h4, by omega, by omega⟩

/-- A long form's bits. -/
theorem next_long (l : List Nat) (t wide : Nat) (h : t + 24 + wide ≤ 8 * l.length) (hz : ∀ i, i < 24 → nextN l (t + i) 1 = 0) : nextN l t (24 + wide) = nextN l (t + 24) wide := by
  rw [nextN_join l t 24 wide (by omega), zeros_next l t 24 (by omega) hz]
  simp

theorem long_next (l : List Nat) (t wide v : Nat) (h : t + 24 + wide ≤ 8 * l.length) (hv : v < 2 ^ wide) (hn : nextN l t (24 + wide) = v) :
    (∀ i, i < 24 → nextN l (t + i) 1 = 0) ∧ nextN l (t + 24) wide = v := by
  have e1 := nextN_join l t 24 wide (by omega)
  have b1 := nextN_lt l (t + 24) wide
  rw [hn] at e1
  have h3 : nextN l t 24 = 0 := by
    have d2 : (nextN l t 24 * 2 ^ wide + nextN l (t + 24) wide) / 2 ^ wide = nextN l t 24 := by
      rw [Nat.add_comm, Nat.add_mul_div_right _ _ (Nat.two_pow_pos _), Nat.div_eq_of_lt b1, Nat.zero_add]
    rw [← d2, ← e1, Nat.div_eq_of_lt hv]
  rw [h3] at e1
  exact ⟨next_zeros l t 24 (by omega) h3, by omega⟩

/-- What Get of a number comes to. -/
def NumRes (l : List Nat) (t k wide : Nat) (X E : Int) (t' : Nat) : Prop :=
  (∃ u, u < 24 ∧ (∀ i, i < u → nextN l (t + i) 1 = 0) ∧ nextN l (t + u) 1 = 1 ∧ t + u + 1 + k ≤ 8 * l.length ∧ u * 2 ^ k + nextN l (t + u + 1) k < 2 ^ wide ∧
    X = ((u * 2 ^ k + nextN l (t + u + 1) k : Nat) : Int) ∧ E = 0 ∧ t' = t + u + 1 + k) ∨
  ((∀ i, i < 24 → nextN l (t + i) 1 = 0) ∧ t + 24 + wide ≤ 8 * l.length ∧ 24 ≤ nextN l (t + 24) wide / 2 ^ k ∧ X = (nextN l (t + 24) wide : Int) ∧ E = 0 ∧ t' = t + 24 + wide) ∨
  (X = 0 ∧ t' = t ∧ E = 23 ∧ ((∃ u, u < 24 ∧ (∀ i, i < u → nextN l (t + i) 1 = 0) ∧ nextN l (t + u) 1 = 1 ∧ t + u < 8 * l.length ∧ 8 * l.length < t + u + 1 + k) ∨
    ((∀ i, i < 24 → nextN l (t + i) 1 = 0) ∧ t + 24 ≤ 8 * l.length ∧ 8 * l.length < t + 24 + wide) ∨ (8 * l.length < t + 24 ∧ ∀ i, t + i < 8 * l.length → nextN l (t + i) 1 = 0))) ∨
  (X = 0 ∧ t' = t ∧ E = 24 ∧ ((∃ u, u < 24 ∧ (∀ i, i < u → nextN l (t + i) 1 = 0) ∧ nextN l (t + u) 1 = 1 ∧ t + u + 1 + k ≤ 8 * l.length ∧ 2 ^ wide ≤ u * 2 ^ k + nextN l (t + u + 1) k) ∨
    ((∀ i, i < 24 → nextN l (t + i) 1 = 0) ∧ t + 24 + wide ≤ 8 * l.length ∧ nextN l (t + 24) wide / 2 ^ k < 24)))

theorem first_one {l : List Nat} {t u v : Nat} (hu : ∀ i, i < u → nextN l (t + i) 1 = 0) (h1 : nextN l (t + u) 1 = 1) (hv : ∀ i, i < v → nextN l (t + i) 1 = 0) (h2 : nextN l (t + v) 1 = 1) : u = v := by
  rcases Nat.lt_trichotomy u v with h | h | h
  · have := hv u h; omega
  · exact h
  · have := hu v h; omega

theorem gf_short {v k wide : Nat} (h : v / 2 ^ k < 24) : gw v k wide = v / 2 ^ k + 1 + k ∧ gf v k = 2 ^ k + v % 2 ^ k := by unfold gw gf; rw [if_pos h, if_pos h]; exact ⟨rfl, rfl⟩
theorem gf_long {v k wide : Nat} (h : ¬ v / 2 ^ k < 24) : gw v k wide = 24 + wide ∧ gf v k = v := by unfold gw gf; rw [if_neg h, if_neg h]; exact ⟨rfl, rfl⟩

theorem two_parts (u k low : Nat) (h : low < 2 ^ k) : (u * 2 ^ k + low) / 2 ^ k = u ∧ (u * 2 ^ k + low) % 2 ^ k = low := by
  refine ⟨?_, ?_⟩
  · rw [Nat.add_comm, Nat.add_mul_div_right _ _ (Nat.two_pow_pos _), Nat.div_eq_of_lt h, Nat.zero_add]
  · rw [Nat.mul_add_mod_self_right, Nat.mod_eq_of_lt h]

/-- Where the next bits are a number's form, that number is read. -/
theorem numRes_form {l : List Nat} {t k wide v : Nat} {X E : Int} {t' : Nat} (h : NumRes l t k wide X E t') (hv : v < 2 ^ wide) (hl : t + gw v k wide ≤ 8 * l.length) (hn : nextN l t (gw v k wide) = gf v k) :
    X = (v : Int) ∧ E = 0 ∧ t' = t + gw v k wide := by
  by_cases hs : v / 2 ^ k < 24
  · obtain ⟨e1, e2⟩ := gf_short (wide := wide) hs
    rw [e1, e2] at hn
    rw [e1] at hl ⊢
    obtain ⟨z, o, n⟩ := short_next l t (v / 2 ^ k) k (v % 2 ^ k) (by omega) (Nat.mod_lt _ (Nat.two_pow_pos _)) hn
    have hvv : v / 2 ^ k * 2 ^ k + v % 2 ^ k = v := by rw [Nat.mul_comm]; exact Nat.div_add_mod v (2 ^ k)
    generalize v / 2 ^ k = u at *
    generalize v % 2 ^ k = low at *
    rcases h with ⟨u', hu, z', o', hh, hb, rfl, rfl, rfl⟩ | ⟨z', _⟩ | ⟨_, _, _, ⟨u', hu, z', o', _, hh⟩ | ⟨z', _⟩ | ⟨_, z'⟩⟩ | ⟨_, _, _, ⟨u', hu, z', o', _, hh⟩ | ⟨z', _⟩⟩
    · obtain rfl := first_one z o z' o'
      rw [n, hvv]; exact ⟨rfl, rfl, by omega⟩
    · have := z' u hs; omega
    · obtain rfl := first_one z o z' o'; omega
    · have := z' u hs; omega
    · have := z' u (by omega); omega
    · obtain rfl := first_one z o z' o'; rw [n, hvv] at hh; omega
    · have := z' u hs; omega
  · obtain ⟨e1, e2⟩ := gf_long (wide := wide) hs
    rw [e1, e2] at hn
    rw [e1] at hl ⊢
    obtain ⟨z, n⟩ := long_next l t wide v (by omega) hv hn
    rcases h with ⟨u', hu, z', o', hh, hb, rfl, rfl, rfl⟩ | ⟨z', h1, h2, rfl, rfl, rfl⟩ | ⟨_, _, _, ⟨u', hu, z', o', _, hh⟩ | ⟨z', _, hh⟩ | ⟨hh, z'⟩⟩ | ⟨_, _, _, ⟨u', hu, z', o', _, hh⟩ | ⟨z', _, hh⟩⟩
    · have := z u' hu; omega
    · rw [n]; exact ⟨rfl, rfl, by omega⟩
    · have := z u' hu; omega
    · omega
    · omega
    · have := z u' hu; omega
    · rw [n] at hh; omega

/-- What is read has just the form that is taken. -/
theorem numRes_ok {l : List Nat} {t k wide : Nat} {X E : Int} {t' : Nat} (h : NumRes l t k wide X E t') :
    (E = 0 ∧ ∃ v : Nat, X = (v : Int) ∧ v < 2 ^ wide ∧ t' = t + gw v k wide ∧ t' ≤ 8 * l.length ∧ nextN l t (gw v k wide) = gf v k) ∨ ((E = 23 ∨ E = 24) ∧ t' = t) := by
  rcases h with ⟨u, hu, z, o, hh, hb, rfl, rfl, rfl⟩ | ⟨z, h1, h2, rfl, rfl, rfl⟩ | ⟨_, h, h2, _⟩ | ⟨_, h, h2, _⟩
  · have hp := two_parts u k (nextN l (t + u + 1) k) (nextN_lt _ _ _)
    have hs : (u * 2 ^ k + nextN l (t + u + 1) k) / 2 ^ k < 24 := by rw [hp.1]; exact hu
    obtain ⟨e1, e2⟩ := gf_short (wide := wide) hs
    rw [hp.1] at e1
    rw [hp.2] at e2
    refine .inl ⟨rfl, _, rfl, hb, by rw [e1]; omega, by omega, ?_⟩
    rw [e1, e2, next_short l t u k (by omega) z o]
  · obtain ⟨e1, e2⟩ := gf_long (wide := wide) (show ¬ nextN l (t + 24) wide / 2 ^ k < 24 by omega)
    refine .inl ⟨rfl, _, rfl, nextN_lt _ _ _, by rw [e1]; omega, by omega, ?_⟩
    rw [e1, e2, next_long l t wide (by omega) z]
  · exact .inr ⟨.inl h2, h⟩
  · exact .inr ⟨.inr h2, h⟩
end Go.Proofs.YtahoeodpjdbdkabDoor

namespace Go.Proofs.YtahoeodpjdbdkabDoor
open Go.RowKit

/-- The rate behind i stretches. -/
def ri (r i : Nat) : Nat := min (r + i) 22

/-- What Get of a run comes to. -/
def RunRes (l : List Nat) (t r room : Nat) (X E : Int) (t' r' : Nat) : Prop :=
  ∃ i, (∀ a, a < i → nextN l (t + a) 1 = 1) ∧ S r i ≤ room ∧ t + i ≤ 8 * l.length ∧
    ((S r i = room ∧ X = (room : Int) ∧ E = 0 ∧ t' = t + i ∧ r' = ri r i) ∨
     (S r i < room ∧ t + i < 8 * l.length ∧ nextN l (t + i) 1 = 1 ∧ room < S r (i + 1) ∧ X = (room : Int) ∧ E = 0 ∧ t' = t + i + 1 ∧ r' = ri r i) ∨
     (S r i < room ∧ t + i < 8 * l.length ∧ nextN l (t + i) 1 = 0 ∧ t + i + 1 + J (ri r i) ≤ 8 * l.length ∧ S r i + nextN l (t + i + 1) (J (ri r i)) < room ∧
       X = ((S r i + nextN l (t + i + 1) (J (ri r i)) : Nat) : Int) ∧ E = 0 ∧ t' = t + i + 1 + J (ri r i) ∧ r' = ri r i - 1) ∨
     (S r i < room ∧ X = 0 ∧ t' = t ∧ r' = r ∧ E = 23 ∧ (t + i = 8 * l.length ∨ (t + i < 8 * l.length ∧ nextN l (t + i) 1 = 0 ∧ 8 * l.length < t + i + 1 + J (ri r i)))) ∨
     (S r i < room ∧ t + i < 8 * l.length ∧ X = 0 ∧ t' = t ∧ r' = r ∧ E = 24 ∧ nextN l (t + i) 1 = 0 ∧ t + i + 1 + J (ri r i) ≤ 8 * l.length ∧ room ≤ S r i + nextN l (t + i + 1) (J (ri r i))))

theorem rm_ri (r n : Nat) : rm r n = ri r (cnt r n) := rfl
theorem ri_le (r i : Nat) : ri r i ≤ 22 := by unfold ri; omega
theorem S_succ (r i : Nat) : S r (i + 1) = S r i + 2 ^ J (ri r i) := rfl

theorem run_short {r n room : Nat} (h : n < room) : rw_ r n room = cnt r n + 1 + J (ri r (cnt r n)) ∧ rf r n room = (2 ^ cnt r n - 1) * 2 ^ (1 + J (ri r (cnt r n))) + (n - S r (cnt r n)) ∧ rr r n room = ri r (cnt r n) - 1 := by
  unfold rw_ rf rr; rw [if_pos h, if_pos h, if_pos h]; exact ⟨rfl, rfl, rfl⟩
theorem run_full {r room : Nat} (h : S r (cnt r room) = room) : rw_ r room room = cnt r room ∧ rf r room room = 2 ^ cnt r room - 1 ∧ rr r room room = ri r (cnt r room) := by
  have h0 : ¬ room < room := by omega
  have h1 : rw_ r room room = cnt r room := by unfold rw_; rw [if_neg h0, if_neg (by omega)]
  unfold rf rr
  rw [if_neg h0, if_neg h0, h1]; exact ⟨rfl, rfl, rfl⟩
theorem run_over {r room : Nat} (h : S r (cnt r room) < room) : rw_ r room room = cnt r room + 1 ∧ rf r room room = 2 ^ (cnt r room + 1) - 1 ∧ rr r room room = ri r (cnt r room) := by
  have h0 : ¬ room < room := by omega
  have h1 : rw_ r room room = cnt r room + 1 := by unfold rw_; rw [if_neg h0, if_pos h]
  unfold rf rr
  rw [if_neg h0, if_neg h0, h1]; exact ⟨rfl, rfl, rfl⟩

/-- A run's bits that end in a nought and a number. -/
theorem next_run (l : List Nat) (t i j : Nat) (h : t + i + 1 + j ≤ 8 * l.length) (ho : ∀ a, a < i → nextN l (t + a) 1 = 1) (hz : nextN l (t + i) 1 = 0) :
    nextN l t (i + 1 + j) = (2 ^ i - 1) * 2 ^ (1 + j) + nextN l (t + i + 1) j := by
  have e1 := nextN_join l t (i + 1) j (by omega)
  have e2 := nextN_join l t i 1 (by omega)
  rw [ones_next l t i (by omega) ho, hz] at e2
  rw [e1, e2, show t + (i + 1) = t + i + 1 by omega, Nat.pow_add, Nat.add_zero, Nat.mul_assoc]

theorem run_next (l : List Nat) (t i j low : Nat) (h : t + i + 1 + j ≤ 8 * l.length) (hl : low < 2 ^ j) (hn : nextN l t (i + 1 + j) = (2 ^ i - 1) * 2 ^ (1 + j) + low) :
    (∀ a, a < i → nextN l (t + a) 1 = 1) ∧ nextN l (t + i) 1 = 0 ∧ nextN l (t + i + 1) j = low := by
  have e1 := nextN_join l t (i + 1) j (by omega)
  have e2 := nextN_join l t i 1 (by omega)
  rw [show t + (i + 1) = t + i + 1 by omega] at e1
  have b1 := nextN_lt l (t + i + 1) j
  have b2 := bit_lt l (t + i)
  rw [hn] at e1
  have h3 : nextN l t (i + 1) = (2 ^ i - 1) * 2 := by
    have d1 := two_parts ((2 ^ i - 1) * 2) j low hl
    have d2 := two_parts (nextN l t (i + 1)) j _ b1
    rw [← e1, Nat.pow_add, Nat.pow_one, ← Nat.mul_assoc] at d2
    rw [← d2.1, d1.1]
  have h5 : nextN l (t + i + 1) j = low := by
    rw [h3, Nat.pow_add, Nat.pow_one, ← Nat.mul_assoc] at e1
    omega
  rw [h3] at e2
  exact ⟨next_ones l t i (by omega) (by omega), by omega, h5⟩

theorem runs_same {l : List Nat} {t i j : Nat} (hz : nextN l (t + i) 1 = 0) (hj : ∀ a, a < j → nextN l (t + a) 1 = 1) : j ≤ i := by
  rcases Nat.lt_or_ge i j with h | h
  · have := hj i h; omega
  · exact h

/-- Where the next bits are a run's, that run is read. -/
theorem runRes_form {l : List Nat} {t r room n : Nat} {X E : Int} {t' r' : Nat} (h : RunRes l t r room X E t' r') (hn : n ≤ room) (hl : t + rw_ r n room ≤ 8 * l.length) (hb : nextN l t (rw_ r n room) = rf r n room) :
    X = (n : Int) ∧ E = 0 ∧ t' = t + rw_ r n room ∧ r' = rr r n room := by
  have c1 := cnt_lo r n
  have c2 := cnt_hi r n
  have c3 := left_lt r n
  obtain ⟨i, ho, hS, hti, hc⟩ := h
  by_cases hlt : n < room
  · obtain ⟨e1, e2, e3⟩ := run_short (r := r) hlt
    rw [e1, e2] at hb
    rw [e1] at hl ⊢
    rw [e3]
    rw [rm_ri] at c3
    obtain ⟨o, z, nx⟩ := run_next l t _ _ _ (by omega) c3 hb
    have hle := runs_same z ho
    have hSi := S_mono r (i + 1) (cnt r n)
    have hi : i < cnt r n → S r (i + 1) ≤ n ∧ nextN l (t + i) 1 = 1 := fun h => ⟨by have := hSi h; omega, o i h⟩
    rcases Nat.lt_or_ge i (cnt r n) with hic | hic
    · obtain ⟨g1, g2⟩ := hi hic
      have g3 := S_succ r i
      have g4 := Nat.two_pow_pos (J (ri r i))
      rcases hc with ⟨h1, _⟩ | ⟨_, _, _, h1, _⟩ | ⟨_, _, h1, _⟩ | ⟨_, _, _, _, _, h1 | ⟨_, h1, _⟩⟩ | ⟨_, _, _, _, _, _, h1, _⟩ <;> omega
    · obtain rfl : i = cnt r n := by omega
      rcases hc with ⟨h1, _⟩ | ⟨_, _, h1, _⟩ | ⟨_, _, _, _, _, rfl, rfl, rfl, rfl⟩ | ⟨_, _, _, _, _, h1 | ⟨_, h1, h2⟩⟩ | ⟨_, _, _, _, _, _, h1, _, h2⟩
      · omega
      · omega
      · rw [nx]
        exact ⟨by omega, rfl, by omega, rfl⟩
      · omega
      · omega
      · rw [nx] at h2; omega
  · obtain rfl : n = room := by omega
    rcases Nat.lt_or_ge (S r (cnt r n)) n with hs | hs
    · obtain ⟨e1, e2, e3⟩ := run_over hs
      rw [e1, e2] at hb
      rw [e1] at hl ⊢
      rw [e3]
      have o := next_ones l t _ (by omega) hb
      have hic : i ≤ cnt r n := by
        rcases Nat.lt_or_ge (cnt r n) i with h | h
        · have := S_mono r (cnt r n + 1) i h; omega
        · exact h
      have oi := o i (by omega)
      rcases Nat.lt_or_ge i (cnt r n) with hlt2 | hge
      · have := S_mono r (i + 1) (cnt r n) hlt2
        have g3 := S_succ r i
        have g4 := Nat.two_pow_pos (J (ri r i))
        rcases hc with ⟨h1, _⟩ | ⟨_, _, _, h1, _⟩ | ⟨_, _, h1, _⟩ | ⟨_, _, _, _, _, h1 | ⟨_, h1, _⟩⟩ | ⟨_, _, _, _, _, _, h1, _⟩ <;> omega
      · obtain rfl : i = cnt r n := by omega
        rcases hc with ⟨h1, _⟩ | ⟨_, _, _, _, rfl, rfl, rfl, rfl⟩ | ⟨_, _, h1, _⟩ | ⟨_, _, _, _, _, h1 | ⟨_, h1, _⟩⟩ | ⟨_, _, _, _, _, _, h1, _⟩
        · omega
        · exact ⟨rfl, rfl, by omega, rfl⟩
        · omega
        · omega
        · omega
        · omega
    · have hs2 : S r (cnt r n) = n := by omega
      obtain ⟨e1, e2, e3⟩ := run_full hs2
      rw [e1, e2] at hb
      rw [e1] at hl ⊢
      rw [e3]
      have o := next_ones l t _ (by omega) hb
      have hic : i ≤ cnt r n := by
        rcases Nat.lt_or_ge (cnt r n) i with h | h
        · have := S_mono r (cnt r n + 1) i h; omega
        · exact h
      rcases Nat.lt_or_ge i (cnt r n) with hlt2 | hge
      · have oi := o i (by omega)
        have := S_mono r (i + 1) (cnt r n) hlt2
        have g3 := S_succ r i
        have g4 := Nat.two_pow_pos (J (ri r i))
        rcases hc with ⟨h1, _⟩ | ⟨_, _, _, h1, _⟩ | ⟨_, _, h1, _⟩ | ⟨_, _, _, _, _, h1 | ⟨_, h1, _⟩⟩ | ⟨_, _, _, _, _, _, h1, _⟩ <;> omega
      · obtain rfl : i = cnt r n := by omega
        rcases hc with ⟨h1, rfl, rfl, rfl, rfl⟩ | ⟨h1, _⟩ | ⟨h1, _⟩ | ⟨h1, _⟩ | ⟨h1, _⟩
        · exact ⟨rfl, rfl, rfl, rfl⟩
        · omega
        · omega
        · omega
        · omega

/-- What is read is a run whose bits are just those that are taken. -/
theorem runRes_ok {l : List Nat} {t r room : Nat} {X E : Int} {t' r' : Nat} (h : RunRes l t r room X E t' r') :
    (E = 0 ∧ ∃ n : Nat, X = (n : Int) ∧ n ≤ room ∧ t' = t + rw_ r n room ∧ t' ≤ 8 * l.length ∧ r' = rr r n room ∧ nextN l t (rw_ r n room) = rf r n room) ∨ ((E = 23 ∨ E = 24) ∧ t' = t ∧ r' = r) := by
  obtain ⟨i, ho, hS, hti, hc⟩ := h
  rcases hc with ⟨h1, rfl, rfl, rfl, rfl⟩ | ⟨h1, h2, h3, h4, rfl, rfl, rfl, rfl⟩ | ⟨h1, h2, h3, h4, h5, rfl, rfl, rfl, rfl⟩ | ⟨_, _, h1, h2, h3, _⟩ | ⟨_, _, _, h1, h2, h3, _⟩
  · have hm : cnt r room = i := cnt_eq r room i hS (by have := S_succ r i; have := Nat.two_pow_pos (J (ri r i)); omega)
    obtain ⟨e1, e2, e3⟩ := run_full (r := r) (room := room) (by rw [hm]; exact h1)
    rw [hm] at e1 e2 e3
    refine .inl ⟨rfl, room, rfl, Nat.le_refl _, by rw [e1], hti, by rw [e3], ?_⟩
    rw [e1, e2]
    exact ones_next l t i hti ho
  · have hm : cnt r room = i := cnt_eq r room i hS h4
    obtain ⟨e1, e2, e3⟩ := run_over (r := r) (room := room) (by rw [hm]; exact h1)
    rw [hm] at e1 e2 e3
    refine .inl ⟨rfl, room, rfl, Nat.le_refl _, by rw [e1]; omega, by omega, by rw [e3], ?_⟩
    rw [e1, e2]
    refine ones_next l t (i + 1) (by omega) (fun a ha => ?_)
    by_cases e : a = i
    · subst e; exact h3
    · exact ho a (by omega)
  · have hlow := nextN_lt l (t + i + 1) (J (ri r i))
    have hm : cnt r (S r i + nextN l (t + i + 1) (J (ri r i))) = i := cnt_eq r _ i (by omega) (by rw [S_succ]; omega)
    obtain ⟨e1, e2, e3⟩ := run_short (r := r) h5
    rw [hm] at e1 e2 e3
    refine .inl ⟨rfl, _, rfl, by omega, by rw [e1]; omega, h4, by rw [e3], ?_⟩
    rw [e1, e2, next_run l t i (J (ri r i)) h4 ho h3]
    omega
  · exact .inr ⟨.inl h3, h1, h2⟩
  · exact .inr ⟨.inr h3, h1, h2⟩

/-- A row that is a run rises the rate by as many as it has bits, but one. -/
theorem row_bits (r n : Nat) (hr : r ≤ 22) (h1 : 1 ≤ n) (hn : n ≤ 4096) : rw_ r n n + r ≤ rr r n n + 1 := by
  have c1 := cnt_lo r n
  have c2 := cnt_hi r n
  by_cases h22 : r + cnt r n ≤ 22
  · have hri : ri r (cnt r n) = r + cnt r n := by unfold ri; omega
    rcases Nat.lt_or_ge (S r (cnt r n)) n with hs | hs
    · obtain ⟨e1, _, e3⟩ := run_over hs
      rw [e1, e3, hri]; omega
    · obtain ⟨e1, _, e3⟩ := run_full (show S r (cnt r n) = n by omega)
      rw [e1, e3, hri]; omega
  · have hj : J 22 = 12 := by decide
    -- the stretch at the rate 22 is the whole room
    have hk : S r (22 - r) + 4096 ≤ S r (cnt r n) := by
      have h := S_mono r (22 - r + 1) (cnt r n) (by omega)
      rw [S_succ, show ri r (22 - r) = 22 by unfold ri; omega, hj] at h
      exact h
    have hg := S_ge r (22 - r)
    have hr22 : r = 22 := by omega
    subst hr22
    have hc1 : cnt 22 n = 1 := by
      have h := S_mono 22 2 (cnt 22 n)
      have h2 : S 22 2 = 8192 := by decide
      rcases Nat.lt_or_ge (cnt 22 n) 2 with h3 | h3
      · omega
      · have := h h3; omega
    have h41 : S 22 1 = 4096 := by decide
    rw [hc1] at c1
    obtain ⟨e1, _, e3⟩ := run_full (r := 22) (room := n) (by rw [hc1]; omega)
    rw [e1, e3, hc1]
    decide
end Go.Proofs.YtahoeodpjdbdkabDoor
