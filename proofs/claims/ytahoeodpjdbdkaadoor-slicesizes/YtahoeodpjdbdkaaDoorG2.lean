import Derived.Test.YtahoeodpjdbdkaaDoorG1
namespace Go.Proofs.YtahoeodpjdbdkaaDoor
open Go.RowKit

theorem bit_lt (l : List Nat) (t : Nat) : nextN l t 1 < 2 := nextN_lt l t 1

/-- Noughts alone are nought. -/
theorem zeros_next (l : List Nat) (t u : Nat) (h : t + u ≤ 8 * l.length) (hz : ∀ i, i < u → nextN l (t + i) 1 = 0) : nextN l t u = 0 := by
  induction u with
  | zero => unfold nextN; rw [Nat.pow_zero, Nat.mod_one]
  | succ u ih =>
    rw [nextN_join l t u 1 (by omega), ih (by omega) (fun i hi => hz i (by omega)), hz u (by omega)]

/-- Ones alone. -/
theorem ones_next (l : List Nat) (t u : Nat) (h : t + u ≤ 8 * l.length) (hz : ∀ i, i < u → nextN l (t + i) 1 = 1) : nextN l t u = 2 ^ u - 1 := by
  induction u with
  | zero => unfold nextN; rw [Nat.pow_zero, Nat.mod_one]
  | succ u ih =>
    rw [nextN_join l t u 1 (by omega), ih (by omega) (fun i hi => hz i (by omega)), hz u (by omega)]
    have := Nat.two_pow_pos u
    rw [Nat.pow_succ]
    omega

theorem next_zeros (l : List Nat) (t u : Nat) (h : t + u ≤ 8 * l.length) (hz : nextN l t u = 0) : ∀ i, i < u → nextN l (t + i) 1 = 0 := lead_none l t u h hz

theorem next_ones (l : List Nat) (t u : Nat) (h : t + u ≤ 8 * l.length) (hz : nextN l t u = 2 ^ u - 1) : ∀ i, i < u → nextN l (t + i) 1 = 1 := by
  induction u with
  | zero => intro i hi; omega
  | succ u ih =>
    have hj := nextN_join l t u 1 (by omega)
    have b := bit_lt l (t + u)
    have hp := Nat.two_pow_pos u
    rw [hz, Nat.pow_succ] at hj
    have h1 : nextN l (t + u) 1 = 1 := by omega
    have h2 : nextN l t u = 2 ^ u - 1 := by omega
    intro i hi
    by_cases e : i = u
    · subst e; exact h1
    · exact ih (by omega) h2 i (by omega)

/-- A short form's bits. -/
theorem next_short (l : List Nat) (t u k : Nat) (h : t + u + 1 + k ≤ 8 * l.length) (hz : ∀ i, i < u → nextN l (t + i) 1 = 0) (h1 : nextN l (t + u) 1 = 1) :
    nextN l t (u + 1 + k) = 2 ^ k + nextN l (t + u + 1) k := by
  have e1 := nextN_join l t (u + 1) k (by omega)
  have e2 := nextN_join l t u 1 (by omega)
  rw [zeros_next l t u (by omega) hz, h1] at e2
  rw [e1, e2, show t + (u + 1) = t + u + 1 by omega]
  simp

theorem short_next (l : List Nat) (t u k low : Nat) (h : t + u + 1 + k ≤ 8 * l.length) (hl : low < 2 ^ k) (hn : nextN l t (u + 1 + k) = 2 ^ k + low) :
    (∀ i, i < u → nextN l (t + i) 1 = 0) ∧ nextN l (t + u) 1 = 1 ∧ nextN l (t + u + 1) k = low := by
  have e1 := nextN_join l t (u + 1) k (by omega)
  have e2 := nextN_join l t u 1 (by omega)
  rw [show t + (u + 1) = t + u + 1 by omega] at e1
  have b1 := nextN_lt l (t + u + 1) k
  have b2 := bit_lt l (t + u)
  rw [hn] at e1
  have h3 : nextN l t (u + 1) = 1 := by
    have d1 : (2 ^ k + low) / 2 ^ k = 1 := by
      rw [Nat.add_comm, Nat.add_div_right _ (Nat.two_pow_pos _), Nat.div_eq_of_lt hl]
    have d2 : (nextN l t (u + 1) * 2 ^ k + nextN l (t + u + 1) k) / 2 ^ k = nextN l t (u + 1) := by
      rw [Nat.add_comm, Nat.add_mul_div_right _ _ (Nat.two_pow_pos _), Nat.div_eq_of_lt b1, Nat.zero_add]
    rw [← d2, ← e1, d1]
  rw [h3] at e1 e2
  have h4 : nextN l t u = 0 := by omega
  exact ⟨next_zeros l t u (by omega) h4, by omega, by omega⟩

/-- A long form's bits. -/
theorem next_long (l : List Nat) (t wide : Nat) (h : t + 24 + wide ≤ 8 * l.length) (hz : ∀ i, i < 24 → nextN l (t + i) 1 = 0) : nextN l t (24 + wide) = nextN l (t + 24) wide := by
  rw [nextN_join l t 24 wide (by omega), zeros_next l t 24 (by omega) hz]
  simp

theorem long_next (l : List Nat) (t wide v : Nat) (h : t + 24 + wide ≤ 8 * l.length) (hv : v < 2 ^ wide) (hn : nextN l t (24 + wide) = v) :
    (∀ i, i < 24 → nextN l (t + i) 1 = 0) ∧ nextN l (t + 24) wide = v := by
  have e1 := nextN_join l t 24 wide (by omega)
  have b1 := nextN_lt l (t + 24) wide
  rw [hn] at e1
  have h3 : nextN l t 24 = 0 := by
    have d2 : (nextN l t 24 * 2 ^ wide + nextN l (t + 24) wide) / 2 ^ wide = nextN l t 24 := by
      rw [Nat.add_comm, Nat.add_mul_div_right _ _ (Nat.two_pow_pos _), Nat.div_eq_of_lt b1, Nat.zero_add]
    rw [← d2, ← e1, Nat.div_eq_of_lt hv]
  rw [h3] at e1
  exact ⟨next_zeros l t 24 (by omega) h3, by omega⟩

/-- What Get of a number comes to. -/
def NumRes (l : List Nat) (t k wide : Nat) (X E : Int) (t' : Nat) : Prop :=
  (∃ u, u < 24 ∧ (∀ i, i < u → nextN l (t + i) 1 = 0) ∧ nextN l (t + u) 1 = 1 ∧ t + u + 1 + k ≤ 8 * l.length ∧ u * 2 ^ k + nextN l (t + u + 1) k < 2 ^ wide ∧
    X = ((u * 2 ^ k + nextN l (t + u + 1) k : Nat) : Int) ∧ E = 0 ∧ t' = t + u + 1 + k) ∨
  ((∀ i, i < 24 → nextN l (t + i) 1 = 0) ∧ t + 24 + wide ≤ 8 * l.length ∧ 24 ≤ nextN l (t + 24) wide / 2 ^ k ∧ X = (nextN l (t + 24) wide : Int) ∧ E = 0 ∧ t' = t + 24 + wide) ∨
  (X = 0 ∧ t' = t ∧ E = 23 ∧ ((∃ u, u < 24 ∧ (∀ i, i < u → nextN l (t + i) 1 = 0) ∧ nextN l (t + u) 1 = 1 ∧ t + u < 8 * l.length ∧ 8 * l.length < t + u + 1 + k) ∨
    ((∀ i, i < 24 → nextN l (t + i) 1 = 0) ∧ t + 24 ≤ 8 * l.length ∧ 8 * l.length < t + 24 + wide) ∨ (8 * l.length < t + 24 ∧ ∀ i, t + i < 8 * l.length → nextN l (t + i) 1 = 0))) ∨
  (X = 0 ∧ t' = t ∧ E = 24 ∧ ((∃ u, u < 24 ∧ (∀ i, i < u → nextN l (t + i) 1 = 0) ∧ nextN l (t + u) 1 = 1 ∧ t + u + 1 + k ≤ 8 * l.length ∧ 2 ^ wide ≤ u * 2 ^ k + nextN l (t + u + 1) k) ∨
    ((∀ i, i < 24 → nextN l (t + i) 1 = 0) ∧ t + 24 + wide ≤ 8 * l.length ∧ nextN l (t + 24) wide / 2 ^ k < 24)))

theorem first_one {l : List Nat} {t u v : Nat} (hu : ∀ i, i < u → nextN l (t + i) 1 = 0) (h1 : nextN l (t + u) 1 = 1) (hv : ∀ i, i < v → nextN l (t + i) 1 = 0) (h2 : nextN l (t + v) 1 = 1) : u = v := by
  rcases Nat.lt_trichotomy u v with h | h | h
  · have := hv u h; omega
  · exact h
  · have := hu v h; omega

theorem gf_short {v k wide : Nat} (h : v / 2 ^ k < 24) : gw v k wide = v / 2 ^ k + 1 + k ∧ gf v k = 2 ^ k + v % 2 ^ k := by unfold gw gf; rw [if_pos h, if_pos h]; exact ⟨rfl, rfl⟩
theorem gf_long {v k wide : Nat} (h : ¬ v / 2 ^ k < 24) : gw v k wide = 24 + wide ∧ gf v k = v := by unfold gw gf; rw [if_neg h, if_neg h]; exact ⟨rfl, rfl⟩

theorem two_parts (u k low : Nat) (h : low < 2 ^ k) : (u * 2 ^ k + low) / 2 ^ k = u ∧ (u * 2 ^ k + low) % 2 ^ k = low := by
  refine ⟨?_, ?_⟩
  · rw [Nat.add_comm, Nat.add_mul_div_right _ _ (Nat.two_pow_pos _), Nat.div_eq_of_lt h, Nat.zero_add]
  · rw [Nat.mul_add_mod_self_right, Nat.mod_eq_of_lt h]

/-- Where the next bits are a number's form, that number is read. -/
theorem numRes_form {l : List Nat} {t k wide v : Nat} {X E : Int} {t' : Nat} (h : NumRes l t k wide X E t') (hv : v < 2 ^ wide) (hl : t + gw v k wide ≤ 8 * l.length) (hn : nextN l t (gw v k wide) = gf v k) :
    X = (v : Int) ∧ E = 0 ∧ t' = t + gw v k wide := by
  by_cases hs : v / 2 ^ k < 24
  · obtain ⟨e1, e2⟩ := gf_short (wide := wide) hs
    rw [e1, e2] at hn
    rw [e1] at hl ⊢
    obtain ⟨z, o, n⟩ := short_next l t (v / 2 ^ k) k (v % 2 ^ k) (by omega) (Nat.mod_lt _ (Nat.two_pow_pos _)) hn
    have hvv : v / 2 ^ k * 2 ^ k + v % 2 ^ k = v := by rw [Nat.mul_comm]; exact Nat.div_add_mod v (2 ^ k)
    generalize v / 2 ^ k = u at *
    generalize v % 2 ^ k = low at *
    rcases h with ⟨u', hu, z', o', hh, hb, rfl, rfl, rfl⟩ | ⟨z', _⟩ | ⟨_, _, _, ⟨u', hu, z', o', _, hh⟩ | ⟨z', _⟩ | ⟨_, z'⟩⟩ | ⟨_, _, _, ⟨u', hu, z', o', _, hh⟩ | ⟨z', _⟩⟩
    · obtain rfl := first_one z o z' o'
      rw [n, hvv]; exact ⟨rfl, rfl, by omega⟩
    · have := z' u hs; omega
    · obtain rfl := first_one z o z' o'; omega
    · have := z' u hs; omega
    · have := z' u (by omega); omega
    · obtain rfl := first_one z o z' o'; rw [n, hvv] at hh; omega
    · have := z' u hs; omega
  · obtain ⟨e1, e2⟩ := gf_long (wide := wide) hs
    rw [e1, e2] at hn
    rw [e1] at hl ⊢
    obtain ⟨z, n⟩ := long_next l t wide v (by omega) hv hn
    rcases h with ⟨u', hu, z', o', hh, hb, rfl, rfl, rfl⟩ | ⟨z', h1, h2, rfl, rfl, rfl⟩ | ⟨_, _, _, ⟨u', hu, z', o', _, hh⟩ | ⟨z', _, hh⟩ | ⟨hh, z'⟩⟩ | ⟨_, _, _, ⟨u', hu, z', o', _, hh⟩ | ⟨z', _, hh⟩⟩
    · have := z u' hu; omega
    · rw [n]; exact ⟨rfl, rfl, by omega⟩
    · have := z u' hu; omega
    · omega
    · omega
    · have := z u' hu; omega
    · rw [n] at hh; omega

/-- What is read has just the form that is taken. -/
theorem numRes_ok {l : List Nat} {t k wide : Nat} {X E : Int} {t' : Nat} (h : NumRes l t k wide X E t') :
    (E = 0 ∧ ∃ v : Nat, X = (v : Int) ∧ v < 2 ^ wide ∧ t' = t + gw v k wide ∧ t' ≤ 8 * l.length ∧ nextN l t (gw v k wide) = gf v k) ∨ ((E = 23 ∨ E = 24) ∧ t' = t) := by
  rcases h with ⟨u, hu, z, o, hh, hb, rfl, rfl, rfl⟩ | ⟨z, h1, h2, rfl, rfl, rfl⟩ | ⟨_, h, h2, _⟩ | ⟨_, h, h2, _⟩
  · have hp := two_parts u k (nextN l (t + u + 1) k) (nextN_lt _ _ _)
    have hs : (u * 2 ^ k + nextN l (t + u + 1) k) / 2 ^ k < 24 := by rw [hp.1]; exact hu
    obtain ⟨e1, e2⟩ := gf_short (wide := wide) hs
    rw [hp.1] at e1
    rw [hp.2] at e2
    refine .inl ⟨rfl, _, rfl, hb, by rw [e1]; omega, by omega, ?_⟩
    rw [e1, e2, next_short l t u k (by omega) z o]
  · obtain ⟨e1, e2⟩ := gf_long (wide := wide) (show ¬ nextN l (t + 24) wide / 2 ^ k < 24 by omega)
    refine .inl ⟨rfl, _, rfl, nextN_lt _ _ _, by rw [e1]; omega, by omega, ?_⟩
    rw [e1, e2, next_long l t wide (by omega) z]
  · exact .inr ⟨.inl h2, h⟩
  · exact .inr ⟨.inr h2, h⟩
end Go.Proofs.YtahoeodpjdbdkaaDoor
