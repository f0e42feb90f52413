import Derived.Test.YtahoeodpjdbdkaaDoorGaZ
namespace Go.Proofs.YtahoeodpjdbdkaaDoor
open Go.RowKit

/-- What is read is one. -/
theorem numRes_one {l : List Nat} {t k wide : Nat} {X E X2 E2 : Int} {t' t2 : Nat} (h : NumRes l t k wide X E t') (h2 : NumRes l t k wide X2 E2 t2) : X = X2 ∧ E = E2 ∧ t' = t2 := by
  rcases numRes_ok h with ⟨rfl, v, rfl, hv, rfl, hle, hb⟩ | ⟨hE, rfl⟩
  · obtain ⟨rfl, rfl, rfl⟩ := numRes_form h2 hv hle hb
    exact ⟨rfl, rfl, rfl⟩
  · rcases numRes_ok h2 with ⟨rfl, v, rfl, hv, rfl, hle, hb⟩ | ⟨hE2, rfl⟩
    · obtain ⟨rfl, rfl, e3⟩ := numRes_form h hv hle hb
      rcases hE with h | h <;> cases h
    · obtain ⟨rfl, _⟩ := numRes_err h (by rcases hE with h | h <;> rw [h] <;> decide)
      obtain ⟨rfl, _⟩ := numRes_err h2 (by rcases hE2 with h | h <;> rw [h] <;> decide)
      refine ⟨rfl, ?_, rfl⟩
      rcases h with ⟨_, _, _, _, _, _, _, h, _⟩ | ⟨_, _, _, _, h, _⟩ | ⟨_, _, h, hc⟩ | ⟨_, _, h, hc⟩
      · rw [h] at hE; rcases hE with h | h <;> cases h
      · rw [h] at hE; rcases hE with h | h <;> cases h
      · rcases h2 with ⟨_, _, _, _, _, _, _, g, _⟩ | ⟨_, _, _, _, g, _⟩ | ⟨_, _, g, _⟩ | ⟨_, _, g, gc⟩
        · rw [g] at hE2; rcases hE2 with h | h <;> cases h
        · rw [g] at hE2; rcases hE2 with h | h <;> cases h
        · rw [h, g]
        · exfalso
          rcases hc with ⟨u, hu, z, o, h3, h4⟩ | ⟨z, h3, h4⟩ | ⟨h3, z⟩
          · rcases gc with ⟨u2, hu2, z2, o2, g3, _⟩ | ⟨z2, g3, _⟩
            · obtain rfl := first_one z o z2 o2; omega
            · have := z2 u hu; omega
          · rcases gc with ⟨u2, hu2, z2, o2, g3, _⟩ | ⟨z2, g3, _⟩
            · have := z u2 hu2; omega
            · omega
          · rcases gc with ⟨u2, hu2, z2, o2, g3, _⟩ | ⟨z2, g3, _⟩
            · have := z u2 (by omega); omega
            · omega
      · rcases h2 with ⟨_, _, _, _, _, _, _, g, _⟩ | ⟨_, _, _, _, g, _⟩ | ⟨_, _, g, gc⟩ | ⟨_, _, g, _⟩
        · rw [g] at hE2; rcases hE2 with h | h <;> cases h
        · rw [g] at hE2; rcases hE2 with h | h <;> cases h
        · exfalso
          rcases gc with ⟨u, hu, z, o, h3, h4⟩ | ⟨z, h3, h4⟩ | ⟨h3, z⟩
          · rcases hc with ⟨u2, hu2, z2, o2, g3, _⟩ | ⟨z2, g3, _⟩
            · obtain rfl := first_one z o z2 o2; omega
            · have := z2 u hu; omega
          · rcases hc with ⟨u2, hu2, z2, o2, g3, _⟩ | ⟨z2, g3, _⟩
            · have := z u2 hu2; omega
            · omega
          · rcases hc with ⟨u2, hu2, z2, o2, g3, _⟩ | ⟨z2, g3, _⟩
            · have := z u2 (by omega); omega
            · omega
        · rw [h, g]

/-- There is always something that Get comes to. -/
theorem numRes_ex (l : List Nat) (t k wide : Nat) (ht : t ≤ 8 * l.length) : ∃ X E t', NumRes l t k wide X E t' := by
  have hz : ∃ u, u ≤ 24 ∧ t + u ≤ 8 * l.length ∧ (∀ i, i < u → nextN l (t + i) 1 = 0) ∧ (u = 24 ∨ t + u = 8 * l.length ∨ nextN l (t + u) 1 = 1) := by
    have go : ∀ n, n ≤ 24 → ∃ u, u ≤ n ∧ t + u ≤ 8 * l.length ∧ (∀ i, i < u → nextN l (t + i) 1 = 0) ∧ (u = n ∨ t + u = 8 * l.length ∨ nextN l (t + u) 1 = 1) := by
      intro n
      induction n with
      | zero => intro _; exact ⟨0, Nat.le_refl _, by omega, fun i hi => by omega, .inl rfl⟩
      | succ n ih =>
        intro hn
        obtain ⟨u, h1, h2, h3, h4⟩ := ih (by omega)
        rcases h4 with rfl | h4
        · by_cases he : t + u = 8 * l.length
          · exact ⟨u, by omega, h2, h3, .inr (.inl he)⟩
          · have hb := bit_lt l (t + u)
            by_cases h0 : nextN l (t + u) 1 = 0
            · refine ⟨u + 1, by omega, by omega, fun i hi => ?_, .inl rfl⟩
              by_cases e : i = u
              · subst e; exact h0
              · exact h3 i (by omega)
            · exact ⟨u, by omega, h2, h3, .inr (.inr (by omega))⟩
        · exact ⟨u, by omega, h2, h3, .inr h4⟩
    exact go 24 (Nat.le_refl _)
  obtain ⟨u, h1, h2, h3, h4⟩ := hz
  by_cases h24 : u = 24
  · subst h24
    by_cases hend : t + 24 + wide ≤ 8 * l.length
    · by_cases hf : nextN l (t + 24) wide / 2 ^ k < 24
      · exact ⟨_, _, _, .inr (.inr (.inr ⟨rfl, rfl, rfl, .inr ⟨h3, hend, hf⟩⟩))⟩
      · exact ⟨_, _, _, .inr (.inl ⟨h3, hend, by omega, rfl, rfl, rfl⟩)⟩
    · exact ⟨_, _, _, .inr (.inr (.inl ⟨rfl, rfl, rfl, .inr (.inl ⟨h3, h2, by omega⟩)⟩))⟩
  · rcases h4 with h4 | h4 | h4
    · exact absurd h4 h24
    · exact ⟨_, _, _, .inr (.inr (.inl ⟨rfl, rfl, rfl, .inr (.inr ⟨by omega, fun i hi => h3 i (by omega)⟩)⟩))⟩
    · by_cases he : t + u = 8 * l.length
      · exact ⟨_, _, _, .inr (.inr (.inl ⟨rfl, rfl, rfl, .inr (.inr ⟨by omega, fun i hi => h3 i (by omega)⟩)⟩))⟩
      · by_cases hend : t + u + 1 + k ≤ 8 * l.length
        · by_cases hf : u * 2 ^ k + nextN l (t + u + 1) k < 2 ^ wide
          · exact ⟨_, _, _, .inl ⟨u, by omega, h3, h4, hend, hf, rfl, rfl, rfl⟩⟩
          · exact ⟨_, _, _, .inr (.inr (.inr ⟨rfl, rfl, rfl, .inl ⟨u, by omega, h3, h4, hend, by omega⟩⟩))⟩
        · exact ⟨_, _, _, .inr (.inr (.inl ⟨rfl, rfl, rfl, .inl ⟨u, by omega, h3, h4, by omega, by omega⟩⟩))⟩

/-- What is read of a run is one. -/
theorem runRes_one {l : List Nat} {t r room : Nat} {X E X2 E2 : Int} {t' t2 r' r2 : Nat} (h : RunRes l t r room X E t' r') (h2 : RunRes l t r room X2 E2 t2 r2) : X = X2 ∧ E = E2 ∧ t' = t2 ∧ r' = r2 := by
  rcases runRes_ok h with ⟨rfl, n, rfl, hn, rfl, hle, rfl, hb⟩ | ⟨hE, rfl, rfl⟩
  · obtain ⟨rfl, rfl, rfl, rfl⟩ := runRes_form h2 hn hle hb
    exact ⟨rfl, rfl, rfl, rfl⟩
  · rcases runRes_ok h2 with ⟨rfl, n, rfl, hn, rfl, hle, rfl, hb⟩ | ⟨hE2, rfl, rfl⟩
    · obtain ⟨rfl, rfl, e3, e4⟩ := runRes_form h hn hle hb
      rcases hE with h | h <;> cases h
    · obtain ⟨rfl, _⟩ := runRes_err h (by rcases hE with h | h <;> rw [h] <;> decide)
      obtain ⟨rfl, _⟩ := runRes_err h2 (by rcases hE2 with h | h <;> rw [h] <;> decide)
      refine ⟨rfl, ?_, rfl, rfl⟩
      obtain ⟨i, ho, hS, hti, hc⟩ := h
      obtain ⟨j, go, gS, gti, gc⟩ := h2
      rcases hE with rfl | rfl
      · rcases hE2 with rfl | rfl
        · rfl
        · exfalso
          rcases hc with ⟨_, _, h, _⟩ | ⟨_, _, _, _, _, h, _⟩ | ⟨_, _, _, _, _, _, h, _⟩ | ⟨_, _, _, _, _, hc⟩ | ⟨_, _, _, _, _, h, _⟩
          · cases h
          · cases h
          · cases h
          · rcases gc with ⟨_, _, h, _⟩ | ⟨_, _, _, _, _, h, _⟩ | ⟨_, _, _, _, _, _, h, _⟩ | ⟨_, _, _, _, h, _⟩ | ⟨_, g1, _, _, _, _, g2, g3, g4⟩
            · cases h
            · cases h
            · cases h
            · cases h
            · rcases hc with hc | ⟨h1, h2, h3⟩
              · rcases Nat.lt_trichotomy i j with e | e | e
                · omega
                · omega
                · have := ho j e; omega
              · rcases Nat.lt_trichotomy i j with e | e | e
                · have := go i e; omega
                · subst e; omega
                · have := ho j e; omega
          · cases h
      · rcases hE2 with rfl | rfl
        · exfalso
          rcases gc with ⟨_, _, h, _⟩ | ⟨_, _, _, _, _, h, _⟩ | ⟨_, _, _, _, _, _, h, _⟩ | ⟨_, _, _, _, _, gc⟩ | ⟨_, _, _, _, _, h, _⟩
          · cases h
          · cases h
          · cases h
          · rcases hc with ⟨_, _, h, _⟩ | ⟨_, _, _, _, _, h, _⟩ | ⟨_, _, _, _, _, _, h, _⟩ | ⟨_, _, _, _, h, _⟩ | ⟨_, g1, _, _, _, _, g2, g3, g4⟩
            · cases h
            · cases h
            · cases h
            · cases h
            · rcases gc with gc | ⟨h1, h2, h3⟩
              · rcases Nat.lt_trichotomy i j with e | e | e
                · have := go i e; omega
                · omega
                · omega
              · rcases Nat.lt_trichotomy i j with e | e | e
                · have := go i e; omega
                · subst e; omega
                · have := ho j e; omega
          · cases h
        · rfl

/-- There is always something that Get of a run comes to. -/
theorem runRes_ex (l : List Nat) (t r room : Nat) (ht : t ≤ 8 * l.length) : ∃ X E t' r', RunRes l t r room X E t' r' := by
  have go : ∀ n, ∃ i, i ≤ n ∧ (∀ a, a < i → nextN l (t + a) 1 = 1) ∧ S r i ≤ room ∧ t + i ≤ 8 * l.length ∧ (i = n ∨ S r i = room ∨ t + i = 8 * l.length ∨ nextN l (t + i) 1 = 0 ∨ room < S r (i + 1)) := by
    intro n
    induction n with
    | zero => exact ⟨0, Nat.le_refl _, fun a ha => by omega, Nat.zero_le _, by omega, .inl rfl⟩
    | succ n ih =>
      obtain ⟨i, h1, h2, h3, h4, h5⟩ := ih
      rcases h5 with rfl | h5
      · by_cases e1 : S r i = room
        · exact ⟨i, by omega, h2, h3, h4, .inr (.inl e1)⟩
        · by_cases e2 : t + i = 8 * l.length
          · exact ⟨i, by omega, h2, h3, h4, .inr (.inr (.inl e2))⟩
          · have hb := bit_lt l (t + i)
            by_cases e3 : nextN l (t + i) 1 = 0
            · exact ⟨i, by omega, h2, h3, h4, .inr (.inr (.inr (.inl e3)))⟩
            · by_cases e4 : room < S r (i + 1)
              · exact ⟨i, by omega, h2, h3, h4, .inr (.inr (.inr (.inr e4)))⟩
              · refine ⟨i + 1, Nat.le_refl _, fun a ha => ?_, by omega, by omega, .inl rfl⟩
                by_cases e : a = i
                · subst e; omega
                · exact h2 a (by omega)
      · exact ⟨i, by omega, h2, h3, h4, .inr h5⟩
  obtain ⟨i, _, h2, h3, h4, h5⟩ := go (room + 1)
  by_cases e1 : S r i = room
  · exact ⟨_, _, _, _, i, h2, h3, h4, .inl ⟨e1, rfl, rfl, rfl, rfl⟩⟩
  · have e1' : S r i < room := by omega
    by_cases e2 : t + i = 8 * l.length
    · exact ⟨_, _, _, _, i, h2, h3, h4, .inr (.inr (.inr (.inl ⟨e1', rfl, rfl, rfl, rfl, .inl e2⟩)))⟩
    · have hb := bit_lt l (t + i)
      by_cases e3 : nextN l (t + i) 1 = 0
      · by_cases e5 : t + i + 1 + J (ri r i) ≤ 8 * l.length
        · by_cases e6 : S r i + nextN l (t + i + 1) (J (ri r i)) < room
          · exact ⟨_, _, _, _, i, h2, h3, h4, .inr (.inr (.inl ⟨e1', by omega, e3, e5, e6, rfl, rfl, rfl, rfl⟩))⟩
          · exact ⟨_, _, _, _, i, h2, h3, h4, .inr (.inr (.inr (.inr ⟨e1', by omega, rfl, rfl, rfl, rfl, e3, e5, by omega⟩)))⟩
        · exact ⟨_, _, _, _, i, h2, h3, h4, .inr (.inr (.inr (.inl ⟨e1', rfl, rfl, rfl, rfl, .inr ⟨by omega, e3, by omega⟩⟩)))⟩
      · have e3' : nextN l (t + i) 1 = 1 := by omega
        have e4 : room < S r (i + 1) := by
          rcases h5 with h5 | h5 | h5 | h5 | h5
          · have := S_ge r i; omega
          · exact absurd h5 e1
          · exact absurd h5 e2
          · exact absurd h5 e3
          · exact h5
        exact ⟨_, _, _, _, i, h2, h3, h4, .inr (.inl ⟨e1', by omega, e3', e4, rfl, rfl, rfl, rfl⟩)⟩
end Go.Proofs.YtahoeodpjdbdkaaDoor
