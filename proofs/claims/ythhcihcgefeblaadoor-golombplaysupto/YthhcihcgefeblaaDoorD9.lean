import Derived.Test.YthhcihcgefeblaaDoorD8
namespace Go.Proofs.YthhcihcgefeblaaDoor
open Go.RowKit

/-- What is read is one. -/
theorem numRes_one {l : List Nat} {t k wide : Nat} {X E X2 E2 : Int} {t' t2 : Nat} (h : NumRes l t k wide X E t') (h2 : NumRes l t k wide X2 E2 t2) : X = X2 ∧ E = E2 ∧ t' = t2 := by
  rcases numRes_ok h with ⟨rfl, v, rfl, hv, rfl, hle, hb⟩ | ⟨hE, rfl⟩
  · obtain ⟨rfl, rfl, rfl⟩ := numRes_form h2 hv hle hb
    exact ⟨rfl, rfl, rfl⟩
  · rcases numRes_ok h2 with ⟨rfl, v, rfl, hv, rfl, hle, hb⟩ | ⟨hE2, rfl⟩
    · obtain ⟨rfl, rfl, e3⟩ := numRes_form h hv hle hb
      rcases hE with h | h <;> cases h
    · obtain ⟨rfl, _⟩ := numRes_err h (by rcases hE with h | h <;> rw [h] <;> decide)
      obtain ⟨rfl, _⟩ := numRes_err h2 (by rcases hE2 with h | h <;> rw [h] <;> decide)
      refine ⟨rfl, ?_, rfl⟩
      rcases h with ⟨_, _, _, _, _, _, _, h, _⟩ | ⟨_, _, _, _, h, _⟩ | ⟨_, _, h, hc⟩ | ⟨_, _, h, hc⟩
      · rw [h] at hE; rcases hE with h | h <;> cases h
      · rw [h] at hE; rcases hE with h | h <;> cases h
      · rcases h2 with ⟨_, _, _, _, _, _, _, g, _⟩ | ⟨_, _, _, _, g, _⟩ | ⟨_, _, g, _⟩ | ⟨_, _, g, gc⟩
        · rw [g] at hE2; rcases hE2 with h | h <;> cases h
        · rw [g] at hE2; rcases hE2 with h | h <;> cases h
        · rw [h, g]
        · exfalso
          rcases hc with ⟨u, hu, z, o, h3, h4⟩ | ⟨z, h3, h4⟩ | ⟨h3, z⟩
          · rcases gc with ⟨u2, hu2, z2, o2, g3, _⟩ | ⟨z2, g3, _⟩
            · obtain rfl := first_one z o z2 o2; omega
            · have := z2 u hu; omega
          · rcases gc with ⟨u2, hu2, z2, o2, g3, _⟩ | ⟨z2, g3, _⟩
            · have := z u2 hu2; omega
            · omega
          · rcases gc with ⟨u2, hu2, z2, o2, g3, _⟩ | ⟨z2, g3, _⟩
            · have := z u2 (by omega); omega
            · omega
      · rcases h2 with ⟨_, _, _, _, _, _, _, g, _⟩ | ⟨_, _, _, _, g, _⟩ | ⟨_, _, g, gc⟩ | ⟨_, _, g, _⟩
        · rw [g] at hE2; rcases hE2 with h | h <;> cases h
        · rw [g] at hE2; rcases hE2 with h | h <;> cases h
        · exfalso
          rcases gc with ⟨u, hu, z, o, h3, h4⟩ | ⟨z, h3, h4⟩ | ⟨h3, z⟩
          · rcases hc with ⟨u2, hu2, z2, o2, g3, _⟩ | ⟨z2, g3, _⟩
            · obtain rfl := first_one z o z2 o2; omega
            · have := z2 u hu; omega
          · rcases hc with ⟨u2, hu2, z2, o2, g3, _⟩ | ⟨z2, g3, _⟩
            · have := z u2 hu2; omega
            · omega
          · rcases hc with ⟨u2, hu2, z2, o2, g3, _⟩ | ⟨z2, g3, _⟩
            · have := z u2 (by omega); omega
            · omega
        · rw [h, g]

set_option maxHeartbeats 1000000 in
theorem gget_param (B : Nat) (k wide : Int) (w : World) (h : ¬ Okp k wide) :
    Calls Tryd.prog 25 #[.pointer (some ⟨B, 0, none⟩), .int .i64 k, .int .i64 wide] w fun e w' => e = .returned (.tuple #[.int .i64 0, .int .i64 21]) ∧ w' = w := by
  go_enter Tryd.func25, Tryd.ntmps25
  go_wp2_with (go_at_call 54; refine (formed_no k wide _ h).mono ?_; rintro e w' ⟨rfl, rfl⟩)
  go_ret2
  exact ⟨rfl, rfl⟩

set_option maxHeartbeats 1000000 in
theorem getD_param (B : Nat) (k wide : Int) (w : World) (h : ¬ Okp k wide) :
    Calls Tryd.prog 40 #[.pointer (some ⟨B, 0, none⟩), .int .i64 k, .int .i64 wide] w fun e w' => e = .returned (.tuple #[.int .i64 0, .int .i64 21]) ∧ w' = w := by
  go_enter Tryd.func40, Tryd.ntmps40
  go_wp2_with (go_at_call 62; refine (params_no k wide _ h).mono ?_; rintro e w' ⟨rfl, rfl⟩)
  go_ret2
  exact ⟨rfl, rfl⟩

/-- There is always something that Get comes to. -/
theorem numRes_ex (l : List Nat) (t k wide : Nat) (ht : t ≤ 8 * l.length) : ∃ X E t', NumRes l t k wide X E t' := by
  have hz : ∃ u, u ≤ 24 ∧ t + u ≤ 8 * l.length ∧ (∀ i, i < u → nextN l (t + i) 1 = 0) ∧ (u = 24 ∨ t + u = 8 * l.length ∨ nextN l (t + u) 1 = 1) := by
    have go : ∀ n, n ≤ 24 → ∃ u, u ≤ n ∧ t + u ≤ 8 * l.length ∧ (∀ i, i < u → nextN l (t + i) 1 = 0) ∧ (u = n ∨ t + u = 8 * l.length ∨ nextN l (t + u) 1 = 1) := by
      intro n
      induction n with
      | zero => intro _; exact ⟨0, Nat.le_refl _, by omega, fun i hi => by omega, .inl rfl⟩
      | succ n ih =>
        intro hn
        obtain ⟨u, h1, h2, h3, h4⟩ := ih (by omega)
        rcases h4 with rfl | h4
        · by_cases he : t + u = 8 * l.length
          · exact ⟨u, by omega, h2, h3, .inr (.inl he)⟩
          · have hb := bit_lt l (t + u)
            by_cases h0 : nextN l (t + u) 1 = 0
            · refine ⟨u + 1, by omega, by omega, fun i hi => ?_, .inl rfl⟩
              by_cases e : i = u
              · subst e; exact h0
              · exact h3 i (by omega)
            · exact ⟨u, by omega, h2, h3, .inr (.inr (by omega))⟩
        · exact ⟨u, by omega, h2, h3, .inr h4⟩
    exact go 24 (Nat.le_refl _)
  obtain ⟨u, h1, h2, h3, h4⟩ := hz
  by_cases h24 : u = 24
  · subst h24
    by_cases hend : t + 24 + wide ≤ 8 * l.length
    · by_cases hf : nextN l (t + 24) wide / 2 ^ k < 24
      · exact ⟨_, _, _, .inr (.inr (.inr ⟨rfl, rfl, rfl, .inr ⟨h3, hend, hf⟩⟩))⟩
      · exact ⟨_, _, _, .inr (.inl ⟨h3, hend, by omega, rfl, rfl, rfl⟩)⟩
    · exact ⟨_, _, _, .inr (.inr (.inl ⟨rfl, rfl, rfl, .inr (.inl ⟨h3, h2, by omega⟩)⟩))⟩
  · rcases h4 with h4 | h4 | h4
    · exact absurd h4 h24
    · exact ⟨_, _, _, .inr (.inr (.inl ⟨rfl, rfl, rfl, .inr (.inr ⟨by omega, fun i hi => h3 i (by omega)⟩)⟩))⟩
    · by_cases he : t + u = 8 * l.length
      · exact ⟨_, _, _, .inr (.inr (.inl ⟨rfl, rfl, rfl, .inr (.inr ⟨by omega, fun i hi => h3 i (by omega)⟩)⟩))⟩
      · by_cases hend : t + u + 1 + k ≤ 8 * l.length
        · by_cases hf : u * 2 ^ k + nextN l (t + u + 1) k < 2 ^ wide
          · exact ⟨_, _, _, .inl ⟨u, by omega, h3, h4, hend, hf, rfl, rfl, rfl⟩⟩
          · exact ⟨_, _, _, .inr (.inr (.inr ⟨rfl, rfl, rfl, .inl ⟨u, by omega, h3, h4, hend, by omega⟩⟩))⟩
        · exact ⟨_, _, _, .inr (.inr (.inl ⟨rfl, rfl, rfl, .inl ⟨u, by omega, h3, h4, by omega, by omega⟩⟩))⟩

theorem numRes_le {l : List Nat} {t k wide : Nat} {X E : Int} {t' : Nat} (h : NumRes l t k wide X E t') (ht : t ≤ 8 * l.length) : t' ≤ 8 * l.length := by
  rcases numRes_ok h with ⟨_, _, _, _, _, h, _⟩ | ⟨_, rfl⟩
  · exact h
  · exact ht

/-- Both sides' Get. -/
theorem gget_both (l : List Nat) (t : Nat) (k wide : Int) (ht : t ≤ 8 * l.length) (hl : l.length ≤ 10000000) : ∃ (Y E : Int) (t' : Nat), t' ≤ 8 * l.length ∧
    (∀ (B g : Nat) (w : World), ReaderAt w B g l t → Calls Tryd.prog 25 #[.pointer (some ⟨B, 0, none⟩), .int .i64 k, .int .i64 wide] w fun e w' => e = .returned (.tuple #[.int .i64 Y, .int .i64 E]) ∧ ReaderAt w' B g l t' ∧ Kept [B] w w') ∧
    (∀ (B : Nat) (V : Value) (w : World), RefR w B V l t → Calls Tryd.prog 40 #[.pointer (some ⟨B, 0, none⟩), .int .i64 k, .int .i64 wide] w fun e w' => e = .returned (.tuple #[.int .i64 Y, .int .i64 E]) ∧ RefR w' B V l t' ∧ Kept [B] w w') := by
  by_cases hk : Okp k wide
  · obtain ⟨Y, E, t', hr⟩ := numRes_ex l t k.toNat wide.toNat ht
    obtain ⟨k0, k1, w0, w1⟩ := hk
    refine ⟨Y, E, t', numRes_le hr ht, fun B g w h => (gget_any B g l t k wide w h k0 k1 w0 w1).mono ?_, fun B V w h => (getD_any B V l t _ k wide w h rfl ht (by omega) k0 k1 w0 w1).mono ?_⟩
    · rintro e w' ⟨Y2, E2, t2, rfl, h1, h2, h3⟩
      obtain ⟨rfl, rfl, rfl⟩ := numRes_one hr h3
      exact ⟨rfl, h1, h2⟩
    · rintro e w' ⟨Y2, E2, t2, rfl, h1, h2, h3⟩
      obtain ⟨rfl, rfl, rfl⟩ := numRes_one hr h3
      exact ⟨rfl, h1, h2⟩
  · refine ⟨0, 21, t, ht, fun B g w h => (gget_param B k wide w hk).mono ?_, fun B V w h => (getD_param B k wide w hk).mono ?_⟩
    · rintro e w' ⟨rfl, rfl⟩
      exact ⟨rfl, h, Kept.refl _ _⟩
    · rintro e w' ⟨rfl, rfl⟩
      exact ⟨rfl, h, Kept.refl _ _⟩
end Go.Proofs.YthhcihcgefeblaaDoor
