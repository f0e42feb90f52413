import Derived.Test.YthhegomjipbdbaaGreatDoorG7Z
namespace Go.Proofs.YthhegomjipbdbaaGreatDoor
open Go.RowKit

end Go.Proofs.YthhegomjipbdbaaGreatDoor

namespace Go.Proofs.YthhegomjipbdbaaGreatDoor
open Go.RowKit

theorem bit_res (l : List Nat) (t : Nat) : (t < 8 * l.length ∧ nextN l t 1 = 0) ∨ (t < 8 * l.length ∧ nextN l t 1 = 1) ∨ 8 * l.length ≤ t := by
  have := bit_lt l t
  omega

/-- The state within Get of a run, behind i stretches. -/
structure GetS (w wr : World) (X B g : Nat) (l : List Nat) (t r room i : Nat) : Prop where
  coder : CoderAt wr X (ri r i)
  reader : ReaderAt wr B g l (t + i)
  tab : Tab wr
  keep : Kept [X, B] w wr
  sum : S r i ≤ room
  ones : ∀ a, a < i → nextN l (t + a) 1 = 1

/-- What run comes to. -/
def RunPost (w : World) (X B g : Nat) (l : List Nat) (t r room : Nat) (e : Ending) (w' : World) : Prop :=
  ∃ (Y E : Int) (t' r' : Nat) (Y2 : Int) (t2 r2 : Nat), e = .returned (.tuple #[.int .i64 Y, .int .i64 E]) ∧ ReaderAt w' B g l t' ∧ CoderAt w' X r' ∧ Kept [X, B] w w' ∧
      RunRes l t r room Y2 E t2 r2 ∧ (E = 0 → Y2 = Y ∧ t2 = t' ∧ r2 = r')

end Go.Proofs.YthhegomjipbdbaaGreatDoor

namespace Go.Proofs.YthhegomjipbdbaaGreatDoor
open Go.RowKit

theorem runRes_err {l : List Nat} {t r room : Nat} {X E : Int} {t' r' : Nat} (h : RunRes l t r room X E t' r') (hE : E ≠ 0) : X = 0 ∧ t' = t ∧ r' = r := by
  obtain ⟨i, _, _, _, hc⟩ := h
  rcases hc with ⟨_, _, h, _⟩ | ⟨_, _, _, _, _, h, _⟩ | ⟨_, _, _, _, _, _, h, _⟩ | ⟨_, h1, h2, h3, _⟩ | ⟨_, _, h1, h2, h3, _⟩
  · exact absurd h hE
  · exact absurd h hE
  · exact absurd h hE
  · exact ⟨h1, h2, h3⟩
  · exact ⟨h1, h2, h3⟩

theorem two_new (w : World) (a b : Array Value) (s t : TypeId) : ((w.alloc (.cells a s)).alloc (.cells b t)).drew.heap[w.heap.size]? = some (.cells a s (0, 0)) ∧ ((w.alloc (.cells a s)).alloc (.cells b t)).drew.heap[w.heap.size + 1]? = some (.cells b t (0, 0)) := by
  refine ⟨?_, ?_⟩
  · show ((w.alloc (.cells a s)).alloc (.cells b t)).heap[w.heap.size]? = _
    rw [Below.heap_alloc _ _ _ (by simp), heap_alloc_new]
  · show ((w.alloc (.cells a s)).alloc (.cells b t)).heap[w.heap.size + 1]? = _
    have h := heap_alloc_new (w.alloc (.cells a s)) (.cells b t)
    simpa using h

/-- What Get of a run comes to. -/
def RGetPost (w : World) (X B g : Nat) (l : List Nat) (t r room : Nat) (e : Ending) (w' : World) : Prop :=
  ∃ (Y E : Int) (t' r' : Nat), e = .returned (.tuple #[.int .i64 Y, .int .i64 E]) ∧ ReaderAt w' B g l t' ∧ CoderAt w' X r' ∧ Kept [X, B] w w' ∧ RunRes l t r room Y E t' r'

end Go.Proofs.YthhegomjipbdbaaGreatDoor

namespace Go.Proofs.YthhegomjipbdbaaGreatDoor
open Go.RowKit

/-- The number that has been laid down behind the first forms. -/
def AN (v n : Nat → Nat) : Nat → Nat
  | 0 => 0
  | i + 1 => AN v n i * 2 ^ n i + v i
/-- How many bits these are. -/
def AL (n : Nat → Nat) : Nat → Nat
  | 0 => 0
  | i + 1 => AL n i + n i

theorem AL_mono (n : Nat → Nat) (i j : Nat) (h : i ≤ j) : AL n i ≤ AL n j := by
  induction j with
  | zero => have : i = 0 := by omega
            subst this; exact Nat.le_refl _
  | succ j ih =>
    by_cases e : i = j + 1
    · subst e; exact Nat.le_refl _
    · have := ih (by omega)
      simp only [AL]; omega

theorem AL_le (n : Nat → Nat) (c k : Nat) (hn : ∀ i, i < k → n i ≤ c) : AL n k ≤ c * k := by
  induction k with
  | zero => simp [AL]
  | succ k ih =>
    have h1 := hn k (by omega)
    have h2 := ih (fun i hi => hn i (by omega))
    simp only [AL, Nat.mul_add, Nat.mul_one]
    generalize c * k = q at *
    omega

theorem AN_lt (v n : Nat → Nat) (k : Nat) (h : ∀ i, i < k → v i < 2 ^ n i) : AN v n k < 2 ^ AL n k := by
  induction k with
  | zero => simp [AN, AL]
  | succ k ih =>
    have h1 := ih (fun i hi => h i (by omega))
    have h2 := h k (by omega)
    simp only [AN, AL, Nat.pow_add]
    have h3 : (AN v n k + 1) * 2 ^ n k ≤ 2 ^ AL n k * 2 ^ n k := Nat.mul_le_mul_right _ h1
    rw [Nat.add_mul] at h3
    omega

theorem AN_div (v n : Nat → Nat) (i j : Nat) (hij : i ≤ j) (h : ∀ k, k < j → v k < 2 ^ n k) : AN v n j / 2 ^ (AL n j - AL n i) = AN v n i := by
  induction j with
  | zero =>
    have : i = 0 := by omega
    subst this; simp [AN]
  | succ j ih =>
    by_cases e : i = j + 1
    · subst e; simp
    · have h1 := ih (by omega) (fun k hk => h k (by omega))
      have h2 := h j (by omega)
      have hm := AL_mono n i j (by omega)
      have e2 : AL n (j + 1) - AL n i = n j + (AL n j - AL n i) := by simp only [AL]; omega
      rw [e2, Nat.pow_add, ← Nat.div_div_eq_div_mul]
      simp only [AN]
      rw [Nat.add_comm, Nat.add_mul_div_right _ _ (Nat.two_pow_pos _), Nat.div_eq_of_lt h2, Nat.zero_add, h1]

theorem num_padded (X len : Nat) (hX : X < 2 ^ len) : num (big ((len + 7) / 8) (X * 2 ^ (8 * ((len + 7) / 8) - len))) = X * 2 ^ (8 * ((len + 7) / 8) - len) := by
  rw [num_big, pow256, Nat.mod_eq_of_lt]
  have h1 : X * 2 ^ (8 * ((len + 7) / 8) - len) < 2 ^ len * 2 ^ (8 * ((len + 7) / 8) - len) := Nat.mul_lt_mul_of_pos_right hX (Nat.two_pow_pos _)
  rw [← Nat.pow_add] at h1
  rwa [show len + (8 * ((len + 7) / 8) - len) = 8 * ((len + 7) / 8) by omega] at h1

theorem next_back (v n : Nat → Nat) (T i : Nat) (hi : i < T) (h : ∀ k, k < T → v k < 2 ^ n k) :
    nextN (big ((AL n T + 7) / 8) (AN v n T * 2 ^ (8 * ((AL n T + 7) / 8) - AL n T))) (AL n i) (n i) = v i := by
  have hA := AL_mono n (i + 1) T (by omega)
  have hA' : AL n i + n i ≤ AL n T := hA
  rw [nextN, big_length, num_padded _ _ (AN_lt v n T h)]
  have e1 : 8 * ((AL n T + 7) / 8) - (AL n i + n i) = (8 * ((AL n T + 7) / 8) - AL n T) + (AL n T - AL n (i + 1)) := by
    simp only [AL]; omega
  rw [e1, Nat.pow_add, ← Nat.div_div_eq_div_mul, Nat.mul_div_cancel _ (Nat.two_pow_pos _), AN_div v n (i + 1) T (by omega) h]
  simp only [AN]
  rw [Nat.mul_add_mod_self_right, Nat.mod_eq_of_lt (h i hi)]

theorem next_rest (X len : Nat) (hX : X < 2 ^ len) : nextN (big ((len + 7) / 8) (X * 2 ^ (8 * ((len + 7) / 8) - len))) len (8 * ((len + 7) / 8) - len) = 0 := by
  rw [nextN, big_length, num_padded _ _ hX]
  have e1 : 8 * ((len + 7) / 8) - (len + (8 * ((len + 7) / 8) - len)) = 0 := by omega
  rw [e1]
  simp

/-- The width, parameter and value of a raw number. -/
def wd (W : Int) : Int := 1 + pick W 16
def kk (K : Int) : Int := pick K 16
def vv (V W : Int) : Int := pick V ((2 ^ (wd W).toNat : Nat) : Int)

theorem wd_lo (W : Int) : 1 ≤ wd W := by have := pick_lo W 16 (by decide); unfold wd; omega
theorem wd_hi (W : Int) : wd W ≤ 16 := by have := pick_hi W 16 (by decide); unfold wd; omega
theorem kk_lo (K : Int) : 0 ≤ kk K := pick_lo K 16 (by decide)
theorem kk_hi (K : Int) : kk K ≤ 15 := by have := pick_hi K 16 (by decide); unfold kk; omega
theorem vv_lo (V W : Int) : 0 ≤ vv V W := pick_lo V _ (by have := Nat.two_pow_pos (wd W).toNat; omega)
theorem vv_hi (V W : Int) : (vv V W).toNat < 2 ^ (wd W).toNat := by
  have h := pick_hi V ((2 ^ (wd W).toNat : Nat) : Int) (by have := Nat.two_pow_pos (wd W).toNat; omega)
  have h0 := vv_lo V W
  unfold vv at *
  omega

end Go.Proofs.YthhegomjipbdbaaGreatDoor

namespace Go.Proofs.YthhegomjipbdbaaGreatDoor
open Go.RowKit

set_option maxHeartbeats 1000000 in
theorem fold_pos (e : Int) (w : World) (h0 : 0 ≤ e) (h1 : e ≤ 1073741823) :
    Calls Tryz.prog 152 #[.int .i64 e] w fun r w' => r = .returned (.tuple #[.int .i64 (2 * e), .int .i64 0]) ∧ w' = w := by
  have t1 : decide (e < -1073741824) = false := by simp; omega
  go_enter Tryz.func152, Tryz.ntmps152
  go_wp2
  go_ret2
  exact ⟨rfl, rfl⟩

set_option maxHeartbeats 1000000 in
theorem fold_neg (e : Int) (w : World) (h0 : -1073741824 ≤ e) (h1 : e < 0) :
    Calls Tryz.prog 152 #[.int .i64 e] w fun r w' => r = .returned (.tuple #[.int .i64 (-2 * e - 1), .int .i64 0]) ∧ w' = w := by
  have t1 : decide (e < -1073741824) = false := by simp; omega
  go_enter Tryz.func152, Tryz.ntmps152
  go_wp2
  go_ret2
  exact ⟨rfl, rfl⟩

theorem fold_to (e a : Int) (w : World) (h0 : -1073741824 ≤ e) (h1 : e ≤ 1073741823) (ha : (0 ≤ e ∧ a = 2 * e) ∨ (e < 0 ∧ a = -2 * e - 1)) :
    Calls Tryz.prog 152 #[.int .i64 e] w fun r w' => r = .returned (.tuple #[.int .i64 a, .int .i64 0]) ∧ w' = w := by
  rcases ha with ⟨h, rfl⟩ | ⟨h, rfl⟩
  · exact fold_pos e w h h1
  · exact fold_neg e w h0 h

end Go.Proofs.YthhegomjipbdbaaGreatDoor

namespace Go.Proofs.YthhegomjipbdbaaGreatDoor
open Go.RowKit

/-- What is read is one. -/
theorem numRes_one {l : List Nat} {t k wide : Nat} {X E X2 E2 : Int} {t' t2 : Nat} (h : NumRes l t k wide X E t') (h2 : NumRes l t k wide X2 E2 t2) : X = X2 ∧ E = E2 ∧ t' = t2 := by
  rcases numRes_ok h with ⟨rfl, v, rfl, hv, rfl, hle, hb⟩ | ⟨hE, rfl⟩
  · obtain ⟨rfl, rfl, rfl⟩ := numRes_form h2 hv hle hb
    exact ⟨rfl, rfl, rfl⟩
  · rcases numRes_ok h2 with ⟨rfl, v, rfl, hv, rfl, hle, hb⟩ | ⟨hE2, rfl⟩
    · obtain ⟨rfl, rfl, e3⟩ := numRes_form h hv hle hb
      rcases hE with h | h <;> cases h
    · obtain ⟨rfl, _⟩ := numRes_err h (by rcases hE with h | h <;> rw [h] <;> decide)
      obtain ⟨rfl, _⟩ := numRes_err h2 (by rcases hE2 with h | h <;> rw [h] <;> decide)
      refine ⟨rfl, ?_, rfl⟩
      rcases h with ⟨_, _, _, _, _, _, _, h, _⟩ | ⟨_, _, _, _, h, _⟩ | ⟨_, _, h, hc⟩ | ⟨_, _, h, hc⟩
      · rw [h] at hE; rcases hE with h | h <;> cases h
      · rw [h] at hE; rcases hE with h | h <;> cases h
      · rcases h2 with ⟨_, _, _, _, _, _, _, g, _⟩ | ⟨_, _, _, _, g, _⟩ | ⟨_, _, g, _⟩ | ⟨_, _, g, gc⟩
        · rw [g] at hE2; rcases hE2 with h | h <;> cases h
        · rw [g] at hE2; rcases hE2 with h | h <;> cases h
        · rw [h, g]
        · exfalso
          rcases hc with ⟨u, hu, z, o, h3, h4⟩ | ⟨z, h3, h4⟩ | ⟨h3, z⟩
          · rcases gc with ⟨u2, hu2, z2, o2, g3, _⟩ | ⟨z2, g3, _⟩
            · obtain rfl := first_one z o z2 o2; omega
            · have := z2 u hu; omega
          · rcases gc with ⟨u2, hu2, z2, o2, g3, _⟩ | ⟨z2, g3, _⟩
            · have := z u2 hu2; omega
            · omega
          · rcases gc with ⟨u2, hu2, z2, o2, g3, _⟩ | ⟨z2, g3, _⟩
            · have := z u2 (by omega); omega
            · omega
      · rcases h2 with ⟨_, _, _, _, _, _, _, g, _⟩ | ⟨_, _, _, _, g, _⟩ | ⟨_, _, g, gc⟩ | ⟨_, _, g, _⟩
        · rw [g] at hE2; rcases hE2 with h | h <;> cases h
        · rw [g] at hE2; rcases hE2 with h | h <;> cases h
        · exfalso
          rcases gc with ⟨u, hu, z, o, h3, h4⟩ | ⟨z, h3, h4⟩ | ⟨h3, z⟩
          · rcases hc with ⟨u2, hu2, z2, o2, g3, _⟩ | ⟨z2, g3, _⟩
            · obtain rfl := first_one z o z2 o2; omega
            · have := z2 u hu; omega
          · rcases hc with ⟨u2, hu2, z2, o2, g3, _⟩ | ⟨z2, g3, _⟩
            · have := z u2 hu2; omega
            · omega
          · rcases hc with ⟨u2, hu2, z2, o2, g3, _⟩ | ⟨z2, g3, _⟩
            · have := z u2 (by omega); omega
            · omega
        · rw [h, g]

/-- There is always something that Get comes to. -/
theorem numRes_ex (l : List Nat) (t k wide : Nat) (ht : t ≤ 8 * l.length) : ∃ X E t', NumRes l t k wide X E t' := by
  have hz : ∃ u, u ≤ 24 ∧ t + u ≤ 8 * l.length ∧ (∀ i, i < u → nextN l (t + i) 1 = 0) ∧ (u = 24 ∨ t + u = 8 * l.length ∨ nextN l (t + u) 1 = 1) := by
    have go : ∀ n, n ≤ 24 → ∃ u, u ≤ n ∧ t + u ≤ 8 * l.length ∧ (∀ i, i < u → nextN l (t + i) 1 = 0) ∧ (u = n ∨ t + u = 8 * l.length ∨ nextN l (t + u) 1 = 1) := by
      intro n
      induction n with
      | zero => intro _; exact ⟨0, Nat.le_refl _, by omega, fun i hi => by omega, .inl rfl⟩
      | succ n ih =>
        intro hn
        obtain ⟨u, h1, h2, h3, h4⟩ := ih (by omega)
        rcases h4 with rfl | h4
        · by_cases he : t + u = 8 * l.length
          · exact ⟨u, by omega, h2, h3, .inr (.inl he)⟩
          · have hb := bit_lt l (t + u)
            by_cases h0 : nextN l (t + u) 1 = 0
            · refine ⟨u + 1, by omega, by omega, fun i hi => ?_, .inl rfl⟩
              by_cases e : i = u
              · subst e; exact h0
              · exact h3 i (by omega)
            · exact ⟨u, by omega, h2, h3, .inr (.inr (by omega))⟩
        · exact ⟨u, by omega, h2, h3, .inr h4⟩
    exact go 24 (Nat.le_refl _)
  obtain ⟨u, h1, h2, h3, h4⟩ := hz
  by_cases h24 : u = 24
  · subst h24
    by_cases hend : t + 24 + wide ≤ 8 * l.length
    · by_cases hf : nextN l (t + 24) wide / 2 ^ k < 24
      · exact ⟨_, _, _, .inr (.inr (.inr ⟨rfl, rfl, rfl, .inr ⟨h3, hend, hf⟩⟩))⟩
      · exact ⟨_, _, _, .inr (.inl ⟨h3, hend, by omega, rfl, rfl, rfl⟩)⟩
    · exact ⟨_, _, _, .inr (.inr (.inl ⟨rfl, rfl, rfl, .inr (.inl ⟨h3, h2, by omega⟩)⟩))⟩
  · rcases h4 with h4 | h4 | h4
    · exact absurd h4 h24
    · exact ⟨_, _, _, .inr (.inr (.inl ⟨rfl, rfl, rfl, .inr (.inr ⟨by omega, fun i hi => h3 i (by omega)⟩)⟩))⟩
    · by_cases he : t + u = 8 * l.length
      · exact ⟨_, _, _, .inr (.inr (.inl ⟨rfl, rfl, rfl, .inr (.inr ⟨by omega, fun i hi => h3 i (by omega)⟩)⟩))⟩
      · by_cases hend : t + u + 1 + k ≤ 8 * l.length
        · by_cases hf : u * 2 ^ k + nextN l (t + u + 1) k < 2 ^ wide
          · exact ⟨_, _, _, .inl ⟨u, by omega, h3, h4, hend, hf, rfl, rfl, rfl⟩⟩
          · exact ⟨_, _, _, .inr (.inr (.inr ⟨rfl, rfl, rfl, .inl ⟨u, by omega, h3, h4, hend, by omega⟩⟩))⟩
        · exact ⟨_, _, _, .inr (.inr (.inl ⟨rfl, rfl, rfl, .inl ⟨u, by omega, h3, h4, by omega, by omega⟩⟩))⟩

/-- What is read of a run is one. -/
theorem runRes_one {l : List Nat} {t r room : Nat} {X E X2 E2 : Int} {t' t2 r' r2 : Nat} (h : RunRes l t r room X E t' r') (h2 : RunRes l t r room X2 E2 t2 r2) : X = X2 ∧ E = E2 ∧ t' = t2 ∧ r' = r2 := by
  rcases runRes_ok h with ⟨rfl, n, rfl, hn, rfl, hle, rfl, hb⟩ | ⟨hE, rfl, rfl⟩
  · obtain ⟨rfl, rfl, rfl, rfl⟩ := runRes_form h2 hn hle hb
    exact ⟨rfl, rfl, rfl, rfl⟩
  · rcases runRes_ok h2 with ⟨rfl, n, rfl, hn, rfl, hle, rfl, hb⟩ | ⟨hE2, rfl, rfl⟩
    · obtain ⟨rfl, rfl, e3, e4⟩ := runRes_form h hn hle hb
      rcases hE with h | h <;> cases h
    · obtain ⟨rfl, _⟩ := runRes_err h (by rcases hE with h | h <;> rw [h] <;> decide)
      obtain ⟨rfl, _⟩ := runRes_err h2 (by rcases hE2 with h | h <;> rw [h] <;> decide)
      refine ⟨rfl, ?_, rfl, rfl⟩
      obtain ⟨i, ho, hS, hti, hc⟩ := h
      obtain ⟨j, go, gS, gti, gc⟩ := h2
      rcases hE with rfl | rfl
      · rcases hE2 with rfl | rfl
        · rfl
        · exfalso
          rcases hc with ⟨_, _, h, _⟩ | ⟨_, _, _, _, _, h, _⟩ | ⟨_, _, _, _, _, _, h, _⟩ | ⟨_, _, _, _, _, hc⟩ | ⟨_, _, _, _, _, h, _⟩
          · cases h
          · cases h
          · cases h
          · rcases gc with ⟨_, _, h, _⟩ | ⟨_, _, _, _, _, h, _⟩ | ⟨_, _, _, _, _, _, h, _⟩ | ⟨_, _, _, _, h, _⟩ | ⟨_, g1, _, _, _, _, g2, g3, g4⟩
            · cases h
            · cases h
            · cases h
            · cases h
            · rcases hc with hc | ⟨h1, h2, h3⟩
              · rcases Nat.lt_trichotomy i j with e | e | e
                · omega
                · omega
                · have := ho j e; omega
              · rcases Nat.lt_trichotomy i j with e | e | e
                · have := go i e; omega
                · subst e; omega
                · have := ho j e; omega
          · cases h
      · rcases hE2 with rfl | rfl
        · exfalso
          rcases gc with ⟨_, _, h, _⟩ | ⟨_, _, _, _, _, h, _⟩ | ⟨_, _, _, _, _, _, h, _⟩ | ⟨_, _, _, _, _, gc⟩ | ⟨_, _, _, _, _, h, _⟩
          · cases h
          · cases h
          · cases h
          · rcases hc with ⟨_, _, h, _⟩ | ⟨_, _, _, _, _, h, _⟩ | ⟨_, _, _, _, _, _, h, _⟩ | ⟨_, _, _, _, h, _⟩ | ⟨_, g1, _, _, _, _, g2, g3, g4⟩
            · cases h
            · cases h
            · cases h
            · cases h
            · rcases gc with gc | ⟨h1, h2, h3⟩
              · rcases Nat.lt_trichotomy i j with e | e | e
                · have := go i e; omega
                · omega
                · omega
              · rcases Nat.lt_trichotomy i j with e | e | e
                · have := go i e; omega
                · subst e; omega
                · have := ho j e; omega
          · cases h
        · rfl

/-- There is always something that Get of a run comes to. -/
theorem runRes_ex (l : List Nat) (t r room : Nat) (ht : t ≤ 8 * l.length) : ∃ X E t' r', RunRes l t r room X E t' r' := by
  have go : ∀ n, ∃ i, i ≤ n ∧ (∀ a, a < i → nextN l (t + a) 1 = 1) ∧ S r i ≤ room ∧ t + i ≤ 8 * l.length ∧ (i = n ∨ S r i = room ∨ t + i = 8 * l.length ∨ nextN l (t + i) 1 = 0 ∨ room < S r (i + 1)) := by
    intro n
    induction n with
    | zero => exact ⟨0, Nat.le_refl _, fun a ha => by omega, Nat.zero_le _, by omega, .inl rfl⟩
    | succ n ih =>
      obtain ⟨i, h1, h2, h3, h4, h5⟩ := ih
      rcases h5 with rfl | h5
      · by_cases e1 : S r i = room
        · exact ⟨i, by omega, h2, h3, h4, .inr (.inl e1)⟩
        · by_cases e2 : t + i = 8 * l.length
          · exact ⟨i, by omega, h2, h3, h4, .inr (.inr (.inl e2))⟩
          · have hb := bit_lt l (t + i)
            by_cases e3 : nextN l (t + i) 1 = 0
            · exact ⟨i, by omega, h2, h3, h4, .inr (.inr (.inr (.inl e3)))⟩
            · by_cases e4 : room < S r (i + 1)
              · exact ⟨i, by omega, h2, h3, h4, .inr (.inr (.inr (.inr e4)))⟩
              · refine ⟨i + 1, Nat.le_refl _, fun a ha => ?_, by omega, by omega, .inl rfl⟩
                by_cases e : a = i
                · subst e; omega
                · exact h2 a (by omega)
      · exact ⟨i, by omega, h2, h3, h4, .inr h5⟩
  obtain ⟨i, _, h2, h3, h4, h5⟩ := go (room + 1)
  by_cases e1 : S r i = room
  · exact ⟨_, _, _, _, i, h2, h3, h4, .inl ⟨e1, rfl, rfl, rfl, rfl⟩⟩
  · have e1' : S r i < room := by omega
    by_cases e2 : t + i = 8 * l.length
    · exact ⟨_, _, _, _, i, h2, h3, h4, .inr (.inr (.inr (.inl ⟨e1', rfl, rfl, rfl, rfl, .inl e2⟩)))⟩
    · have hb := bit_lt l (t + i)
      by_cases e3 : nextN l (t + i) 1 = 0
      · by_cases e5 : t + i + 1 + J (ri r i) ≤ 8 * l.length
        · by_cases e6 : S r i + nextN l (t + i + 1) (J (ri r i)) < room
          · exact ⟨_, _, _, _, i, h2, h3, h4, .inr (.inr (.inl ⟨e1', by omega, e3, e5, e6, rfl, rfl, rfl, rfl⟩))⟩
          · exact ⟨_, _, _, _, i, h2, h3, h4, .inr (.inr (.inr (.inr ⟨e1', by omega, rfl, rfl, rfl, rfl, e3, e5, by omega⟩)))⟩
        · exact ⟨_, _, _, _, i, h2, h3, h4, .inr (.inr (.inr (.inl ⟨e1', rfl, rfl, rfl, rfl, .inr ⟨by omega, e3, by omega⟩⟩)))⟩
      · have e3' : nextN l (t + i) 1 = 1 := by omega
        have e4 : room < S r (i + 1) := by
          rcases h5 with h5 | h5 | h5 | h5 | h5
          · have := S_ge r i; omega
          · exact absurd h5 e1
          · exact absurd h5 e2
          · exact absurd h5 e3
          · exact h5
        exact ⟨_, _, _, _, i, h2, h3, h4, .inr (.inl ⟨e1', by omega, e3', e4, rfl, rfl, rfl, rfl⟩)⟩
end Go.Proofs.YthhegomjipbdbaaGreatDoor
