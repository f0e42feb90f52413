import Derived.Test.YtahoeodpjdbdkaaDoorGaZ
namespace Go.Proofs.YtahoeodpjdbdkaaDoor
open Go.RowKit

/-- The number that has been laid down behind the first forms. -/
def AN (v n : Nat → Nat) : Nat → Nat
  | 0 => 0
  | i + 1 => AN v n i * 2 ^ n i + v i
/-- How many bits these are. -/
def AL (n : Nat → Nat) : Nat → Nat
  | 0 => 0
  | i + 1 => AL n i + n i

theorem AL_mono (n : Nat → Nat) (i j : Nat) (h : i ≤ j) : AL n i ≤ AL n j := by
  induction j with
  | zero => have : i = 0 := by omega
            subst this; exact Nat.le_refl _
  | succ j ih =>
    by_cases e : i = j + 1
    · subst e; exact Nat.le_refl _
    · have := ih (by omega)
      simp only [AL]; omega

theorem AL_le (n : Nat → Nat) (c k : Nat) (hn : ∀ i, i < k → n i ≤ c) : AL n k ≤ c * k := by
  induction k with
  | zero => simp [AL]
  | succ k ih =>
    have h1 := hn k (by omega)
    have h2 := ih (fun i hi => hn i (by omega))
    simp only [AL, Nat.mul_add, Nat.mul_one]
    generalize c * k = q at *
    omega

theorem AN_lt (v n : Nat → Nat) (k : Nat) (h : ∀ i, i < k → v i < 2 ^ n i) : AN v n k < 2 ^ AL n k := by
  induction k with
  | zero => simp [AN, AL]
  | succ k ih =>
    have h1 := ih (fun i hi => h i (by omega))
    have h2 := h k (by omega)
    simp only [AN, AL, Nat.pow_add]
    have h3 : (AN v n k + 1) * 2 ^ n k ≤ 2 ^ AL n k * 2 ^ n k := Nat.mul_le_mul_right _ h1
    rw [Nat.add_mul] at h3
    omega

theorem AN_div (v n : Nat → Nat) (i j : Nat) (hij : i ≤ j) (h : ∀ k, k < j → v k < 2 ^ n k) : AN v n j / 2 ^ (AL n j - AL n i) = AN v n i := by
  induction j with
  | zero =>
    have : i = 0 := by omega
    subst this; simp [AN]
  | succ j ih =>
    by_cases e : i = j + 1
    · subst e; simp
    · have h1 := ih (by omega) (fun k hk => h k (by omega))
      have h2 := h j (by omega)
      have hm := AL_mono n i j (by omega)
      have e2 : AL n (j + 1) - AL n i = n j + (AL n j - AL n i) := by simp only [AL]; omega
      rw [e2, Nat.pow_add, ← Nat.div_div_eq_div_mul]
      simp only [AN]
      rw [Nat.add_comm, Nat.add_mul_div_right _ _ (Nat.two_pow_pos _), Nat.div_eq_of_lt h2, Nat.zero_add, h1]

theorem num_padded (X len : Nat) (hX : X < 2 ^ len) : num (big ((len + 7) / 8) (X * 2 ^ (8 * ((len + 7) / 8) - len))) = X * 2 ^ (8 * ((len + 7) / 8) - len) := by
  rw [num_big, pow256, Nat.mod_eq_of_lt]
  have h1 : X * 2 ^ (8 * ((len + 7) / 8) - len) < 2 ^ len * 2 ^ (8 * ((len + 7) / 8) - len) := Nat.mul_lt_mul_of_pos_right hX (Nat.two_pow_pos _)
  rw [← Nat.pow_add] at h1
  rwa [show len + (8 * ((len + 7) / 8) - len) = 8 * ((len + 7) / 8) by omega] at h1

theorem next_back (v n : Nat → Nat) (T i : Nat) (hi : i < T) (h : ∀ k, k < T → v k < 2 ^ n k) :
    nextN (big ((AL n T + 7) / 8) (AN v n T * 2 ^ (8 * ((AL n T + 7) / 8) - AL n T))) (AL n i) (n i) = v i := by
  have hA := AL_mono n (i + 1) T (by omega)
  have hA' : AL n i + n i ≤ AL n T := hA
  rw [nextN, big_length, num_padded _ _ (AN_lt v n T h)]
  have e1 : 8 * ((AL n T + 7) / 8) - (AL n i + n i) = (8 * ((AL n T + 7) / 8) - AL n T) + (AL n T - AL n (i + 1)) := by
    simp only [AL]; omega
  rw [e1, Nat.pow_add, ← Nat.div_div_eq_div_mul, Nat.mul_div_cancel _ (Nat.two_pow_pos _), AN_div v n (i + 1) T (by omega) h]
  simp only [AN]
  rw [Nat.mul_add_mod_self_right, Nat.mod_eq_of_lt (h i hi)]

theorem next_rest (X len : Nat) (hX : X < 2 ^ len) : nextN (big ((len + 7) / 8) (X * 2 ^ (8 * ((len + 7) / 8) - len))) len (8 * ((len + 7) / 8) - len) = 0 := by
  rw [nextN, big_length, num_padded _ _ hX]
  have e1 : 8 * ((len + 7) / 8) - (len + (8 * ((len + 7) / 8) - len)) = 0 := by omega
  rw [e1]
  simp

/-- The width, parameter and value of a raw number. -/
def wd (W : Int) : Int := 1 + pick W 16
def kk (K : Int) : Int := pick K 16
def vv (V W : Int) : Int := pick V ((2 ^ (wd W).toNat : Nat) : Int)

theorem wd_lo (W : Int) : 1 ≤ wd W := by have := pick_lo W 16 (by decide); unfold wd; omega
theorem wd_hi (W : Int) : wd W ≤ 16 := by have := pick_hi W 16 (by decide); unfold wd; omega
theorem kk_lo (K : Int) : 0 ≤ kk K := pick_lo K 16 (by decide)
theorem kk_hi (K : Int) : kk K ≤ 15 := by have := pick_hi K 16 (by decide); unfold kk; omega
theorem vv_lo (V W : Int) : 0 ≤ vv V W := pick_lo V _ (by have := Nat.two_pow_pos (wd W).toNat; omega)
theorem vv_hi (V W : Int) : (vv V W).toNat < 2 ^ (wd W).toNat := by
  have h := pick_hi V ((2 ^ (wd W).toNat : Nat) : Int) (by have := Nat.two_pow_pos (wd W).toNat; omega)
  have h0 := vv_lo V W
  unfold vv at *
  omega

end Go.Proofs.YtahoeodpjdbdkaaDoor
