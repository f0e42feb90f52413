import Derived.Test.YtmgfapooanpgfaaN2
namespace Go.Proofs.Ytmgfapooanpgfaa
open Go Go.RowKit

/-- A polynomial of degree below k, by Horner. -/
def Po : Nat → (Nat → Nat) → Prop
  | 0, f => ∀ x, x < 256 → f x = 0
  | k + 1, f => ∃ c g, c < 256 ∧ Po k g ∧ ∀ x, x < 256 → f x = c ^^^ mu x (g x)

theorem Po.congr {k : Nat} {f g : Nat → Nat} (h : Po k f) (e : ∀ x, x < 256 → g x = f x) : Po k g := by
  cases k with
  | zero => exact fun x hx => (e x hx).trans (h x hx)
  | succ k =>
    obtain ⟨c, p, hc, hp, hf⟩ := h
    exact ⟨c, p, hc, hp, fun x hx => (e x hx).trans (hf x hx)⟩
theorem Po.zero (k : Nat) : Po k (fun _ => 0) := by
  induction k with
  | zero => exact fun _ _ => rfl
  | succ k ih => exact ⟨0, fun _ => 0, by decide, ih, fun x _ => by rw [mu_zero]; rfl⟩
theorem Po.up {k : Nat} {f : Nat → Nat} (h : Po k f) : Po (k + 1) f := by
  induction k generalizing f with
  | zero => exact ⟨0, fun _ => 0, by decide, fun _ _ => rfl, fun x hx => by rw [h x hx, mu_zero]; rfl⟩
  | succ k ih =>
    obtain ⟨c, p, hc, hp, hf⟩ := h
    exact ⟨c, p, hc, ih hp, hf⟩
theorem Po.xor {k : Nat} {f g : Nat → Nat} (h : Po k f) (h2 : Po k g) : Po k (fun x => f x ^^^ g x) := by
  induction k generalizing f g with
  | zero => exact fun x hx => by simp only [h x hx, h2 x hx]; rfl
  | succ k ih =>
    obtain ⟨c, p, hc, hp, hf⟩ := h
    obtain ⟨d, q, hd, hq, hg⟩ := h2
    refine ⟨c ^^^ d, _, xor_lt hc hd, ih hp hq, fun x hx => ?_⟩
    simp only
    rw [hf x hx, hg x hx, mu_xor, xor_4]
theorem Po.mul {k : Nat} {f : Nat → Nat} (s : Nat) (h : Po k f) : Po k (fun x => mu s (f x)) := by
  induction k generalizing f with
  | zero => exact fun x hx => by simp only [h x hx, mu_zero]
  | succ k ih =>
    obtain ⟨c, p, hc, hp, hf⟩ := h
    refine ⟨mu s c, _, mu_lt _ _, ih hp, fun x hx => ?_⟩
    simp only
    rw [hf x hx, mu_xor, mu_left]
/-- Times x, times x + y. -/
theorem Po.shift {k : Nat} {f : Nat → Nat} (h : Po k f) : Po (k + 1) (fun x => mu x (f x)) :=
  ⟨0, f, by decide, h, fun x _ => by rw [Nat.zero_xor]⟩
theorem Po.root {k : Nat} {f : Nat → Nat} (y : Nat) (h : Po k f) : Po (k + 1) (fun x => mu (x ^^^ y) (f x)) :=
  (h.shift.xor (h.up.mul y)).congr (fun x _ => by simp only [xor_mu])
theorem Po.one : Po 1 (fun _ => 1) := ⟨1, fun _ => 0, by decide, fun _ _ => rfl, fun x _ => by rw [mu_zero]; rfl⟩
theorem Po.lt {k : Nat} {f : Nat → Nat} (h : Po k f) (x : Nat) (hx : x < 256) : f x < 256 := by
  cases k with
  | zero => rw [h x hx]; decide
  | succ k =>
    obtain ⟨c, p, hc, hp, hf⟩ := h
    rw [hf x hx]; exact xor_lt hc (mu_lt _ _)

/-- Divided by x + a. -/
theorem Po.div {k : Nat} {f : Nat → Nat} (h : Po (k + 1) f) (a : Nat) (ha : a < 256) : ∃ g, Po k g ∧ ∀ x, x < 256 → f x = f a ^^^ mu (x ^^^ a) (g x) := by
  induction k generalizing f with
  | zero =>
    obtain ⟨c, p, hc, hp, hf⟩ := h
    refine ⟨fun _ => 0, fun _ _ => rfl, fun x hx => ?_⟩
    rw [hf x hx, hf a ha, hp x hx, hp a ha, mu_zero, mu_zero, mu_zero, Nat.xor_zero, Nat.xor_zero]
  | succ k ih =>
    obtain ⟨c, p, hc, hp, hf⟩ := h
    obtain ⟨g, hg, he⟩ := ih hp
    refine ⟨fun x => p a ^^^ mu x (g x), ⟨p a, g, hp.lt a ha, hg, fun _ _ => rfl⟩, fun x hx => ?_⟩
    rw [hf x hx, hf a ha, he x hx, mu_xor x, mu_xor (x ^^^ a), Nat.xor_assoc, xor_mu x a (p a), mu_left x (x ^^^ a) (g x)]
    congr 1
    rw [← Nat.xor_assoc, ← Nat.xor_assoc, Nat.xor_comm (mu a (p a)), Nat.xor_assoc (mu x (p a)), Nat.xor_self, Nat.xor_zero]

/-- With as many roots as that it is nothing. -/
theorem Po.none {k : Nat} {f : Nat → Nat} (h : Po k f) (a : Nat → Nat) (hl : ∀ i, i < k → a i < 256) (hi : ∀ i j, i < k → j < k → a i = a j → i = j) (hr : ∀ i, i < k → f (a i) = 0) : ∀ x, x < 256 → f x = 0 := by
  induction k generalizing f with
  | zero => exact h
  | succ k ih =>
    obtain ⟨g, hg, he⟩ := h.div (a k) (hl k (by omega))
    have h0 := hr k (by omega)
    have hz : ∀ i, i < k → g (a i) = 0 := by
      intro i hik
      have h1 := he (a i) (hl i (by omega))
      rw [hr i (by omega), h0, Nat.zero_xor] at h1
      rcases mu_none (xor_lt (hl i (by omega)) (hl k (by omega))) (hg.lt _ (hl i (by omega))) h1.symm with h2 | h2
      · exfalso
        have : a i = a k := by
          have := congrArg (· ^^^ a k) h2
          simpa [Nat.xor_assoc] using this
        have := hi i k (by omega) (by omega) this
        omega
      · exact h2
    have hg0 := ih hg (fun i h => hl i (by omega)) (fun i j h1 h2 => hi i j (by omega) (by omega)) hz
    intro x hx
    rw [he x hx, h0, hg0 x hx, mu_zero]; rfl

/-- Partial fractions' numerator and denominator. -/
def Dn (y : Nat → Nat) : Nat → Nat → Nat
  | 0, _ => 1
  | m + 1, x => mu (x ^^^ y m) (Dn y m x)
def Nm (y c : Nat → Nat) : Nat → Nat → Nat
  | 0, _ => 0
  | m + 1, x => mu (x ^^^ y m) (Nm y c m x) ^^^ mu (c m) (Dn y m x)

theorem Dn_po (y : Nat → Nat) (m : Nat) : Po (m + 1) (Dn y m) := by
  induction m with
  | zero => exact Po.one
  | succ m ih => exact ih.root (y m)
theorem Nm_po (y c : Nat → Nat) (m : Nat) : Po m (Nm y c m) := by
  induction m with
  | zero => exact fun _ _ => rfl
  | succ m ih => exact (ih.root (y m)).xor ((Dn_po y m).mul (c m))
theorem Dn_lt (y : Nat → Nat) (m x : Nat) (hx : x < 256) : Dn y m x < 256 := (Dn_po y m).lt x hx
theorem xor_ne {a b : Nat} (h : a ≠ b) : a ^^^ b ≠ 0 := by
  intro e
  apply h
  have := congrArg (· ^^^ b) e
  simpa [Nat.xor_assoc] using this
theorem Dn_ne (y : Nat → Nat) (m x : Nat) (hx : x < 256) (hy : ∀ j, j < m → y j < 256) (h : ∀ j, j < m → x ≠ y j) : Dn y m x ≠ 0 := by
  induction m with
  | zero => show (1 : Nat) ≠ 0; decide
  | succ m ih =>
    intro e
    rcases mu_none (xor_lt hx (hy m (by omega))) (Dn_lt y m x hx) e with h1 | h1
    · exact xor_ne (h m (by omega)) h1
    · exact ih (fun j hj => hy j (by omega)) (fun j hj => h j (by omega)) h1
/-- The numerator is the denominator times the sum of fractions. -/
theorem Nm_sum (y c : Nat → Nat) (m x : Nat) (hx : x < 256) (hy : ∀ j, j < m → y j < 256) (h : ∀ j, j < m → x ≠ y j) (hc : ∀ j, j < m → c j < 256) :
    Nm y c m x = mu (Dn y m x) (sm (fun j => mu (iv (x ^^^ y j)) (c j)) m) := by
  induction m with
  | zero => rw [sm, mu_zero]; rfl
  | succ m ih =>
    have e : mu (mu (x ^^^ y m) (Dn y m x)) (mu (iv (x ^^^ y m)) (c m)) = mu (c m) (Dn y m x) := by
      rw [mu_assoc, mu_left (Dn y m x), ← mu_assoc, mu_iv (xor_ne (h m (by omega))) (xor_lt hx (hy m (by omega))), one_mu (mu_lt _ _), mu_comm]
    rw [Nm, Dn, sm, ih (fun j hj => hy j (by omega)) (fun j hj => h j (by omega)) (fun j hj => hc j (by omega)), mu_xor, e, mu_assoc]

/-- A part of Cauchy's matrix takes nothing but noughts to noughts. -/
theorem cauchy_ker (k : Nat) (a y c : Nat → Nat) (ha : ∀ i, i < k → a i < 256) (hy : ∀ j, j < k → y j < 256) (hc : ∀ j, j < k → c j < 256) (ia : ∀ i j, i < k → j < k → a i = a j → i = j) (iy : ∀ i j, i < k → j < k → y i = y j → i = j) (hay : ∀ i j, i < k → j < k → a i ≠ y j)
    (h : ∀ i, i < k → sm (fun j => mu (iv (a i ^^^ y j)) (c j)) k = 0) : ∀ j, j < k → c j = 0 := by
  induction k with
  | zero => intro j hj; omega
  | succ k ih =>
    have hz := (Nm_po y c (k + 1)).none a ha ia (fun i hi => by
      rw [Nm_sum y c (k + 1) (a i) (ha i hi) hy (fun j hj => hay i j hi hj) hc, h i hi, mu_zero])
    have hk : c k = 0 := by
      have h1 := hz (y k) (hy k (by omega))
      rw [Nm, Nat.xor_self, zero_mu, Nat.zero_xor] at h1
      rcases mu_none (hc k (by omega)) (Dn_lt y k _ (hy k (by omega))) h1 with h2 | h2
      · exact h2
      · exact absurd h2 (Dn_ne y k (y k) (hy k (by omega)) (fun j hj => hy j (by omega)) (fun j hj e => by have := iy k j (by omega) (by omega) e; omega))
    have hlow := ih (fun i hi => ha i (by omega)) (fun j hj => hy j (by omega)) (fun j hj => hc j (by omega)) (fun i j h1 h2 => ia i j (by omega) (by omega)) (fun i j h1 h2 => iy i j (by omega) (by omega)) (fun i j h1 h2 => hay i j (by omega) (by omega)) (fun i hi => by
      have h1 := h i (by omega)
      rw [sm, hk, mu_zero, Nat.xor_zero] at h1
      exact h1)
    intro j hj
    by_cases e : j = k
    · subst e; exact hk
    · exact hlow j (by omega)
end Go.Proofs.Ytmgfapooanpgfaa
