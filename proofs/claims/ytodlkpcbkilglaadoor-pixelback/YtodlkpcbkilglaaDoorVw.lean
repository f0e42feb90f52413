import Derived.Test.YtodlkpcbkilglaaDoorWh
namespace Go.Proofs.YtodlkpcbkilglaaDoor
open Go.RowKit Go.Shelf

/-- The sample that stands at place s in a row of v210 (0, where there is none). -/
def v2S (f : Nat → Nat → Nat) (l : Nat → Nat) (s : Nat) : Nat :=
  if s / 12 * gE (s % 12) + gN (s % 12) < l (gP (s % 12)) then f (gP (s % 12)) (s / 12 * gE (s % 12) + gN (s % 12)) else 0
/-- A word of such a row. -/
def v2W (f : Nat → Nat → Nat) (l : Nat → Nat) (n : Nat) : Nat := v2S f l (3 * n) + 1024 * v2S f l (3 * n + 1) + 1048576 * v2S f l (3 * n + 2)
/-- Its bytes. -/
def v2B (f : Nat → Nat → Nat) (l : Nat → Nat) (t : Nat) : Nat := v2W f l (t / 4) / 256 ^ (t % 4) % 256
theorem v2S_lt {f : Nat → Nat → Nat} {l : Nat → Nat} (hf : ∀ p x, p < 3 → x < l p → f p x < 1024) (s : Nat) : v2S f l s < 1024 := by
  unfold v2S
  split
  · rename_i h
    exact hf _ _ (by unfold gP; split <;> (try split) <;> omega) h
  · decide
theorem v2W_lt {f : Nat → Nat → Nat} {l : Nat → Nat} (hf : ∀ p x, p < 3 → x < l p → f p x < 1024) (n : Nat) : v2W f l n < 1073741824 := by
  have h0 := v2S_lt hf (3 * n)
  have h1 := v2S_lt hf (3 * n + 1)
  have h2 := v2S_lt hf (3 * n + 2)
  unfold v2W
  omega
/-- The words behind j rounds, the last one first, as one number. -/
def wkN (W : Nat → Nat) (N : Nat) : Nat → Nat
  | 0 => 0
  | j + 1 => wkN W N j * 4294967296 + W (N - 1 - j)
theorem wkN_div (W : Nat → Nat) (hW : ∀ i, W i < 4294967296) (n : Nat) : ∀ (j k : Nat), j ≤ k → wkN W n k / 4294967296 ^ j = wkN W n (k - j) := by
  intro j
  induction j with
  | zero => intro k _; simp
  | succ j ih =>
    intro k hk
    obtain ⟨k, rfl⟩ : ∃ m, k = m + 1 := ⟨k - 1, by omega⟩
    rw [Nat.pow_succ', ← Nat.div_div_eq_div_mul, show wkN W n (k + 1) / 4294967296 = wkN W n k by rw [wkN]; have := hW (n - 1 - k); omega, ih k (by omega), show k + 1 - (j + 1) = k - j by omega]
/-- A word's bytes, the lowest one first. -/
theorem wkN_byte (W : Nat → Nat) (hW : ∀ i, W i < 4294967296) (n t : Nat) (ht : t < 4 * n) : wkN W n n / 256 ^ t % 256 = W (t / 4) / 256 ^ (t % 4) % 256 := by
  have h1 : 256 ^ t = 4294967296 ^ (t / 4) * 256 ^ (t % 4) := by
    rw [show 4294967296 = 256 ^ 4 from rfl, ← Nat.pow_mul, ← Nat.pow_add]
    congr 1
    omega
  rw [h1, ← Nat.div_div_eq_div_mul, wkN_div W hW n _ n (by omega)]
  obtain ⟨m, hm⟩ : ∃ m, n - t / 4 = m + 1 := ⟨n - t / 4 - 1, by omega⟩
  rw [hm, wkN, show n - 1 - m = t / 4 by omega]
  have hx := hW (t / 4)
  obtain ⟨x, ex⟩ : ∃ x, x = W (t / 4) := ⟨_, rfl⟩
  rw [← ex] at hx ⊢
  rcases (by omega : t % 4 = 0 ∨ t % 4 = 1 ∨ t % 4 = 2 ∨ t % 4 = 3) with h | h | h | h <;> rw [h] <;> omega
/-- An or of what has no bit in common. -/
theorem or_add (a b k : Nat) (ha : a < 2 ^ k) : a ||| (b * 2 ^ k) = a + b * 2 ^ k := by
  rw [Nat.mul_comm b, Nat.or_comm, ← Nat.two_pow_add_eq_or_of_lt ha, Nat.add_comm]
end Go.Proofs.YtodlkpcbkilglaaDoor
