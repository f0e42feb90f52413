import Derived.Test.YtodlkpcbkilglaaDoorRq
import Derived.Test.YtodlkpcbkilglaaDoorPp
namespace Go.Proofs.YtodlkpcbkilglaaDoor
open Go.RowKit Go.Shelf

theorem wdB_v2B (f : Nat → Nat → Nat) (l : Nat → Nat) (hf : ∀ p x, p < 3 → x < l p → f p x < 1024) (n : Nat) : wdB (v2B f l) n = v2W f l n := by
  have h := v2W_lt hf n
  unfold wdB v2B
  rw [show 4 * n / 4 = n by omega, show 4 * n % 4 = 0 by omega, show (4 * n + 1) / 4 = n by omega, show (4 * n + 1) % 4 = 1 by omega, show (4 * n + 2) / 4 = n by omega, show (4 * n + 2) % 4 = 2 by omega, show (4 * n + 3) / 4 = n by omega, show (4 * n + 3) % 4 = 3 by omega]
  omega
theorem fld_v2W (f : Nat → Nat → Nat) (l : Nat → Nat) (hf : ∀ p x, p < 3 → x < l p → f p x < 1024) (n k : Nat) (hk : k < 3) : fld (v2W f l n) k = v2S f l (3 * n + k) := by
  have h0 := v2S_lt hf (3 * n)
  have h1 := v2S_lt hf (3 * n + 1)
  have h2 := v2S_lt hf (3 * n + 2)
  unfold fld v2W
  rcases (by omega : k = 0 ∨ k = 1 ∨ k = 2) with rfl | rfl | rfl
  · show (v2S f l (3 * n) + 1024 * v2S f l (3 * n + 1) + 1048576 * v2S f l (3 * n + 2)) / 1 % 1024 = v2S f l (3 * n)
    rw [Nat.div_one]; omega
  · rw [show 2 ^ (10 * 1) = 1024 from rfl]; omega
  · rw [show 2 ^ (10 * 2) = 1048576 from rfl]; omega
theorem vT_v2B (f : Nat → Nat → Nat) (l : Nat → Nat) (hf : ∀ p x, p < 3 → x < l p → f p x < 1024) (n : Nat) : vT (v2B f l) l n 3 = wdB (v2B f l) n := by
  have hs : ∀ k, k < 3 → (if (3 * n + k) / 12 * gE ((3 * n + k) % 12) + gN ((3 * n + k) % 12) < l (gP ((3 * n + k) % 12)) then fld (wdB (v2B f l) n) k * 2 ^ (10 * k) else 0) = v2S f l (3 * n + k) * 2 ^ (10 * k) := fun k hk => by
    rw [wdB_v2B f l hf, fld_v2W f l hf n k hk]
    by_cases h : (3 * n + k) / 12 * gE ((3 * n + k) % 12) + gN ((3 * n + k) % 12) < l (gP ((3 * n + k) % 12))
    · rw [if_pos h]
    · rw [if_neg h]
      unfold v2S
      rw [if_neg h, Nat.zero_mul]
  rw [vT, vT, vT, vT, hs 0 (by omega), hs 1 (by omega), hs 2 (by omega), wdB_v2B f l hf]
  unfold v2W
  rw [show 2 ^ (10 * 0) = 1 from rfl, show 2 ^ (10 * 1) = 1024 from rfl, show 2 ^ (10 * 2) = 1048576 from rfl, Nat.add_zero]
  omega
theorem wdB_congr {f g : Nat → Nat} {n : Nat} (h : ∀ t, t < 4 → f (4 * n + t) = g (4 * n + t)) : wdB f n = wdB g n := by
  unfold wdB
  have h0 := h 0 (by omega)
  rw [Nat.add_zero] at h0
  rw [h0, h 1 (by omega), h 2 (by omega), h 3 (by omega)]
theorem vT_congr {f g : Nat → Nat} {l : Nat → Nat} {n : Nat} (h : wdB f n = wdB g n) : ∀ k, vT f l n k = vT g l n k := by
  intro k
  induction k with
  | zero => rfl
  | succ k ih => rw [vT, vT, ih, h]
theorem wdN_half {W : Int} (h : 1 ≤ W) : wdN W 1 = (wdN W 0 + 1) / 2 ∧ wdN W 2 = (wdN W 0 + 1) / 2 := by
  have e0 : wp W ((0 : Nat) : Int) = W := rfl
  have e1 : wp W ((1 : Nat) : Int) = hf W := rfl
  have e2 : wp W ((2 : Nat) : Int) = hf W := rfl
  unfold wdN
  rw [e0, e1, e2]
  unfold hf
  omega
theorem slt_lt {W : Int} (h : 1 ≤ W) {p x : Nat} (hp : p < 3) (hx : x < wdN W p) : slt p x < 3 * ((wdN W 0 + 47) / 48 * 32) := by
  obtain ⟨h1, h2⟩ := wdN_half h
  rcases (by omega : p = 0 ∨ p = 1 ∨ p = 2) with rfl | rfl | rfl
  · have e : slt 0 x = x / 6 * 12 + 2 * (x % 6) + 1 := rfl
    rw [e]; omega
  · have e : slt 1 x = x / 3 * 12 + 4 * (x % 3) := rfl
    rw [e]; omega
  · have e : slt 2 x = x / 3 * 12 + 4 * (x % 3) + 2 := rfl
    rw [e]; omega
/-- What is read of a row that was written so. -/
theorem stV_v2 (W : Int) (hW : 1 ≤ W) (cur f : Nat → Nat → Nat) (fb : Nat → Nat) (op : Nat → Nat) (hf : ∀ p x, p < 3 → x < wdN W p → f p x < 1024) (hfb : ∀ t, t < 4 * ((wdN W 0 + 47) / 48 * 32) → fb t = v2B f (wdN W) t) {p : Nat} (hp : p < 3) (i : Nat) :
    stV cur fb (wdN W) op (prM ((wdN W 0 + 47) / 48 * 32) 0) p i = if op p ≤ i ∧ i < op p + wdN W p then f p (i - op p) else cur p i := by
  unfold stV
  by_cases h1 : op p ≤ i ∧ i < op p + wdN W p
  · have hs := slt_lt hW hp (show i - op p < wdN W p by omega)
    have hpr : prM ((wdN W 0 + 47) / 48 * 32) 0 (slt p (i - op p)) = true := by unfold prM; simp; omega
    rw [if_pos ⟨h1.1, h1.2, hpr⟩, if_pos h1]
    obtain ⟨s, es⟩ : ∃ s, s = slt p (i - op p) := ⟨_, rfl⟩
    have hb := slt_back hp (i - op p)
    rw [← es] at hs hb ⊢
    rw [wdB_congr (f := fb) (g := v2B f (wdN W)) (fun t ht => hfb _ (by omega)), wdB_v2B f _ hf, fld_v2W f _ hf _ _ (Nat.mod_lt _ (by omega)), Nat.div_add_mod]
    unfold v2S
    rw [hb.1, hb.2, if_pos (by omega)]
  · rw [if_neg (fun h2 => h1 ⟨h2.1, h2.2.1⟩), if_neg h1]
end Go.Proofs.YtodlkpcbkilglaaDoor
