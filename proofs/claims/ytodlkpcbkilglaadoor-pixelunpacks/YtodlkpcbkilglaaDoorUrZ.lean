import Derived.Test.YtodlkpcbkilglaaDoorRq
import Derived.Test.YtodlkpcbkilglaaDoorPp
import Derived.Test.YtodlkpcbkilglaaDoorUn
namespace Go.Proofs.YtodlkpcbkilglaaDoor
open Go.RowKit Go.Shelf

theorem wdB_v2B (f : Nat → Nat → Nat) (l : Nat → Nat) (hf : ∀ p x, p < 3 → x < l p → f p x < 1024) (n : Nat) : wdB (v2B f l) n = v2W f l n := by
  have h := v2W_lt hf n
  unfold wdB v2B
  rw [show 4 * n / 4 = n by omega, show 4 * n % 4 = 0 by omega, show (4 * n + 1) / 4 = n by omega, show (4 * n + 1) % 4 = 1 by omega, show (4 * n + 2) / 4 = n by omega, show (4 * n + 2) % 4 = 2 by omega, show (4 * n + 3) / 4 = n by omega, show (4 * n + 3) % 4 = 3 by omega]
  omega
theorem fld_v2W (f : Nat → Nat → Nat) (l : Nat → Nat) (hf : ∀ p x, p < 3 → x < l p → f p x < 1024) (n k : Nat) (hk : k < 3) : fld (v2W f l n) k = v2S f l (3 * n + k) := by
  have h0 := v2S_lt hf (3 * n)
  have h1 := v2S_lt hf (3 * n + 1)
  have h2 := v2S_lt hf (3 * n + 2)
  unfold fld v2W
  rcases (by omega : k = 0 ∨ k = 1 ∨ k = 2) with rfl | rfl | rfl
  · show (v2S f l (3 * n) + 1024 * v2S f l (3 * n + 1) + 1048576 * v2S f l (3 * n + 2)) / 1 % 1024 = v2S f l (3 * n)
    rw [Nat.div_one]; omega
  · rw [show 2 ^ (10 * 1) = 1024 from rfl]; omega
  · rw [show 2 ^ (10 * 2) = 1048576 from rfl]; omega
theorem vT_v2B (f : Nat → Nat → Nat) (l : Nat → Nat) (hf : ∀ p x, p < 3 → x < l p → f p x < 1024) (n : Nat) : vT (v2B f l) l n 3 = wdB (v2B f l) n := by
  have hs : ∀ k, k < 3 → (if (3 * n + k) / 12 * gE ((3 * n + k) % 12) + gN ((3 * n + k) % 12) < l (gP ((3 * n + k) % 12)) then fld (wdB (v2B f l) n) k * 2 ^ (10 * k) else 0) = v2S f l (3 * n + k) * 2 ^ (10 * k) := fun k hk => by
    rw [wdB_v2B f l hf, fld_v2W f l hf n k hk]
    by_cases h : (3 * n + k) / 12 * gE ((3 * n + k) % 12) + gN ((3 * n + k) % 12) < l (gP ((3 * n + k) % 12))
    · rw [if_pos h]
    · rw [if_neg h]
      unfold v2S
      rw [if_neg h, Nat.zero_mul]
  rw [vT, vT, vT, vT, hs 0 (by omega), hs 1 (by omega), hs 2 (by omega), wdB_v2B f l hf]
  unfold v2W
  rw [show 2 ^ (10 * 0) = 1 from rfl, show 2 ^ (10 * 1) = 1024 from rfl, show 2 ^ (10 * 2) = 1048576 from rfl, Nat.add_zero]
  omega
theorem wdB_congr {f g : Nat → Nat} {n : Nat} (h : ∀ t, t < 4 → f (4 * n + t) = g (4 * n + t)) : wdB f n = wdB g n := by
  unfold wdB
  have h0 := h 0 (by omega)
  rw [Nat.add_zero] at h0
  rw [h0, h 1 (by omega), h 2 (by omega), h 3 (by omega)]
theorem vT_congr {f g : Nat → Nat} {l : Nat → Nat} {n : Nat} (h : wdB f n = wdB g n) : ∀ k, vT f l n k = vT g l n k := by
  intro k
  induction k with
  | zero => rfl
  | succ k ih => rw [vT, vT, ih, h]
theorem wdN_half {W : Int} (h : 1 ≤ W) : wdN W 1 = (wdN W 0 + 1) / 2 ∧ wdN W 2 = (wdN W 0 + 1) / 2 := by
  have e0 : wp W ((0 : Nat) : Int) = W := rfl
  have e1 : wp W ((1 : Nat) : Int) = hf W := rfl
  have e2 : wp W ((2 : Nat) : Int) = hf W := rfl
  unfold wdN
  rw [e0, e1, e2]
  unfold hf
  omega
theorem slt_lt {W : Int} (h : 1 ≤ W) {p x : Nat} (hp : p < 3) (hx : x < wdN W p) : slt p x < 3 * ((wdN W 0 + 47) / 48 * 32) := by
  obtain ⟨h1, h2⟩ := wdN_half h
  rcases (by omega : p = 0 ∨ p = 1 ∨ p = 2) with rfl | rfl | rfl
  · have e : slt 0 x = x / 6 * 12 + 2 * (x % 6) + 1 := rfl
    rw [e]; omega
  · have e : slt 1 x = x / 3 * 12 + 4 * (x % 3) := rfl
    rw [e]; omega
  · have e : slt 2 x = x / 3 * 12 + 4 * (x % 3) + 2 := rfl
    rw [e]; omega
/-- What is read of a row that was written so. -/
theorem stV_v2 (W : Int) (hW : 1 ≤ W) (cur f : Nat → Nat → Nat) (fb : Nat → Nat) (op : Nat → Nat) (hf : ∀ p x, p < 3 → x < wdN W p → f p x < 1024) (hfb : ∀ t, t < 4 * ((wdN W 0 + 47) / 48 * 32) → fb t = v2B f (wdN W) t) {p : Nat} (hp : p < 3) (i : Nat) :
    stV cur fb (wdN W) op (prM ((wdN W 0 + 47) / 48 * 32) 0) p i = if op p ≤ i ∧ i < op p + wdN W p then f p (i - op p) else cur p i := by
  unfold stV
  by_cases h1 : op p ≤ i ∧ i < op p + wdN W p
  · have hs := slt_lt hW hp (show i - op p < wdN W p by omega)
    have hpr : prM ((wdN W 0 + 47) / 48 * 32) 0 (slt p (i - op p)) = true := by unfold prM; simp; omega
    rw [if_pos ⟨h1.1, h1.2, hpr⟩, if_pos h1]
    obtain ⟨s, es⟩ : ∃ s, s = slt p (i - op p) := ⟨_, rfl⟩
    have hb := slt_back hp (i - op p)
    rw [← es] at hs hb ⊢
    rw [wdB_congr (f := fb) (g := v2B f (wdN W)) (fun t ht => hfb _ (by omega)), wdB_v2B f _ hf, fld_v2W f _ hf _ _ (Nat.mod_lt _ (by omega)), Nat.div_add_mod]
    unfold v2S
    rw [hb.1, hb.2, if_pos (by omega)]
  · rw [if_neg (fun h2 => h1 ⟨h2.1, h2.2.1⟩), if_neg h1]
end Go.Proofs.YtodlkpcbkilglaaDoor

namespace Go.Proofs.YtodlkpcbkilglaaDoor
open Go.RowKit Go.Shelf

/-- A byte of rows that lie one behind the other. -/
theorem ctN_at (rl : Nat → Nat) (rb : Nat → Nat → Nat) : ∀ q k t, k < q → t < rl k → (ctN rl rb q)[ctL rl k + t]? = some (rb k t) := by
  intro q
  induction q with
  | zero => intro k t h; omega
  | succ q ih =>
    intro k t hk ht
    rw [ctN]
    by_cases h : k < q
    · have h1 := ctL_mono rl (show k + 1 ≤ q from h)
      rw [ctL] at h1
      rw [List.getElem?_append_left (by rw [ctN_length]; omega)]
      exact ih k t h ht
    · obtain rfl : k = q := by omega
      rw [List.getElem?_append_right (by rw [ctN_length]; omega), ctN_length, show ctL rl k + t - ctL rl k = t by omega]
      simp [ht]
theorem ctN_lt (rl : Nat → Nat) (rb : Nat → Nat → Nat) (h : ∀ k t, rb k t < 256) : ∀ q, ∀ v ∈ ctN rl rb q, v < 256 := by
  intro q
  induction q with
  | zero => intro v hv; simp [ctN] at hv
  | succ q ih =>
    intro v hv
    rw [ctN] at hv
    rcases List.mem_append.1 hv with hv | hv
    · exact ih v hv
    · obtain ⟨t, _, rfl⟩ := List.mem_map.1 hv
      exact h q t
theorem plR_lt (W : Int) (h : Nat) (F : Nat → Nat → Nat) (k t : Nat) : plR W h F k t < 256 := by
  unfold plR plB
  exact Nat.mod_lt _ (by decide)
theorem v2R_lt (W : Int) (F : Nat → Nat → Nat) (k t : Nat) : v2R W F k t < 256 := by
  unfold v2R v2B
  exact Nat.mod_lt _ (by decide)
end Go.Proofs.YtodlkpcbkilglaaDoor

namespace Go.Proofs.YtodlkpcbkilglaaDoor
open Go.RowKit Go.Shelf

/-- Rows behind one another are the bytes, if each is. -/
theorem ctN_eq (rl : Nat → Nat) (rb : Nat → Nat → Nat) (fb : Nat → Nat) : ∀ q, (∀ k, k < q → ∀ t, t < rl k → fb (ctL rl k + t) = rb k t) → ctN rl rb q = (List.range (ctL rl q)).map fb := by
  intro q
  induction q with
  | zero => intro _; rfl
  | succ q ih =>
    intro h
    rw [ctN, ctL, List.range_add, List.map_append, ih (fun k hk => h k (by omega)), List.map_map]
    congr 1
    refine List.map_congr_left (fun t ht => ?_)
    exact (h q (by omega) t (List.mem_range.1 ht)).symm
/-- The frame that planar bytes tell. -/
def pnF (W : Int) (h : Nat) (fb : Nat → Nat) (p i : Nat) : Nat := fb (ctL (plL W h) (p * h + i / wdN W p) + 2 * (i % wdN W p)) + 256 * fb (ctL (plL W h) (p * h + i / wdN W p) + (2 * (i % wdN W p) + 1))
theorem pnF_good {W : Int} {h : Nat} {fb : Nat → Nat} (hw : ∀ p, 1 ≤ wdN W p) (q : Nat) (hf : ∀ i, i < ctL (plL W h) q → fb i < 256) : ∀ k, k < q → ∀ t, t < plL W h k → fb (ctL (plL W h) k + t) = plR W h (pnF W h fb) k t := fun k hk t ht => by
  have hm := ctL_mono (plL W h) (show k + 1 ≤ q from hk)
  rw [ctL] at hm
  have hb : ∀ s, s < plL W h k → fb (ctL (plL W h) k + s) < 256 := fun s hs => hf _ (by omega)
  have ht' : t < 2 * wdN W (k / h) := ht
  have e1 : (k % h * wdN W (k / h) + t / 2) / wdN W (k / h) = k % h := by
    rw [Nat.mul_comm, Nat.mul_add_div (hw _), Nat.div_eq_of_lt (by omega), Nat.add_zero]
  have e2 : (k % h * wdN W (k / h) + t / 2) % wdN W (k / h) = t / 2 := by
    rw [Nat.mul_comm, Nat.mul_add_mod, Nat.mod_eq_of_lt (by omega)]
  have e3 : k / h * h + k % h = k := by rw [Nat.mul_comm]; exact Nat.div_add_mod k h
  unfold plR plB pnF
  show _ = (fb (ctL (plL W h) (k / h * h + (k % h * wdN W (k / h) + t / 2) / wdN W (k / h)) + 2 * ((k % h * wdN W (k / h) + t / 2) % wdN W (k / h))) + 256 * fb (ctL (plL W h) (k / h * h + (k % h * wdN W (k / h) + t / 2) / wdN W (k / h)) + (2 * ((k % h * wdN W (k / h) + t / 2) % wdN W (k / h)) + 1))) / 256 ^ (t % 2) % 256
  rw [e1, e2, e3]
  have b0 := hb (2 * (t / 2)) (by show _ < 2 * wdN W (k / h); omega)
  have b1 := hb (2 * (t / 2) + 1) (by show _ < 2 * wdN W (k / h); omega)
  rcases (by omega : t % 2 = 0 ∨ t % 2 = 1) with e | e
  · rw [e, Nat.pow_zero, Nat.div_one]
    have : t = 2 * (t / 2) := by omega
    rw [← this] at b0 ⊢
    omega
  · rw [e, Nat.pow_one]
    have : t = 2 * (t / 2) + 1 := by omega
    rw [← this] at b1 ⊢
    omega
/-- The frame that v210's bytes tell. -/
def vnF (W : Int) (fb : Nat → Nat) (p i : Nat) : Nat := fld (wdB (fun t => fb (ctL (v2L W) (i / wdN W p) + t)) (slt p (i % wdN W p) / 3)) (slt p (i % wdN W p) % 3)
theorem vnF_lt (W : Int) (fb : Nat → Nat) (p i : Nat) : vnF W fb p i < 1024 := Nat.mod_lt _ (by decide)
theorem v2W_good (fb : Nat → Nat) (l : Nat → Nat) (f : Nat → Nat → Nat) (n : Nat) (hf : ∀ p x, p < 3 → x < l p → f p x = fld (wdB fb (slt p x / 3)) (slt p x % 3)) (hg : vT fb l n 3 = wdB fb n) : v2W f l n = wdB fb n := by
  have hs : ∀ k, k < 3 → v2S f l (3 * n + k) = if (3 * n + k) / 12 * gE ((3 * n + k) % 12) + gN ((3 * n + k) % 12) < l (gP ((3 * n + k) % 12)) then fld (wdB fb n) k else 0 := fun k hk => by
    unfold v2S
    by_cases h : (3 * n + k) / 12 * gE ((3 * n + k) % 12) + gN ((3 * n + k) % 12) < l (gP ((3 * n + k) % 12))
    · rw [if_pos h, if_pos h, hf _ _ (by unfold gP; split <;> (try split) <;> omega) h, slt_at, show (3 * n + k) / 3 = n by omega, show (3 * n + k) % 3 = k by omega]
    · rw [if_neg h, if_neg h]
  rw [← hg, vT, vT, vT, vT]
  show v2S f l (3 * n + 0) + 1024 * v2S f l (3 * n + 1) + 1048576 * v2S f l (3 * n + 2) = _
  rw [hs 0 (by omega), hs 1 (by omega), hs 2 (by omega)]
  rw [show 2 ^ (10 * 0) = 1 from rfl, show 2 ^ (10 * 1) = 1024 from rfl, show 2 ^ (10 * 2) = 1048576 from rfl]
  split <;> split <;> split <;> omega
theorem wdB_byte {fb : Nat → Nat} {n j : Nat} (hf : ∀ t, t < 4 → fb (4 * n + t) < 256) (hj : j < 4) : wdB fb n / 256 ^ j % 256 = fb (4 * n + j) := by
  have h0 := hf 0 (by omega)
  have h1 := hf 1 (by omega)
  have h2 := hf 2 (by omega)
  have h3 := hf 3 (by omega)
  rw [Nat.add_zero] at h0
  unfold wdB
  rcases (by omega : j = 0 ∨ j = 1 ∨ j = 2 ∨ j = 3) with rfl | rfl | rfl | rfl
  · show _ = fb (4 * n)
    rw [Nat.pow_zero, Nat.div_one]; omega
  · rw [Nat.pow_one]; omega
  · rw [show 256 ^ 2 = 65536 from rfl]; omega
  · rw [show 256 ^ 3 = 16777216 from rfl]; omega
theorem vnF_good {W : Int} {fb : Nat → Nat} (hw : ∀ p, 1 ≤ wdN W p) (q : Nat) (hf : ∀ i, i < ctL (v2L W) q → fb i < 256) (hg : ∀ k, k < q → ∀ n, n < (wdN W 0 + 47) / 48 * 32 → vT (fun t => fb (ctL (v2L W) k + t)) (wdN W) n 3 = wdB (fun t => fb (ctL (v2L W) k + t)) n) :
    ∀ k, k < q → ∀ t, t < v2L W k → fb (ctL (v2L W) k + t) = v2R W (vnF W fb) k t := fun k hk t ht => by
  have hm := ctL_mono (v2L W) (show k + 1 ≤ q from hk)
  rw [ctL] at hm
  have hN : v2L W k = 4 * ((wdN W 0 + 47) / 48 * 32) := rfl
  have hn : t / 4 < (wdN W 0 + 47) / 48 * 32 := by omega
  unfold v2R v2B
  rw [v2W_good (fun t => fb (ctL (v2L W) k + t)) (wdN W) _ (t / 4) (fun p x hp hx => ?_) (hg k hk _ hn)]
  · have h9 := wdB_byte (fb := fun s => fb (ctL (v2L W) k + s)) (n := t / 4) (j := t % 4) (fun s hs => hf _ (by omega)) (Nat.mod_lt _ (by decide))
    rw [h9]
    show _ = fb (ctL (v2L W) k + (4 * (t / 4) + t % 4))
    rw [show 4 * (t / 4) + t % 4 = t by omega]
  show vnF W fb p (k * wdN W p + x) = _
  unfold vnF
  rw [show (k * wdN W p + x) / wdN W p = k by rw [Nat.mul_comm, Nat.mul_add_div (hw _), Nat.div_eq_of_lt hx, Nat.add_zero], show (k * wdN W p + x) % wdN W p = x by rw [Nat.mul_comm, Nat.mul_add_mod, Nat.mod_eq_of_lt hx]]
end Go.Proofs.YtodlkpcbkilglaaDoor
