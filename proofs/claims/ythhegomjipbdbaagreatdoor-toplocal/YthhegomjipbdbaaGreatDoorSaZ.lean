import Derived.Test.YthhegomjipbdbaaGreatDoorG9Z
import Derived.Test.YthhegomjipbdbaaGreatDoormB1Z
import Derived.Test.YthhegomjipbdbaaGreatDoormW1
namespace Go.Proofs.YthhegomjipbdbaaGreatDoor
open Go.RowKit

theorem bitLen_up (x : Nat) (h : x < 4096) : x < 2 ^ Lib.bitLen x := by
  have h1 := bl_le x h
  have h2 := bl_iff x (Lib.bitLen x) h (by omega)
  omega

/-- A walk's state: what the contexts have learnt, the rate, what came back, how far it is. -/
structure Wk where
  L : Nat → Sx
  r : Nat
  b : Nat → Int
  t : Nat

/-- The neighbours. -/
def nA (T : Int) (W : Nat) (b : Nat → Int) (t : Nat) : Int := if t < W then (if t = 0 then (T + 1) / 2 else b (t - 1)) else if 0 < t % W then b (t - 1) else b (t - W)
def nB (T : Int) (W : Nat) (b : Nat → Int) (t : Nat) : Int := if t < W then nA T W b t else b (t - W)
def nC (T : Int) (W : Nat) (b : Nat → Int) (t : Nat) : Int := if t < W then nA T W b t else if 0 < t % W then b (t - W - 1) else b (t - W)
def nE (T : Int) (W : Nat) (b : Nat → Int) (t : Nat) : Int := if t < W then nA T W b t else if t % W + 1 < W then b (t - W + 1) else b (t - W)
/-- The context, the sign, the guess. -/
def xk (T d : Int) (W : Nat) (s : Wk) : Int := fc T d (nA T W s.b s.t) (nB T W s.b s.t) (nC T W s.b s.t) (nE T W s.b s.t)
def xs (T d : Int) (W : Nat) (s : Wk) : Int := fs T d (nA T W s.b s.t) (nB T W s.b s.t) (nC T W s.b s.t) (nE T W s.b s.t)
def xp (T d : Int) (W : Nat) (s : Wk) : Int := if xk T d W s = 0 then nA T W s.b s.t else gs T s.L (xk T d W s) (xs T d W s) (nA T W s.b s.t) (nB T W s.b s.t) (nC T W s.b s.t)
/-- How many samples are left in the row. -/
def rom (W t : Nat) : Nat := W - t % W
def fil (b : Nat → Int) (t n : Nat) (v : Int) : Nat → Int := fun i => if t ≤ i ∧ i < t + n then v else b i
def fld (q : Int) : Nat := if q < 0 then (-2 * q - 1).toNat else (2 * q).toNat
def wde (T d : Int) : Nat := Lib.bitLen (rg T d - 1).toNat
/-- Behind a run; behind a sample. -/
def gor (T : Int) (W : Nat) (s : Wk) (n : Nat) : Wk := ⟨s.L, rr s.r n (rom W s.t), fil s.b s.t n (nA T W s.b s.t), s.t + n⟩
def goo (T d : Int) (s : Wk) (k g p q : Int) : Wk := ⟨lL T d s.L k q, s.r, fil s.b s.t 1 (gro T d p (g * q)), s.t + 1⟩
/-- One round, by what was chosen. -/
def itr (T d : Int) (W : Nat) (s : Wk) (c : Nat × Int) : Wk :=
  if xk T d W s = 0 then (if c.1 = rom W s.t then gor T W s c.1 else goo T d (gor T W s c.1) 0 (xs T d W s) (nA T W s.b s.t) c.2) else goo T d s (xk T d W s) (xs T d W s) (xp T d W s) c.2
/-- Bits behind bits: a number and how many they are. -/
def ap (x : Nat × Nat) (w v : Nat) : Nat × Nat := (x.1 * 2 ^ w + v, x.2 + w)
def btr (W : Nat) (s : Wk) (n : Nat) (x : Nat × Nat) : Nat × Nat := ap x (rw_ s.r n (rom W s.t)) (rf s.r n (rom W s.t))
def bto (T d : Int) (s : Wk) (k : Int) (least : Nat) (q : Int) (x : Nat × Nat) : Nat × Nat := ap x (gw (fld q - least) (po s.L k) (wde T d)) (gf (fld q - least) (po s.L k))
def bit (T d : Int) (W : Nat) (s : Wk) (c : Nat × Int) (x : Nat × Nat) : Nat × Nat :=
  if xk T d W s = 0 then (if c.1 = rom W s.t then btr W s c.1 x else bto T d (gor T W s c.1) 0 1 c.2 (btr W s c.1 x)) else bto T d s (xk T d W s) 0 c.2 x

/-- How many are near one. -/
def nea (d a v : Int) : Bool := decide (v - a ≤ d ∧ a - v ≤ d)
def rnl (f : Nat → Int) (a d : Int) : Nat → Nat → Nat
  | _, 0 => 0
  | t, m + 1 => if nea d a (f t) then rnl f a d (t + 1) m + 1 else 0
/-- What the coder chooses. -/
def cE (T d : Int) (W : Nat) (f : Nat → Int) (s : Wk) : Nat × Int :=
  if xk T d W s = 0 then (rnl f (nA T W s.b s.t) d s.t (rom W s.t), shr T d (xs T d W s * (f (s.t + rnl f (nA T W s.b s.t) d s.t (rom W s.t)) - nA T W s.b s.t))) else (0, shr T d (xs T d W s * (f s.t - xp T d W s)))

theorem nea_iff (d a v : Int) : nea d a v = true ↔ (v - a ≤ d ∧ a - v ≤ d) := by simp [nea]
theorem rnl_le (f : Nat → Int) (a d : Int) (m : Nat) : ∀ t, rnl f a d t m ≤ m := by
  induction m with
  | zero => intro t; simp [rnl]
  | succ m ih => intro t; unfold rnl; have := ih (t + 1); split <;> omega
theorem rnl_in (f : Nat → Int) (a d : Int) (m : Nat) : ∀ t i, i < rnl f a d t m → nea d a (f (t + i)) = true := by
  induction m with
  | zero => intro t i h; simp [rnl] at h
  | succ m ih =>
    intro t i h
    unfold rnl at h
    split at h
    · cases i with
      | zero => simpa using ‹_›
      | succ i => have := ih (t + 1) i (by omega); rwa [show t + 1 + i = t + (i + 1) by omega] at this
    · omega
theorem rnl_end (f : Nat → Int) (a d : Int) (m : Nat) : ∀ t, rnl f a d t m < m → nea d a (f (t + rnl f a d t m)) = false := by
  induction m with
  | zero => intro t h; omega
  | succ m ih =>
    intro t h
    unfold rnl at h ⊢
    split at h
    · rename_i h1
      have := ih (t + 1) (by omega)
      rw [if_pos h1, show t + (rnl f a d (t + 1) m + 1) = t + 1 + rnl f a d (t + 1) m by omega]; exact this
    · rename_i h1
      rw [if_neg h1]; simpa using h1
theorem rnl_is (f : Nat → Int) (a d : Int) (m t n : Nat) (hn : n ≤ m) (h1 : ∀ i, i < n → nea d a (f (t + i)) = true) (h2 : n < m → nea d a (f (t + n)) = false) : rnl f a d t m = n := by
  rcases Nat.lt_trichotomy (rnl f a d t m) n with h | h | h
  · have := rnl_end f a d m t (by omega); rw [h1 _ h] at this; cases this
  · exact h
  · have := rnl_in f a d m t n h; rw [h2 (by have := rnl_le f a d m t; omega)] at this; cases this

theorem fc_lo (T d a b c e : Int) : 0 ≤ fc T d a b c e := by unfold fc mg; split <;> omega
theorem fc_hi (T d a b c e : Int) : fc T d a b c e < 365 := by have := fk_lo T d a b c e; have := fk_hi T d a b c e; unfold fc mg; split <;> omega
theorem fs_one (T d a b c e : Int) : fs T d a b c e = 1 ∨ fs T d a b c e = -1 := by unfold fs; split <;> simp
theorem fs_zero (T d a b c e : Int) (h : fc T d a b c e = 0) : fs T d a b c e = 1 := by
  unfold fc mg at h; unfold fs; split at h <;> (rw [if_neg (by omega)])
theorem xk_lo (T d : Int) (W : Nat) (s : Wk) : 0 ≤ xk T d W s := fc_lo ..
theorem xk_hi (T d : Int) (W : Nat) (s : Wk) : xk T d W s < 365 := fc_hi ..
theorem xs_one (T d : Int) (W : Nat) (s : Wk) : xs T d W s = 1 ∨ xs T d W s = -1 := fs_one ..
theorem xs_zero (T d : Int) (W : Nat) (s : Wk) (h : xk T d W s = 0) : xs T d W s = 1 := fs_zero _ _ _ _ _ _ h

/-- What holds of a state. -/
structure Wk.In (T : Int) (s : Wk) : Prop where
  fit : ∀ k, (s.L k).Fit
  rate : s.r ≤ 22
  bk : ∀ i, i < s.t → 0 ≤ s.b i ∧ s.b i ≤ T

theorem Gd.t0 {T d : Int} (G : Gd T d) : 1023 ≤ T ∧ T ≤ 4095 := by rcases G.top with h | h <;> omega
theorem nA_in {T d : Int} (G : Gd T d) {W : Nat} {s : Wk} (h : s.In T) (hW : 1 ≤ W) : 0 ≤ nA T W s.b s.t ∧ nA T W s.b s.t ≤ T := by
  have ht := G.t0
  unfold nA
  split
  · split
    · omega
    · exact h.bk _ (by omega)
  · split
    · exact h.bk _ (by omega)
    · exact h.bk _ (by omega)
theorem nB_in {T d : Int} (G : Gd T d) {W : Nat} {s : Wk} (h : s.In T) (hW : 1 ≤ W) : 0 ≤ nB T W s.b s.t ∧ nB T W s.b s.t ≤ T := by
  unfold nB
  split
  · exact nA_in G h hW
  · exact h.bk _ (by omega)
theorem nC_in {T d : Int} (G : Gd T d) {W : Nat} {s : Wk} (h : s.In T) (hW : 1 ≤ W) : 0 ≤ nC T W s.b s.t ∧ nC T W s.b s.t ≤ T := by
  unfold nC
  split
  · exact nA_in G h hW
  · split
    · exact h.bk _ (by omega)
    · exact h.bk _ (by omega)
theorem nE_in {T d : Int} (G : Gd T d) {W : Nat} {s : Wk} (h : s.In T) (hW : 1 ≤ W) : 0 ≤ nE T W s.b s.t ∧ nE T W s.b s.t ≤ T := by
  unfold nE
  split
  · exact nA_in G h hW
  · split
    · have : s.t % W < W := Nat.mod_lt _ (by omega)
      by_cases h2 : W = 1
      · subst h2; omega
      · exact h.bk _ (by omega)
    · exact h.bk _ (by omega)
theorem gs_in {T d : Int} (G : Gd T d) (L : Nat → Sx) (k s a b c : Int) : 0 ≤ gs T L k s a b c ∧ gs T L k s a b c ≤ T := by
  have ht := G.t0
  have m := med_in (c := ct c 0 T) (ct_lo (n := a) (l := 0) (h := T) (by omega)) (ct_hi (n := a) (l := 0) (h := T)) (ct_lo (n := b) (l := 0) (h := T) (by omega)) (ct_hi (n := b) (l := 0) (h := T))
  unfold gs
  split
  · split
    · exact ⟨ct_lo (by omega), ct_hi⟩
    · exact ⟨ct_lo (by omega), ct_hi⟩
  · exact m
theorem xp_in {T d : Int} (G : Gd T d) {W : Nat} {s : Wk} (h : s.In T) (hW : 1 ≤ W) : 0 ≤ xp T d W s ∧ xp T d W s ≤ T := by
  unfold xp
  split
  · exact nA_in G h hW
  · exact gs_in G ..
theorem gro_in {T d : Int} (G : Gd T d) (p q : Int) : 0 ≤ gro T d p q ∧ gro T d p q ≤ T := by
  have ht := G.t0
  unfold gro
  exact ⟨ct_lo (by omega), ct_hi⟩

theorem rom_pos {W t : Nat} (hW : 1 ≤ W) : 1 ≤ rom W t ∧ rom W t ≤ W := by have := Nat.mod_lt t (show 0 < W by omega); unfold rom; omega
theorem rom_in {W H t : Nat} (hW : 1 ≤ W) (ht : t < W * H) : t + rom W t ≤ W * H := by
  have h1 := Nat.mod_lt t (show 0 < W by omega)
  have h2 := Nat.div_add_mod t W
  have h3 : t / W < H := Nat.div_lt_of_lt_mul ht
  have h4 : W * (t / W + 1) ≤ W * H := Nat.mul_le_mul_left _ h3
  rw [Nat.mul_add, Nat.mul_one] at h4
  unfold rom; omega

theorem fil_same (b : Nat → Int) (t n : Nat) (v : Int) (i : Nat) (h : i < t) : fil b t n v i = b i := by unfold fil; rw [if_neg (by omega)]
theorem fil_in (b : Nat → Int) (t n : Nat) (v : Int) (i : Nat) (h : t ≤ i) (h2 : i < t + n) : fil b t n v i = v := by unfold fil; rw [if_pos ⟨h, h2⟩]

theorem gor_in {T d : Int} (G : Gd T d) {W : Nat} {s : Wk} (h : s.In T) (hW : 1 ≤ W) (n : Nat) : (gor T W s n).In T := by
  refine ⟨h.fit, rr_le _ _ _, ?_⟩
  intro i hi
  show 0 ≤ fil _ _ _ _ i ∧ fil _ _ _ _ i ≤ T
  by_cases hc : i < s.t
  · rw [fil_same _ _ _ _ _ hc]; exact h.bk _ hc
  · rw [fil_in _ _ _ _ _ (by omega) hi]; exact nA_in G h hW
theorem lL_fit {T d : Int} (G : Gd T d) {L : Nat → Sx} (h : ∀ k, (L k).Fit) (k q : Int) : ∀ j, (lL T d L k q j).Fit := by
  intro j
  unfold lL
  split
  · unfold upd; split
    · exact (learn_fit T d q G _ (h _)).1
    · exact h _
  · exact h _
theorem goo_in {T d : Int} (G : Gd T d) {s : Wk} (h : s.In T) (k g p q : Int) : (goo T d s k g p q).In T := by
  refine ⟨lL_fit G h.fit k q, h.rate, ?_⟩
  intro i hi
  show 0 ≤ fil _ _ _ _ i ∧ fil _ _ _ _ i ≤ T
  by_cases hc : i < s.t
  · rw [fil_same _ _ _ _ _ hc]; exact h.bk _ hc
  · rw [fil_in _ _ _ _ _ (by omega) hi]; exact gro_in G ..
theorem itr_in {T d : Int} (G : Gd T d) {W : Nat} {s : Wk} (h : s.In T) (hW : 1 ≤ W) (c : Nat × Int) : (itr T d W s c).In T := by
  unfold itr
  split
  · split
    · exact gor_in G h hW _
    · exact goo_in G (gor_in G h hW _) _ _ _ _
  · exact goo_in G h _ _ _ _
theorem itr_lt {T d : Int} {W : Nat} {s : Wk} (hW : 1 ≤ W) (c : Nat × Int) : s.t < (itr T d W s c).t := by
  have := rom_pos (t := s.t) hW
  unfold itr
  split
  · split
    · show s.t < s.t + c.1; omega
    · show s.t < s.t + c.1 + 1; omega
  · show s.t < s.t + 1; omega
theorem itr_le {T d : Int} {W H : Nat} {s : Wk} (hW : 1 ≤ W) (ht : s.t < W * H) (c : Nat × Int) (hc : c.1 ≤ rom W s.t) : (itr T d W s c).t ≤ W * H := by
  have := rom_in hW ht
  unfold itr
  split
  · split
    · show s.t + c.1 ≤ _; omega
    · show s.t + c.1 + 1 ≤ _; omega
  · show s.t + 1 ≤ _; omega
theorem itr_old {T d : Int} {W : Nat} {s : Wk} (c : Nat × Int) (i : Nat) (hi : i < s.t) : (itr T d W s c).b i = s.b i := by
  unfold itr
  split
  · split
    · exact fil_same _ _ _ _ _ hi
    · show fil (fil _ _ _ _) (s.t + c.1) _ _ i = _
      rw [fil_same _ _ _ _ _ (by omega), fil_same _ _ _ _ _ hi]
  · exact fil_same _ _ _ _ _ hi
theorem cE_le (T d : Int) (W : Nat) (f : Nat → Int) (s : Wk) : (cE T d W f s).1 ≤ rom W s.t := by
  unfold cE
  split
  · exact rnl_le _ _ _ _ _
  · exact Nat.zero_le _

theorem fld_lt {T d q : Int} (G : Gd T d) (h0 : -(rg T d / 2) ≤ q) (h1 : q ≤ (rg T d - 1) / 2) : (fld q : Int) < rg T d := by
  have := rg_pos T d G
  unfold fld; split <;> omega
theorem wde_in {T d : Int} (G : Gd T d) : 1 ≤ wde T d ∧ wde T d ≤ 12 := by
  have := rg_pos T d G
  have h1 := Lib.bitLen_le (rg T d - 1).toNat 12 (by omega) (by omega)
  have h2 := Lib.bitLen_half (rg T d - 1).toNat (by omega) (by omega)
  unfold wde; omega
theorem lt_wde {T d : Int} (G : Gd T d) (v : Nat) (h : (v : Int) < rg T d) : v < 2 ^ wde T d := by
  have := rg_pos T d G
  have h1 := bitLen_up (rg T d - 1).toNat (by omega)
  unfold wde
  omega

/-- What the coder chooses is near. -/
theorem cE_q {T d : Int} (G : Gd T d) {W : Nat} {f : Nat → Int} {s : Wk} (h : s.In T) (hW : 1 ≤ W) (hf : ∀ i, 0 ≤ f i ∧ f i ≤ T) : (fld (cE T d W f s).2 : Int) < rg T d := by
  unfold cE
  split
  · have := near_all T d (f (s.t + rnl f (nA T W s.b s.t) d s.t (rom W s.t))) (nA T W s.b s.t) (xs T d W s) G (xs_one ..) (nA_in G h hW).1 (nA_in G h hW).2 (hf _).1 (hf _).2
    simp only at this
    exact fld_lt G this.2.2.2.2.2.1 this.2.2.2.2.2.2
  · have := near_all T d (f s.t) (xp T d W s) (xs T d W s) G (xs_one ..) (xp_in G h hW).1 (xp_in G h hW).2 (hf _).1 (hf _).2
    simp only at this
    exact fld_lt G this.2.2.2.2.2.1 this.2.2.2.2.2.2
theorem cE_run {T d : Int} (G : Gd T d) {W : Nat} {f : Nat → Int} {s : Wk} (h : s.In T) (hW : 1 ≤ W) (hf : ∀ i, 0 ≤ f i ∧ f i ≤ T) (hk : xk T d W s = 0) (hn : (cE T d W f s).1 < rom W s.t) : 1 ≤ fld (cE T d W f s).2 := by
  have ha := nA_in G h hW
  unfold cE at hn ⊢
  rw [if_pos hk] at hn ⊢
  have he := rnl_end f (nA T W s.b s.t) d (rom W s.t) s.t hn
  generalize rnl f (nA T W s.b s.t) d s.t (rom W s.t) = n at *
  have hx : ¬ (f (s.t + n) - nA T W s.b s.t ≤ d ∧ nA T W s.b s.t - f (s.t + n) ≤ d) := by intro hh; rw [(nea_iff _ _ _).2 hh] at he; cases he
  have := far_all T d (f (s.t + n)) (nA T W s.b s.t) G ha.1 ha.2 (hf _).1 (hf _).2 (by omega)
  rw [xs_zero T d W s hk, Int.one_mul]
  unfold fld
  split <;> omega

/-- Each round is within the tolerance. -/
theorem itr_near {T d : Int} (G : Gd T d) {W : Nat} {f : Nat → Int} {s : Wk} (h : s.In T) (hW : 1 ≤ W) (hf : ∀ i, 0 ≤ f i ∧ f i ≤ T) (i : Nat) (h0 : s.t ≤ i) (h1 : i < (itr T d W s (cE T d W f s)).t) :
    -d ≤ (itr T d W s (cE T d W f s)).b i - f i ∧ (itr T d W s (cE T d W f s)).b i - f i ≤ d := by
  have ha := nA_in G h hW
  by_cases hk : xk T d W s = 0
  · have e : cE T d W f s = (rnl f (nA T W s.b s.t) d s.t (rom W s.t), shr T d (xs T d W s * (f (s.t + rnl f (nA T W s.b s.t) d s.t (rom W s.t)) - nA T W s.b s.t))) := by unfold cE; rw [if_pos hk]
    rw [e] at h1 ⊢
    have hr := rnl_in f (nA T W s.b s.t) d (rom W s.t) s.t
    have hl := rnl_le f (nA T W s.b s.t) d (rom W s.t) s.t
    generalize rnl f (nA T W s.b s.t) d s.t (rom W s.t) = n at *
    unfold itr at h1 ⊢
    rw [if_pos hk] at h1 ⊢
    dsimp only at h1 ⊢
    have hin : i < s.t + n → -d ≤ nA T W s.b s.t - f i ∧ nA T W s.b s.t - f i ≤ d := by
      intro hi
      have := (nea_iff _ _ _).1 (hr (i - s.t) (by omega))
      rw [show s.t + (i - s.t) = i by omega] at this
      omega
    by_cases hn : n = rom W s.t
    · rw [if_pos hn] at h1 ⊢
      have h1 : i < s.t + n := h1
      show -d ≤ fil _ _ _ _ i - f i ∧ fil _ _ _ _ i - f i ≤ d
      rw [fil_in _ _ _ _ _ h0 h1]; exact hin h1
    · rw [if_neg hn] at h1 ⊢
      have h1 : i < s.t + n + 1 := h1
      show -d ≤ fil (fil _ _ _ _) (s.t + n) 1 _ i - f i ∧ fil (fil _ _ _ _) (s.t + n) 1 _ i - f i ≤ d
      by_cases hi : i < s.t + n
      · rw [fil_same _ _ _ _ _ hi, fil_in _ _ _ _ _ h0 hi]; exact hin hi
      · obtain rfl : i = s.t + n := by omega
        rw [fil_in _ _ _ _ _ (by omega) (by omega)]
        have := near_all T d (f (s.t + n)) (nA T W s.b s.t) (xs T d W s) G (xs_one ..) ha.1 ha.2 (hf _).1 (hf _).2
        simp only at this
        exact ⟨this.2.2.1, this.2.2.2.1⟩
  · have e : cE T d W f s = (0, shr T d (xs T d W s * (f s.t - xp T d W s))) := by unfold cE; rw [if_neg hk]
    rw [e] at h1 ⊢
    unfold itr at h1 ⊢
    rw [if_neg hk] at h1 ⊢
    have h1 : i < s.t + 1 := h1
    obtain rfl : i = s.t := by omega
    show -d ≤ fil _ _ _ _ _ - f _ ∧ fil _ _ _ _ _ - f _ ≤ d
    rw [fil_in _ _ _ _ _ (by omega) (by omega)]
    have := near_all T d (f s.t) (xp T d W s) (xs T d W s) G (xs_one ..) (xp_in G h hW).1 (xp_in G h hW).2 (hf _).1 (hf _).2
    simp only at this
    exact ⟨this.2.2.1, this.2.2.2.1⟩

/-- Coded again, what came back makes the same round. -/
theorem itr_again {T d : Int} (G : Gd T d) {W : Nat} {f g : Nat → Int} {s : Wk} (h : s.In T) (hW : 1 ≤ W) (hf : ∀ i, 0 ≤ f i ∧ f i ≤ T)
    (hg : ∀ i, s.t ≤ i → i < (itr T d W s (cE T d W f s)).t → g i = (itr T d W s (cE T d W f s)).b i) :
    itr T d W s (cE T d W g s) = itr T d W s (cE T d W f s) ∧ (∀ x, bit T d W s (cE T d W g s) x = bit T d W s (cE T d W f s) x) := by
  have ha := nA_in G h hW
  have hd := G.lo
  by_cases hk : xk T d W s = 0
  · have e : cE T d W f s = (rnl f (nA T W s.b s.t) d s.t (rom W s.t), shr T d (xs T d W s * (f (s.t + rnl f (nA T W s.b s.t) d s.t (rom W s.t)) - nA T W s.b s.t))) := by unfold cE; rw [if_pos hk]
    have e2 : cE T d W g s = (rnl g (nA T W s.b s.t) d s.t (rom W s.t), shr T d (xs T d W s * (g (s.t + rnl g (nA T W s.b s.t) d s.t (rom W s.t)) - nA T W s.b s.t))) := by unfold cE; rw [if_pos hk]
    rw [e] at hg
    rw [e, e2]
    have hr := rnl_in f (nA T W s.b s.t) d (rom W s.t) s.t
    have hl := rnl_le f (nA T W s.b s.t) d (rom W s.t) s.t
    have he := rnl_end f (nA T W s.b s.t) d (rom W s.t) s.t
    generalize rnl f (nA T W s.b s.t) d s.t (rom W s.t) = n at *
    unfold itr bit
    unfold itr at hg
    simp only [if_pos hk] at hg ⊢
    by_cases hn : n = rom W s.t
    · simp only [if_pos hn] at hg
      have hG : ∀ i, i < n → g (s.t + i) = nA T W s.b s.t := by
        intro i hi
        have := hg (s.t + i) (by omega) (show s.t + i < s.t + n by omega)
        rw [this]
        exact fil_in _ _ _ _ _ (by omega) (by omega)
      have hR : rnl g (nA T W s.b s.t) d s.t (rom W s.t) = n := rnl_is _ _ _ _ _ _ hl (fun i hi => by rw [hG i hi]; exact (nea_iff _ _ _).2 (by omega)) (by omega)
      rw [hR]
      simp only [if_pos hn]
      exact ⟨trivial, fun _ => trivial⟩
    · simp only [if_neg hn] at hg
      have hG : ∀ i, i < n → g (s.t + i) = nA T W s.b s.t := by
        intro i hi
        have := hg (s.t + i) (by omega) (show s.t + i < s.t + n + 1 by omega)
        rw [this]
        show fil (fil _ _ _ _) (s.t + n) 1 _ (s.t + i) = _
        rw [fil_same _ _ _ _ _ (by omega)]
        exact fil_in _ _ _ _ _ (by omega) (by omega)
      have hv := hg (s.t + n) (by omega) (show s.t + n < s.t + n + 1 by omega)
      have hv2 : g (s.t + n) = gro T d (nA T W s.b s.t) (xs T d W s * shr T d (xs T d W s * (f (s.t + n) - nA T W s.b s.t))) := by
        rw [hv]; exact fil_in _ _ _ _ _ (by show s.t + n ≤ _; omega) (by show s.t + n < s.t + n + 1; omega)
      have ho := xs_zero T d W s hk
      have hne : ¬ (f (s.t + n) - nA T W s.b s.t ≤ d ∧ nA T W s.b s.t - f (s.t + n) ≤ d) := by intro hh; have := he (by omega); rw [(nea_iff _ _ _).2 hh] at this; cases this
      have hfar := far_all T d (f (s.t + n)) (nA T W s.b s.t) G ha.1 ha.2 (hf _).1 (hf _).2 (by omega)
      have hna := near_all T d (f (s.t + n)) (nA T W s.b s.t) (xs T d W s) G (xs_one ..) ha.1 ha.2 (hf _).1 (hf _).2
      simp only at hna
      have hR : rnl g (nA T W s.b s.t) d s.t (rom W s.t) = n := by
        refine rnl_is _ _ _ _ _ _ hl (fun i hi => by rw [hG i hi]; exact (nea_iff _ _ _).2 (by omega)) (fun _ => ?_)
        rw [hv2, ho, Int.one_mul, Int.one_mul]
        unfold nea
        rw [decide_eq_false]
        omega
      rw [hR]
      have hq : shr T d (xs T d W s * (g (s.t + n) - nA T W s.b s.t)) = shr T d (xs T d W s * (f (s.t + n) - nA T W s.b s.t)) := by
        rw [hv2]; exact hna.2.2.2.2.1
      rw [hq]
      exact ⟨rfl, fun _ => rfl⟩
  · have e : cE T d W f s = (0, shr T d (xs T d W s * (f s.t - xp T d W s))) := by unfold cE; rw [if_neg hk]
    have e2 : cE T d W g s = (0, shr T d (xs T d W s * (g s.t - xp T d W s))) := by unfold cE; rw [if_neg hk]
    rw [e] at hg
    rw [e, e2]
    unfold itr at hg
    rw [if_neg hk] at hg
    have hna := near_all T d (f s.t) (xp T d W s) (xs T d W s) G (xs_one ..) (xp_in G h hW).1 (xp_in G h hW).2 (hf _).1 (hf _).2
    simp only at hna
    have hv := hg s.t (by omega) (show s.t < s.t + 1 by omega)
    have hv2 : g s.t = gro T d (xp T d W s) (xs T d W s * shr T d (xs T d W s * (f s.t - xp T d W s))) := by
      rw [hv]; exact fil_in _ _ _ _ _ (by omega) (by omega)
    rw [hv2, hna.2.2.2.2.1]
    exact ⟨rfl, fun _ => rfl⟩

/-- The rounds. -/
def stp (T d : Int) (W : Nat) (c : Wk → Nat × Int) (s : Wk) : Nat → Wk
  | 0 => s
  | j + 1 => itr T d W (stp T d W c s j) (c (stp T d W c s j))
def wrt (T d : Int) (W : Nat) (c : Wk → Nat × Int) (s : Wk) : Nat → Nat × Nat
  | 0 => (1, 8)
  | j + 1 => bit T d W (stp T d W c s j) (c (stp T d W c s j)) (wrt T d W c s j)
theorem stp_in {T d : Int} (G : Gd T d) {W : Nat} {s : Wk} (c : Wk → Nat × Int) (h : s.In T) (hW : 1 ≤ W) (j : Nat) : (stp T d W c s j).In T := by
  induction j with
  | zero => exact h
  | succ j ih => exact itr_in G ih hW _
theorem stp_old {T d : Int} {W : Nat} {s : Wk} (c : Wk → Nat × Int) (hW : 1 ≤ W) (i j : Nat) (hij : i ≤ j) (p : Nat) (hp : p < (stp T d W c s i).t) : (stp T d W c s j).b p = (stp T d W c s i).b p ∧ p < (stp T d W c s j).t := by
  induction j with
  | zero => obtain rfl : i = 0 := by omega
            exact ⟨rfl, hp⟩
  | succ j ih =>
    by_cases e : i = j + 1
    · subst e; exact ⟨rfl, hp⟩
    · obtain ⟨h1, h2⟩ := ih (by omega)
      have h3 := itr_lt (T := T) (d := d) (s := stp T d W c s j) hW (c (stp T d W c s j))
      exact ⟨(itr_old _ p h2).trans h1, Nat.lt_trans h2 h3⟩
theorem stp_lt {T d : Int} {W : Nat} {s : Wk} (c : Wk → Nat × Int) (hW : 1 ≤ W) (i j : Nat) (hij : i < j) : (stp T d W c s i).t < (stp T d W c s j).t := by
  induction j with
  | zero => omega
  | succ j ih =>
    have h3 := itr_lt (T := T) (d := d) (s := stp T d W c s j) hW (c (stp T d W c s j))
    have h3 : (stp T d W c s j).t < (stp T d W c s (j + 1)).t := h3
    by_cases e : i = j
    · subst e; exact h3
    · have := ih (by omega); omega
theorem stp_ge {T d : Int} {W : Nat} {s : Wk} (c : Wk → Nat × Int) (hW : 1 ≤ W) (j : Nat) : j ≤ (stp T d W c s j).t := by
  induction j with
  | zero => omega
  | succ j ih => have := stp_lt (T := T) (d := d) (s := s) c hW j (j + 1) (by omega); omega

/-- P10.2, of the walk alone. -/
theorem stp_again {T d : Int} (G : Gd T d) {W : Nat} {f g : Nat → Int} {s : Wk} (h : s.In T) (hW : 1 ≤ W) (hf : ∀ i, 0 ≤ f i ∧ f i ≤ T) (J : Nat)
    (hg : ∀ i, i < (stp T d W (cE T d W f) s J).t → g i = (stp T d W (cE T d W f) s J).b i) (j : Nat) (hj : j ≤ J) :
    stp T d W (cE T d W g) s j = stp T d W (cE T d W f) s j ∧ wrt T d W (cE T d W g) s j = wrt T d W (cE T d W f) s j := by
  induction j with
  | zero => exact ⟨rfl, rfl⟩
  | succ j ih =>
    obtain ⟨e1, e2⟩ := ih (by omega)
    have hin := stp_in G (cE T d W f) h hW j
    have := itr_again (g := g) G hin hW hf (fun i _ h2 => by
      have := stp_old (T := T) (d := d) (s := s) (cE T d W f) hW (j + 1) J hj i h2
      rw [hg i this.2, this.1]; rfl)
    constructor
    · show itr _ _ _ (stp T d W (cE T d W g) s j) _ = _
      rw [e1]; exact this.1
    · show bit _ _ _ (stp T d W (cE T d W g) s j) _ _ = _
      rw [e1, e2]; exact this.2 _
/-- P10.1, of the walk alone. -/
theorem stp_near {T d : Int} (G : Gd T d) {W : Nat} {f : Nat → Int} {s : Wk} (h : s.In T) (hW : 1 ≤ W) (hf : ∀ i, 0 ≤ f i ∧ f i ≤ T) (h0 : s.t = 0) (j : Nat) (i : Nat) (hi : i < (stp T d W (cE T d W f) s j).t) :
    -d ≤ (stp T d W (cE T d W f) s j).b i - f i ∧ (stp T d W (cE T d W f) s j).b i - f i ≤ d := by
  induction j with
  | zero => have : i < s.t := hi
            omega
  | succ j ih =>
    by_cases hc : i < (stp T d W (cE T d W f) s j).t
    · have := stp_old (T := T) (d := d) (s := s) (cE T d W f) hW j (j + 1) (by omega) i hc
      rw [this.1]; exact ih hc
    · exact itr_near G (stp_in G _ h hW j) hW hf i (by omega) hi
end Go.Proofs.YthhegomjipbdbaaGreatDoor

namespace Go.Proofs.YthhegomjipbdbaaGreatDoor
open Go.RowKit

theorem ne_ty {w : World} {a b t u : Nat} {x y : Array Value} {p q : Nat × Nat} (h1 : w.heap[a]? = some (.cells x t p)) (h2 : w.heap[b]? = some (.cells y u q)) (h : t ≠ u) : a ≠ b := by
  rintro rfl
  rw [h1] at h2
  simp at h2
  exact h h2.2.1

/-- The six cells of a walk. -/
abbrev wc (W : Nat) (D : Int) (P X G n : Nat) (t : Int) (ext : List Value) : List Value :=
  [.int .i64 (W : Int), .int .i64 D, .pointer (some ⟨P, 0, none⟩), .pointer (some ⟨X, 0, none⟩), .slice (some ⟨G, 0, none⟩) n n, .int .i64 t] ++ ext

/-- A walk in memory. -/
structure Wm (w : World) (B P X G ty : Nat) (T d D : Int) (W n : Nat) (ext : List Value) (s : Wk) : Prop where
  blk : w.heap[B]? = some (.cells (wc W D P X G n (s.t : Int) ext).toArray ty (0, 0))
  md : Md w P T d s.L
  co : CoderAt w X s.r
  row : ∃ cs : List Value, w.heap[G]? = some (.cells cs.toArray 93 (0, 0)) ∧ cs.length = n ∧ ∀ i, i < s.t → cs[i]? = some (.int .u16 (s.b i))
  ty : ty = 173 ∨ ty = 98764

theorem Wm.ne {w : World} {B P X G ty : Nat} {T d D : Int} {W n : Nat} {ext : List Value} {s : Wk} (h : Wm w B P X G ty T d D W n ext s) : B ≠ P ∧ B ≠ X ∧ B ≠ G ∧ P ≠ X ∧ P ≠ G ∧ X ≠ G := by
  obtain ⟨cs, hr, _⟩ := h.row
  obtain ⟨ps, hp, _⟩ := h.md.blk
  have hx := h.co.1
  have ht := h.ty
  exact ⟨ne_ty h.blk hp (by omega), ne_ty h.blk hx (by omega), ne_ty h.blk hr (by omega), ne_ty hp hx (by omega), ne_ty hp hr (by omega), ne_ty hx hr (by omega)⟩

theorem Wm.keep {w w' : World} {B P X G ty : Nat} {T d D : Int} {W n : Nat} {ext : List Value} {s : Wk} {ks : List Nat} (h : Wm w B P X G ty T d D W n ext s) (hk : Kept ks w w') (h0 : B ∉ ks ∧ P ∉ ks ∧ X ∉ ks ∧ G ∉ ks) : Wm w' B P X G ty T d D W n ext s := by
  obtain ⟨cs, hr, hl, hc⟩ := h.row
  exact ⟨hk.heap h.blk h0.1, h.md.keep hk h0.2.1, h.co.kept hk h0.2.2.1, ⟨cs, hk.heap hr h0.2.2.2, hl, hc⟩, h.ty⟩
theorem Wm.drewN {w : World} {B P X G ty : Nat} {T d D : Int} {W n : Nat} {ext : List Value} {s : Wk} (h : Wm w B P X G ty T d D W n ext s) (q : Nat) : Wm (w.drewN q) B P X G ty T d D W n ext s := h.keep ((Kept.refl [] w).drewN q) (by simp)

/-- The cells as facts. -/
structure Wf (w : World) (B P X G : Nat) (D : Int) (W n : Nat) (t : Int) : Prop where
  c0 : w.cell? ⟨B, 0, none⟩ = some (.int .i64 (W : Int))
  c1 : w.cell? ⟨B, 1, none⟩ = some (.int .i64 D)
  c2 : w.cell? ⟨B, 2, none⟩ = some (.pointer (some ⟨P, 0, none⟩))
  c3 : w.cell? ⟨B, 3, none⟩ = some (.pointer (some ⟨X, 0, none⟩))
  c4 : w.cell? ⟨B, 4, none⟩ = some (.slice (some ⟨G, 0, none⟩) n n)
  c5 : w.cell? ⟨B, 5, none⟩ = some (.int .i64 t)
  fz : ∀ i, w.frozen? ⟨B, i, none⟩ = false

theorem Wm.fact {w : World} {B P X G ty : Nat} {T d D : Int} {W n : Nat} {ext : List Value} {s : Wk} (h : Wm w B P X G ty T d D W n ext s) : Wf w B P X G D W n (s.t : Int) := by
  have hb := h.blk
  refine ⟨?_, ?_, ?_, ?_, ?_, ?_, ?_⟩ <;> simp [World.cell?, World.frozen?, hb]
theorem Wm.cel {w : World} {B P X G ty : Nat} {T d D : Int} {W n : Nat} {ext : List Value} {s : Wk} (h : Wm w B P X G ty T d D W n ext s) (i : Nat) (hi : i < s.t) : w.cell? ⟨G, i, none⟩ = some (.int .u16 (s.b i)) := by
  obtain ⟨cs, hr, hl, hc⟩ := h.row
  rw [cell_of_row _ _ _ _ _ _ hr]
  simpa using hc i hi
theorem Wm.any {w : World} {B P X G ty : Nat} {T d D : Int} {W n : Nat} {ext : List Value} {s : Wk} (h : Wm w B P X G ty T d D W n ext s) (i : Nat) (hi : i < n) : (∃ u, w.cell? ⟨G, i, none⟩ = some u) ∧ w.frozen? ⟨G, i, none⟩ = false := by
  obtain ⟨cs, hr, hl, hc⟩ := h.row
  exact ⟨row_cell_at hr (by omega), by simp [World.frozen?, hr]⟩

/-- One sample more. -/
theorem Wm.put {w : World} {B P X G ty : Nat} {T d D : Int} {W n : Nat} {ext : List Value} {s : Wk} (h : Wm w B P X G ty T d D W n ext s) (ht : s.t < n) (v : Int) (b' : Nat → Int) (hb : ∀ i, i < s.t → b' i = s.b i) (hv : b' s.t = v) :
    Wm ((w.setCell ⟨G, s.t, none⟩ (.int .u16 v)).setCell ⟨B, 5, none⟩ (.int .i64 ((s.t + 1 : Nat) : Int))) B P X G ty T d D W n ext ⟨s.L, s.r, b', s.t + 1⟩ := by
  obtain ⟨n1, n2, n3, n4, n5, n6⟩ := h.ne
  have k1 : Kept [G] w (w.setCell ⟨G, s.t, none⟩ (.int .u16 v)) := (Kept.refl _ _).setCell (by simp) _
  have k2 : Kept [B] (w.setCell ⟨G, s.t, none⟩ (.int .u16 v)) ((w.setCell ⟨G, s.t, none⟩ (.int .u16 v)).setCell ⟨B, 5, none⟩ (.int .i64 ((s.t + 1 : Nat) : Int))) := (Kept.refl _ _).setCell (by simp) _
  have k : Kept [B, G] w ((w.setCell ⟨G, s.t, none⟩ (.int .u16 v)).setCell ⟨B, 5, none⟩ (.int .i64 ((s.t + 1 : Nat) : Int))) := (k1.mono (l2 := [B, G]) (by simp)).step k2 (by simp)
  obtain ⟨cs, hr, hl, hc⟩ := h.row
  refine ⟨?_, h.md.keep k (by simp; omega), h.co.kept k (by simp; omega), ⟨cs.set s.t (.int .u16 v), ?_, by simpa using hl, ?_⟩, h.ty⟩
  · rw [heap_setCell_at (k1.heap h.blk (by simp; omega))]
    simp [wc]
  · refine k2.heap ?_ (by simp; omega)
    rw [heap_setCell_at hr]
    simp
  · intro i hi
    have hi : i < s.t + 1 := hi
    show _ = some (Value.int .u16 (b' i))
    rw [List.getElem?_set]
    by_cases e : s.t = i
    · subst e; rw [if_pos rfl, if_pos (by omega), hv]
    · rw [if_neg e, hb i (by omega)]; exact hc i (by omega)

theorem u16_in {v : Int} (h0 : 0 ≤ v) (h1 : v ≤ 65535) : IntKind.u16.wrap v = v := by
  simp only [IntKind.wrap, IntKind.bits, IntKind.signed]; simp; omega

set_option maxHeartbeats 4000000 in
set_option maxRecDepth 1000000 in
theorem fill_any (B P X G ty : Nat) (T d D : Int) (W n : Nat) (ext : List Value) (s : Wk) (m v : Int) (w : World) (h : Wm w B P X G ty T d D W n ext s) (m0 : 0 ≤ m) (hm : s.t + m.toNat ≤ n) (hn : n ≤ 4194304) (v0 : 0 ≤ v) (v1 : v ≤ 65535) :
    Calls Tryz.prog 146 #[.pointer (some ⟨B, 0, none⟩), .int .i64 m, .int .i64 v] w fun e w' => e = .returned (.tuple #[]) ∧ Wm w' B P X G ty T d D W n ext ⟨s.L, s.r, fil s.b s.t m.toNat v, s.t + m.toNat⟩ ∧ Kept [B, G] w w' := by
  have hv := u16_in v0 v1
  have HW := Hid.mk h
  clear h
  obtain ⟨M, rfl⟩ := Int.eq_ofNat_of_zero_le m0
  rw [Int.toNat_natCast] at hm ⊢
  have hm' : M ≤ 4194304 := by omega
  go_enter Tryz.func146, Tryz.ntmps146
  go_wp2
  go_loopw [7] (fun i wr => ∃ k : Nat, k ≤ M ∧ i = .int .i64 (k : Int) ∧ Wm wr B P X G ty T d D W n ext ⟨s.L, s.r, fil s.b s.t k v, s.t + k⟩ ∧ Kept [B, G] w wr) (fun i _ => M - (intOf i).toNat)
  case atStart => exact ⟨0, by omega, rfl, by have := HW.out; obtain ⟨a, b, c, ⟨cs, x, y, z⟩, e⟩ := this; exact ⟨a, b, c, ⟨cs, x, y, fun i hi => by rw [z i hi]; show _ = some (Value.int .u16 (fil _ _ _ _ i)); rw [fil_same _ _ _ _ _ (by simpa using hi)]⟩, e⟩, Kept.refl _ _⟩
  case round =>
    obtain ⟨k, hk, rfl, hw, hkk⟩ := hrel
    have F := hw.fact
    have HK := Hid.mk hkk
    have Hw := Hid.mk hw
    have hne := hw.ne
    by_cases hlt : k < M
    · obtain ⟨⟨u, hu⟩, hf⟩ := hw.any (s.t + k) (by omega)
      obtain ⟨-, -, -, -, c4, c5, fz⟩ := F
      have c5 : wr.cell? ⟨B, 5, none⟩ = some (.int .i64 ((s.t : Int) + k)) := c5
      have f5 := fz 5
      have hBG : ¬ B = G := by omega
      have hGB : ¬ G = B := by omega
      have ix : (s.t : Int) + k < n := by omega
      have ix0 : (0 : Int) ≤ (s.t : Int) + k := by omega
      have et : ((s.t : Int) + k).toNat = s.t + k := by omega
      have hu : wr.cell? ⟨G, ((s.t : Int) + k).toNat, none⟩ = some u := by rw [et]; exact hu
      have hf : wr.frozen? ⟨G, ((s.t : Int) + k).toNat, none⟩ = false := by rw [et]; exact hf
      have ET := Hid.mk et
      clear hw hkk fz hne et hm
      go_wp2
      go_region_law (fail)
      all_goals
        obtain ⟨w2, hw2, e5, g5, HW2⟩ : ∃ w2, (wr.setCell ⟨G, ((s.t : Int) + k).toNat, none⟩ (.int .u16 v)).drew = w2 ∧ w2.cell? ⟨B, 5, none⟩ = some (.int .i64 ((s.t : Int) + k)) ∧ w2.frozen? ⟨B, 5, none⟩ = false ∧ Hid (w2 = (wr.setCell ⟨G, s.t + k, none⟩ (.int .u16 v)).drew) := ⟨_, rfl, by
          show (World.setCell _ _ _).cell? _ = _
          rw [World.cell?_setCell_other _ _ _ _ (by simp <;> omega)]; exact c5, by simpa [go_sem] using f5, by rw [ET.out]; exact Hid.mk rfl⟩
        rw [hw2]
        clear hw2
        go_wp2
        go_roundw
        case rel =>
          have hp := Hw.out.put (by show s.t + k < n; omega) v (fil s.b s.t (k + 1) v) (fun i hi => by
            have hi : i < s.t + k := hi
            show fil _ _ _ _ i = fil _ _ _ _ i
            unfold fil
            by_cases hc : s.t ≤ i
            · rw [if_pos ⟨hc, by omega⟩, if_pos ⟨hc, hi⟩]
            · rw [if_neg (by omega), if_neg (by omega)]) (fil_in _ _ _ _ _ (by show s.t ≤ s.t + k; omega) (by show s.t + k < _; omega))
          have e : ((s.t : Int) + k + 1) = ((s.t + k + 1 : Nat) : Int) := by omega
          refine ⟨k + 1, by omega, by go_num, ?_, ?_⟩
          · rw [HW2.out, e]
            exact hp.keep (ks := []) ((Kept.refl [] _).drewN 1) (by simp)
          · rw [HW2.out]
            exact ((HK.out.setCell (p := ⟨G, s.t + k, none⟩) (by simp) _).drew).setCell (p := ⟨B, 5, none⟩) (by simp) _
        case measure => simp [intOf]; omega
    · obtain rfl : M = k := by omega
      go_wp2
      go_end0
      exact ⟨rfl, Hw.out, HK.out⟩
end Go.Proofs.YthhegomjipbdbaaGreatDoor

namespace Go.Proofs.YthhegomjipbdbaaGreatDoor
open Go.RowKit

/-- What a depth's greatest sample is. -/
def Dp (D T : Int) : Prop := (D = 10 ∧ T = 1023) ∨ (D = 12 ∧ T = 4095)
theorem Dp.mid {D T : Int} (h : Dp D T) : wrap64 (2 ^ (D.toNat - 1)) = (T + 1) / 2 ∧ 0 ≤ D ∧ D ≤ 12 ∧ 0 ≤ D - 1 := by
  rcases h with ⟨rfl, rfl⟩ | ⟨rfl, rfl⟩
  · exact ⟨by rw [show (Int.toNat 10 - 1) = 9 from rfl]; unfold wrap64; omega, by decide, by decide, by decide⟩
  · exact ⟨by rw [show (Int.toNat 12 - 1) = 11 from rfl]; unfold wrap64; omega, by decide, by decide, by decide⟩

theorem results_tmp4' {fn : Func} {t u v x : Tmp} (h : fn.results = #[.tmp t, .tmp u, .tmp v, .tmp x]) (tmps : Array Value) (P : Program) (w : World) :
    (results fn tmps).run P w = .ok (.tuple #[tmps.getD t undef, tmps.getD u undef, tmps.getD v undef, tmps.getD x undef]) w := by
  simp [results, h]

set_option maxHeartbeats 4000000 in
set_option maxRecDepth 1000000 in
theorem left_first (B P X G ty : Nat) (T d D : Int) (W n : Nat) (ext : List Value) (s : Wk) (w : World) (h : Wm w B P X G ty T d D W n ext s) (hD : Dp D T) (hn : n ≤ 4194304) (ht : s.t < n) (hW : s.t < W) (hb : ∀ i, i < s.t → 0 ≤ s.b i ∧ s.b i ≤ 4095) :
    Calls Tryz.prog 180 #[.pointer (some ⟨B, 0, none⟩)] w fun e w' => e = .returned (.int .i64 (nA T W s.b s.t)) ∧ ∃ m, w' = w.drewN m := by
  obtain ⟨c0, c1, c2, c3, c4, c5, fz⟩ := h.fact
  obtain ⟨hm, d0, d1, d2⟩ := hD.mid
  unfold nA
  rw [if_pos hW]
  by_cases h0 : s.t = 0
  · rw [if_pos h0]
    rw [h0] at c5
    have c5 : w.cell? ⟨B, 5, none⟩ = some (.int .i64 0) := c5
    obtain ⟨R, hR⟩ : ∃ R, (T + 1) / 2 = R := ⟨_, rfl⟩
    rw [hR] at hm ⊢
    clear h hn ht hW hb hD fz hR h0
    go_enter Tryz.func180, Tryz.ntmps180
    go_wp2
    go_ret
    exact ⟨ret_int hm, 0, rfl⟩
  · rw [if_neg h0]
    have hc := h.cel (s.t - 1) (by omega)
    have hb := hb (s.t - 1) (by omega)
    generalize s.b (s.t - 1) = v at *
    obtain ⟨t, ht'⟩ : ∃ t, s.t = t + 1 := ⟨s.t - 1, by omega⟩
    rw [ht'] at c5 hc
    have c5 : w.cell? ⟨B, 5, none⟩ = some (.int .i64 ((t : Int) + 1)) := c5
    have hc : w.cell? ⟨G, t, none⟩ = some (.int .u16 v) := hc
    have ix : (t : Int) < n := by omega
    have hv : IntKind.i64.wrap v = v := wrap_i (by omega) (by omega)
    clear h hW hD fz h0 hm
    go_enter Tryz.func180, Tryz.ntmps180
    go_wp2
    go_quiet (fail)
    go_wp2
    go_ret
    exact ⟨rfl, _, rfl⟩

set_option maxHeartbeats 4000000 in
set_option maxRecDepth 1000000 in
theorem room_any (B P X G ty : Nat) (T d D : Int) (W n : Nat) (ext : List Value) (s : Wk) (w : World) (h : Wm w B P X G ty T d D W n ext s) (hW : 1 ≤ W) (hW2 : W ≤ 4096) :
    Calls Tryz.prog 145 #[.pointer (some ⟨B, 0, none⟩)] w fun e w' => e = .returned (.int .i64 ((rom W s.t : Nat) : Int)) ∧ ∃ m, w' = w.drewN m := by
  obtain ⟨c0, c1, c2, c3, c4, c5, fz⟩ := h.fact
  have h1 := Nat.mod_lt s.t (show 0 < W by omega)
  obtain ⟨x, hx⟩ : ∃ x, s.t % W = x := ⟨_, rfl⟩
  have hR : (rom W s.t : Int) = (W : Int) - x := by unfold rom; omega
  rw [hR]
  have hm : (s.t : Int) % (W : Int) = (x : Int) := by rw [← hx]; simp
  have hz : ¬ (W : Int) = 0 := by omega
  have z1 : (0 : Int) ≤ (s.t : Int) := by omega
  have z2 : (0 : Int) < (W : Int) := by omega
  have hw : wrap64 ((W : Int) - x) = (W : Int) - x := w64_in (by omega) (by omega)
  clear h fz hR hx
  go_enter Tryz.func145, Tryz.ntmps145
  go_wp2
  go_quiet (fail)
  go_wp2
  go_ret
  exact ⟨rfl, _, rfl⟩

set_option maxHeartbeats 4000000 in
set_option maxRecDepth 1000000 in
theorem neigh_any (B P X G ty : Nat) (T d D : Int) (W n : Nat) (ext : List Value) (s : Wk) (w : World) (h : Wm w B P X G ty T d D W n ext s) (hD : Dp D T) (hn : n ≤ 4194304) (ht : s.t < n) (hW : 1 ≤ W) (hW2 : W ≤ 4096) (hb : ∀ i, i < s.t → 0 ≤ s.b i ∧ s.b i ≤ 4095) :
    Calls Tryz.prog 163 #[.pointer (some ⟨B, 0, none⟩)] w fun e w' => e = .returned (.tuple #[.int .i64 (nA T W s.b s.t), .int .i64 (nB T W s.b s.t), .int .i64 (nC T W s.b s.t), .int .i64 (nE T W s.b s.t)]) ∧ ∃ m, w' = w.drewN m := by
  obtain ⟨c0, c1, c2, c3, c4, c5, fz⟩ := h.fact
  have h1 := Nat.mod_lt s.t (show 0 < W by omega)
  by_cases hc : s.t < W
  · have C := Hid.mk (fun q => left_first B P X G ty T d D W n ext s (w.drewN q) (h.drewN q) hD hn ht hc hb)
    have eB : nB T W s.b s.t = nA T W s.b s.t := if_pos hc
    have eC : nC T W s.b s.t = nA T W s.b s.t := if_pos hc
    have eE : nE T W s.b s.t = nA T W s.b s.t := if_pos hc
    rw [eB, eC, eE]
    generalize nA T W s.b s.t = a at *
    have hc' : (s.t : Int) < (W : Int) := by omega
    clear h hb eB eC eE fz
    go_enter Tryz.func163, Tryz.ntmps163
    go_wp2
    go_quiet (fail)
    go_wp2_with (go_at_call 180; refine (C.out _).mono ?_; rintro e w' ⟨rfl, m, rfl⟩)
    (try simp only [Exit.inBlock, Exit.then]); refine bodyPost_ret (results_tmp4' rfl _ _ _) rfl ?_
    exact ⟨rfl, _, rfl⟩
  · have hc' : ¬ (s.t : Int) < (W : Int) := by omega
    obtain ⟨U, hU⟩ : ∃ U, s.t = U + W := ⟨s.t - W, by omega⟩
    have hx1 : s.t % W = U % W := by rw [hU]; simp
    have hU1 : (s.t : Int) - (W : Int) = (U : Int) := by omega
    obtain ⟨x, hx⟩ : ∃ x, s.t % W = x := ⟨_, rfl⟩
    have hm : (s.t : Int) % (W : Int) = (x : Int) := by rw [← hx]; simp
    have hz : ¬ (W : Int) = 0 := by omega
    have z1 : (0 : Int) ≤ (s.t : Int) := by omega
    have z2 : (0 : Int) < (W : Int) := by omega
    have hb0 := h.cel U (by omega)
    have eB : nB T W s.b s.t = s.b U := by unfold nB; rw [if_neg hc, show s.t - W = U by omega]
    have v0 := hb U (by omega)
    have w0 : IntKind.i64.wrap (s.b U) = s.b U := wrap_i (by omega) (by omega)
    have ixU : (U : Int) < n := by omega
    have hWx : wrap64 ((W : Int) - 1) = (W : Int) - 1 := w64_in (by omega) (by omega)
    rw [eB]
    by_cases hx0 : 0 < x
    · have hx0' : (0 : Int) < (x : Int) := by omega
      have hUp : 0 < U := by
        rcases Nat.eq_zero_or_pos U with h | h
        · rw [h] at hx1; simp at hx1; omega
        · exact h
      obtain ⟨t1, ht1⟩ : ∃ t1, s.t = t1 + 1 := ⟨s.t - 1, by omega⟩
      obtain ⟨U1, hU2⟩ : ∃ U1, U = U1 + 1 := ⟨U - 1, by omega⟩
      have g1 : (s.t : Int) - 1 = (t1 : Int) := by omega
      have g2 : (U : Int) - 1 = (U1 : Int) := by omega
      have hb1 := h.cel t1 (by omega)
      have hb2 := h.cel U1 (by omega)
      have v1 := hb t1 (by omega)
      have v2 := hb U1 (by omega)
      have w1 : IntKind.i64.wrap (s.b t1) = s.b t1 := wrap_i (by omega) (by omega)
      have w2 : IntKind.i64.wrap (s.b U1) = s.b U1 := wrap_i (by omega) (by omega)
      have ix1 : (t1 : Int) < n := by omega
      have ix2 : (U1 : Int) < n := by omega
      have eA : nA T W s.b s.t = s.b t1 := by unfold nA; rw [if_neg hc, if_pos (by omega), show s.t - 1 = t1 by omega]
      have eC : nC T W s.b s.t = s.b U1 := by unfold nC; rw [if_neg hc, if_pos (by omega), show s.t - W - 1 = U1 by omega]
      rw [eA, eC]
      by_cases hr : x + 1 < W
      · have hr' : (x : Int) < (W : Int) - 1 := by omega
        have hb3 := h.cel (U + 1) (by omega)
        have v3 := hb (U + 1) (by omega)
        have w3 : IntKind.i64.wrap (s.b (U + 1)) = s.b (U + 1) := wrap_i (by omega) (by omega)
        have ix3 : (U : Int) + 1 < n := by omega
        have eE : nE T W s.b s.t = s.b (U + 1) := by unfold nE; rw [if_neg hc, if_pos (by omega), show s.t - W + 1 = U + 1 by omega]
        rw [eE]
        generalize s.b (U + 1) = y3 at *
        generalize s.b U1 = y2 at *
        generalize s.b t1 = y1 at *
        generalize s.b U = y0 at *
        clear h hb eA eB eC eE fz hx hx1 hU hU2 ht1 h1
        go_enter Tryz.func163, Tryz.ntmps163
        go_wp2
        go_quiet (fail)
        go_wp2
        go_quiet (fail)
        go_wp2
        go_quiet (fail)
        go_wp2
        (try simp only [Exit.inBlock, Exit.then]); refine bodyPost_ret (results_tmp4' rfl _ _ _) rfl ?_
        exact ⟨rfl, _, rfl⟩
      · have hr' : ¬ (x : Int) < (W : Int) - 1 := by omega
        have eE : nE T W s.b s.t = s.b U := by unfold nE; rw [if_neg hc, if_neg (by omega), show s.t - W = U by omega]
        rw [eE]
        generalize s.b U1 = y2 at *
        generalize s.b t1 = y1 at *
        generalize s.b U = y0 at *
        clear h hb eA eB eC eE fz hx hx1 hU hU2 ht1 h1
        go_enter Tryz.func163, Tryz.ntmps163
        go_wp2
        go_quiet (fail)
        go_wp2
        go_quiet (fail)
        go_wp2
        go_quiet (fail)
        go_wp2
        (try simp only [Exit.inBlock, Exit.then]); refine bodyPost_ret (results_tmp4' rfl _ _ _) rfl ?_
        exact ⟨rfl, _, rfl⟩
    · have hx0' : ¬ (0 : Int) < (x : Int) := by omega
      have eA : nA T W s.b s.t = s.b U := by unfold nA; rw [if_neg hc, if_neg (by omega), show s.t - W = U by omega]
      have eC : nC T W s.b s.t = s.b U := by unfold nC; rw [if_neg hc, if_neg (by omega), show s.t - W = U by omega]
      rw [eA, eC]
      by_cases hr : x + 1 < W
      · have hr' : (x : Int) < (W : Int) - 1 := by omega
        have hb3 := h.cel (U + 1) (by omega)
        have v3 := hb (U + 1) (by omega)
        have w3 : IntKind.i64.wrap (s.b (U + 1)) = s.b (U + 1) := wrap_i (by omega) (by omega)
        have ix3 : (U : Int) + 1 < n := by omega
        have eE : nE T W s.b s.t = s.b (U + 1) := by unfold nE; rw [if_neg hc, if_pos (by omega), show s.t - W + 1 = U + 1 by omega]
        rw [eE]
        generalize s.b (U + 1) = y3 at *
        generalize s.b U = y0 at *
        clear h hb eA eB eC eE fz hx hx1 hU h1
        go_enter Tryz.func163, Tryz.ntmps163
        go_wp2
        go_quiet (fail)
        go_wp2
        go_quiet (fail)
        go_wp2
        (try simp only [Exit.inBlock, Exit.then]); refine bodyPost_ret (results_tmp4' rfl _ _ _) rfl ?_
        exact ⟨rfl, _, rfl⟩
      · have hr' : ¬ (x : Int) < (W : Int) - 1 := by omega
        have eE : nE T W s.b s.t = s.b U := by unfold nE; rw [if_neg hc, if_neg (by omega), show s.t - W = U by omega]
        rw [eE]
        generalize s.b U = y0 at *
        clear h hb eA eB eC eE fz hx hx1 hU h1
        go_enter Tryz.func163, Tryz.ntmps163
        go_wp2
        go_quiet (fail)
        go_wp2
        go_quiet (fail)
        go_wp2
        (try simp only [Exit.inBlock, Exit.then]); refine bodyPost_ret (results_tmp4' rfl _ _ _) rfl ?_
        exact ⟨rfl, _, rfl⟩
end Go.Proofs.YthhegomjipbdbaaGreatDoor
