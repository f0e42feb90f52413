import Derived.Test.YthkpligodbkofaaGreatDoorG7Z
import Derived.Test.YthkpligodbkofaaGreatDoormB1Z
import Derived.Test.YthkpligodbkofaaGreatDoormW1
namespace Go.Proofs.YthkpligodbkofaaGreatDoor
open Go.RowKit

theorem bitLen_up (x : Nat) (h : x < 4096) : x < 2 ^ Lib.bitLen x := by
  have h1 := bl_le x h
  have h2 := bl_iff x (Lib.bitLen x) h (by omega)
  omega

/-- A walk's state: what the contexts have learnt, the rate, what came back, how far it is. -/
structure Wk where
  L : Nat → Sx
  r : Nat
  b : Nat → Int
  t : Nat

/-- The neighbours. -/
def nA (T : Int) (W : Nat) (b : Nat → Int) (t : Nat) : Int := if t < W then (if t = 0 then (T + 1) / 2 else b (t - 1)) else if 0 < t % W then b (t - 1) else b (t - W)
def nB (T : Int) (W : Nat) (b : Nat → Int) (t : Nat) : Int := if t < W then nA T W b t else b (t - W)
def nC (T : Int) (W : Nat) (b : Nat → Int) (t : Nat) : Int := if t < W then nA T W b t else if 0 < t % W then b (t - W - 1) else b (t - W)
def nE (T : Int) (W : Nat) (b : Nat → Int) (t : Nat) : Int := if t < W then nA T W b t else if t % W + 1 < W then b (t - W + 1) else b (t - W)
/-- The context, the sign, the guess. -/
def xk (T d : Int) (W : Nat) (s : Wk) : Int := fc T d (nA T W s.b s.t) (nB T W s.b s.t) (nC T W s.b s.t) (nE T W s.b s.t)
def xs (T d : Int) (W : Nat) (s : Wk) : Int := fs T d (nA T W s.b s.t) (nB T W s.b s.t) (nC T W s.b s.t) (nE T W s.b s.t)
def xp (T d : Int) (W : Nat) (s : Wk) : Int := if xk T d W s = 0 then nA T W s.b s.t else gs T s.L (xk T d W s) (xs T d W s) (nA T W s.b s.t) (nB T W s.b s.t) (nC T W s.b s.t)
/-- How many samples are left in the row. -/
def rom (W t : Nat) : Nat := W - t % W
def fil (b : Nat → Int) (t n : Nat) (v : Int) : Nat → Int := fun i => if t ≤ i ∧ i < t + n then v else b i
def fld (q : Int) : Nat := if q < 0 then (-2 * q - 1).toNat else (2 * q).toNat
def wde (T d : Int) : Nat := Lib.bitLen (rg T d - 1).toNat
/-- Behind a run; behind a sample. -/
def gor (T : Int) (W : Nat) (s : Wk) (n : Nat) : Wk := ⟨s.L, rr s.r n (rom W s.t), fil s.b s.t n (nA T W s.b s.t), s.t + n⟩
def goo (T d : Int) (s : Wk) (k g p q : Int) : Wk := ⟨lL T d s.L k q, s.r, fil s.b s.t 1 (gro T d p (g * q)), s.t + 1⟩
/-- One round, by what was chosen. -/
def itr (T d : Int) (W : Nat) (s : Wk) (c : Nat × Int) : Wk :=
  if xk T d W s = 0 then (if c.1 = rom W s.t then gor T W s c.1 else goo T d (gor T W s c.1) 0 (xs T d W s) (nA T W s.b s.t) c.2) else goo T d s (xk T d W s) (xs T d W s) (xp T d W s) c.2
/-- Bits behind bits: a number and how many they are. -/
def ap (x : Nat × Nat) (w v : Nat) : Nat × Nat := (x.1 * 2 ^ w + v, x.2 + w)
def btr (W : Nat) (s : Wk) (n : Nat) (x : Nat × Nat) : Nat × Nat := ap x (rw_ s.r n (rom W s.t)) (rf s.r n (rom W s.t))
def bto (T d : Int) (s : Wk) (k : Int) (least : Nat) (q : Int) (x : Nat × Nat) : Nat × Nat := ap x (gw (fld q - least) (po s.L k) (wde T d)) (gf (fld q - least) (po s.L k))
def bit (T d : Int) (W : Nat) (s : Wk) (c : Nat × Int) (x : Nat × Nat) : Nat × Nat :=
  if xk T d W s = 0 then (if c.1 = rom W s.t then btr W s c.1 x else bto T d (gor T W s c.1) 0 1 c.2 (btr W s c.1 x)) else bto T d s (xk T d W s) 0 c.2 x

/-- How many are near one. -/
def nea (d a v : Int) : Bool := decide (v - a ≤ d ∧ a - v ≤ d)
def rnl (f : Nat → Int) (a d : Int) : Nat → Nat → Nat
  | _, 0 => 0
  | t, m + 1 => if nea d a (f t) then rnl f a d (t + 1) m + 1 else 0
/-- What the coder chooses. -/
def cE (T d : Int) (W : Nat) (f : Nat → Int) (s : Wk) : Nat × Int :=
  if xk T d W s = 0 then (rnl f (nA T W s.b s.t) d s.t (rom W s.t), shr T d (xs T d W s * (f (s.t + rnl f (nA T W s.b s.t) d s.t (rom W s.t)) - nA T W s.b s.t))) else (0, shr T d (xs T d W s * (f s.t - xp T d W s)))

theorem nea_iff (d a v : Int) : nea d a v = true ↔ (v - a ≤ d ∧ a - v ≤ d) := by simp [nea]
theorem rnl_le (f : Nat → Int) (a d : Int) (m : Nat) : ∀ t, rnl f a d t m ≤ m := by
  induction m with
  | zero => intro t; simp [rnl]
  | succ m ih => intro t; unfold rnl; have := ih (t + 1); split <;> omega
theorem rnl_in (f : Nat → Int) (a d : Int) (m : Nat) : ∀ t i, i < rnl f a d t m → nea d a (f (t + i)) = true := by
  induction m with
  | zero => intro t i h; simp [rnl] at h
  | succ m ih =>
    intro t i h
    unfold rnl at h
    split at h
    · cases i with
      | zero => simpa using ‹_›
      | succ i => have := ih (t + 1) i (by omega); rwa [show t + 1 + i = t + (i + 1) by omega] at this
    · omega
theorem rnl_end (f : Nat → Int) (a d : Int) (m : Nat) : ∀ t, rnl f a d t m < m → nea d a (f (t + rnl f a d t m)) = false := by
  induction m with
  | zero => intro t h; omega
  | succ m ih =>
    intro t h
    unfold rnl at h ⊢
    split at h
    · rename_i h1
      have := ih (t + 1) (by omega)
      rw [if_pos h1, show t + (rnl f a d (t + 1) m + 1) = t + 1 + rnl f a d (t + 1) m by omega]; exact this
    · rename_i h1
      rw [if_neg h1]; simpa using h1
theorem rnl_is (f : Nat → Int) (a d : Int) (m t n : Nat) (hn : n ≤ m) (h1 : ∀ i, i < n → nea d a (f (t + i)) = true) (h2 : n < m → nea d a (f (t + n)) = false) : rnl f a d t m = n := by
  rcases Nat.lt_trichotomy (rnl f a d t m) n with h | h | h
  · have := rnl_end f a d m t (by omega); rw [h1 _ h] at this; cases this
  · exact h
  · have := rnl_in f a d m t n h; rw [h2 (by have := rnl_le f a d m t; omega)] at this; cases this

theorem fc_lo (T d a b c e : Int) : 0 ≤ fc T d a b c e := by unfold fc mg; split <;> omega
theorem fc_hi (T d a b c e : Int) : fc T d a b c e < 365 := by have := fk_lo T d a b c e; have := fk_hi T d a b c e; unfold fc mg; split <;> omega
theorem fs_one (T d a b c e : Int) : fs T d a b c e = 1 ∨ fs T d a b c e = -1 := by unfold fs; split <;> simp
theorem fs_zero (T d a b c e : Int) (h : fc T d a b c e = 0) : fs T d a b c e = 1 := by
  unfold fc mg at h; unfold fs; split at h <;> (rw [if_neg (by omega)])
theorem xk_lo (T d : Int) (W : Nat) (s : Wk) : 0 ≤ xk T d W s := fc_lo ..
theorem xk_hi (T d : Int) (W : Nat) (s : Wk) : xk T d W s < 365 := fc_hi ..
theorem xs_one (T d : Int) (W : Nat) (s : Wk) : xs T d W s = 1 ∨ xs T d W s = -1 := fs_one ..
theorem xs_zero (T d : Int) (W : Nat) (s : Wk) (h : xk T d W s = 0) : xs T d W s = 1 := fs_zero _ _ _ _ _ _ h

/-- What holds of a state. -/
structure Wk.In (T : Int) (s : Wk) : Prop where
  fit : ∀ k, (s.L k).Fit
  rate : s.r ≤ 22
  bk : ∀ i, i < s.t → 0 ≤ s.b i ∧ s.b i ≤ T

theorem Gd.t0 {T d : Int} (G : Gd T d) : 1023 ≤ T ∧ T ≤ 4095 := by rcases G.top with h | h <;> omega
theorem nA_in {T d : Int} (G : Gd T d) {W : Nat} {s : Wk} (h : s.In T) (hW : 1 ≤ W) : 0 ≤ nA T W s.b s.t ∧ nA T W s.b s.t ≤ T := by
  have ht := G.t0
  unfold nA
  split
  · split
    · omega
    · exact h.bk _ (by omega)
  · split
    · exact h.bk _ (by omega)
    · exact h.bk _ (by omega)
theorem nB_in {T d : Int} (G : Gd T d) {W : Nat} {s : Wk} (h : s.In T) (hW : 1 ≤ W) : 0 ≤ nB T W s.b s.t ∧ nB T W s.b s.t ≤ T := by
  unfold nB
  split
  · exact nA_in G h hW
  · exact h.bk _ (by omega)
theorem nC_in {T d : Int} (G : Gd T d) {W : Nat} {s : Wk} (h : s.In T) (hW : 1 ≤ W) : 0 ≤ nC T W s.b s.t ∧ nC T W s.b s.t ≤ T := by
  unfold nC
  split
  · exact nA_in G h hW
  · split
    · exact h.bk _ (by omega)
    · exact h.bk _ (by omega)
theorem nE_in {T d : Int} (G : Gd T d) {W : Nat} {s : Wk} (h : s.In T) (hW : 1 ≤ W) : 0 ≤ nE T W s.b s.t ∧ nE T W s.b s.t ≤ T := by
  unfold nE
  split
  · exact nA_in G h hW
  · split
    · have : s.t % W < W := Nat.mod_lt _ (by omega)
      by_cases h2 : W = 1
      · subst h2; omega
      · exact h.bk _ (by omega)
    · exact h.bk _ (by omega)
theorem gs_in {T d : Int} (G : Gd T d) (L : Nat → Sx) (k s a b c : Int) : 0 ≤ gs T L k s a b c ∧ gs T L k s a b c ≤ T := by
  have ht := G.t0
  have m := med_in (c := ct c 0 T) (ct_lo (n := a) (l := 0) (h := T) (by omega)) (ct_hi (n := a) (l := 0) (h := T)) (ct_lo (n := b) (l := 0) (h := T) (by omega)) (ct_hi (n := b) (l := 0) (h := T))
  unfold gs
  split
  · split
    · exact ⟨ct_lo (by omega), ct_hi⟩
    · exact ⟨ct_lo (by omega), ct_hi⟩
  · exact m
theorem xp_in {T d : Int} (G : Gd T d) {W : Nat} {s : Wk} (h : s.In T) (hW : 1 ≤ W) : 0 ≤ xp T d W s ∧ xp T d W s ≤ T := by
  unfold xp
  split
  · exact nA_in G h hW
  · exact gs_in G ..
theorem gro_in {T d : Int} (G : Gd T d) (p q : Int) : 0 ≤ gro T d p q ∧ gro T d p q ≤ T := by
  have ht := G.t0
  unfold gro
  exact ⟨ct_lo (by omega), ct_hi⟩

theorem rom_pos {W t : Nat} (hW : 1 ≤ W) : 1 ≤ rom W t ∧ rom W t ≤ W := by have := Nat.mod_lt t (show 0 < W by omega); unfold rom; omega
theorem rom_in {W H t : Nat} (hW : 1 ≤ W) (ht : t < W * H) : t + rom W t ≤ W * H := by
  have h1 := Nat.mod_lt t (show 0 < W by omega)
  have h2 := Nat.div_add_mod t W
  have h3 : t / W < H := Nat.div_lt_of_lt_mul ht
  have h4 : W * (t / W + 1) ≤ W * H := Nat.mul_le_mul_left _ h3
  rw [Nat.mul_add, Nat.mul_one] at h4
  unfold rom; omega

theorem fil_same (b : Nat → Int) (t n : Nat) (v : Int) (i : Nat) (h : i < t) : fil b t n v i = b i := by unfold fil; rw [if_neg (by omega)]
theorem fil_in (b : Nat → Int) (t n : Nat) (v : Int) (i : Nat) (h : t ≤ i) (h2 : i < t + n) : fil b t n v i = v := by unfold fil; rw [if_pos ⟨h, h2⟩]

theorem gor_in {T d : Int} (G : Gd T d) {W : Nat} {s : Wk} (h : s.In T) (hW : 1 ≤ W) (n : Nat) : (gor T W s n).In T := by
  refine ⟨h.fit, rr_le _ _ _, ?_⟩
  intro i hi
  show 0 ≤ fil _ _ _ _ i ∧ fil _ _ _ _ i ≤ T
  by_cases hc : i < s.t
  · rw [fil_same _ _ _ _ _ hc]; exact h.bk _ hc
  · rw [fil_in _ _ _ _ _ (by omega) hi]; exact nA_in G h hW
theorem lL_fit {T d : Int} (G : Gd T d) {L : Nat → Sx} (h : ∀ k, (L k).Fit) (k q : Int) : ∀ j, (lL T d L k q j).Fit := by
  intro j
  unfold lL
  split
  · unfold upd; split
    · exact (learn_fit T d q G _ (h _)).1
    · exact h _
  · exact h _
theorem goo_in {T d : Int} (G : Gd T d) {s : Wk} (h : s.In T) (k g p q : Int) : (goo T d s k g p q).In T := by
  refine ⟨lL_fit G h.fit k q, h.rate, ?_⟩
  intro i hi
  show 0 ≤ fil _ _ _ _ i ∧ fil _ _ _ _ i ≤ T
  by_cases hc : i < s.t
  · rw [fil_same _ _ _ _ _ hc]; exact h.bk _ hc
  · rw [fil_in _ _ _ _ _ (by omega) hi]; exact gro_in G ..
theorem itr_in {T d : Int} (G : Gd T d) {W : Nat} {s : Wk} (h : s.In T) (hW : 1 ≤ W) (c : Nat × Int) : (itr T d W s c).In T := by
  unfold itr
  split
  · split
    · exact gor_in G h hW _
    · exact goo_in G (gor_in G h hW _) _ _ _ _
  · exact goo_in G h _ _ _ _
theorem itr_lt {T d : Int} {W : Nat} {s : Wk} (hW : 1 ≤ W) (c : Nat × Int) : s.t < (itr T d W s c).t := by
  have := rom_pos (t := s.t) hW
  unfold itr
  split
  · split
    · show s.t < s.t + c.1; omega
    · show s.t < s.t + c.1 + 1; omega
  · show s.t < s.t + 1; omega
theorem itr_le {T d : Int} {W H : Nat} {s : Wk} (hW : 1 ≤ W) (ht : s.t < W * H) (c : Nat × Int) (hc : c.1 ≤ rom W s.t) : (itr T d W s c).t ≤ W * H := by
  have := rom_in hW ht
  unfold itr
  split
  · split
    · show s.t + c.1 ≤ _; omega
    · show s.t + c.1 + 1 ≤ _; omega
  · show s.t + 1 ≤ _; omega
theorem itr_old {T d : Int} {W : Nat} {s : Wk} (c : Nat × Int) (i : Nat) (hi : i < s.t) : (itr T d W s c).b i = s.b i := by
  unfold itr
  split
  · split
    · exact fil_same _ _ _ _ _ hi
    · show fil (fil _ _ _ _) (s.t + c.1) _ _ i = _
      rw [fil_same _ _ _ _ _ (by omega), fil_same _ _ _ _ _ hi]
  · exact fil_same _ _ _ _ _ hi
theorem cE_le (T d : Int) (W : Nat) (f : Nat → Int) (s : Wk) : (cE T d W f s).1 ≤ rom W s.t := by
  unfold cE
  split
  · exact rnl_le _ _ _ _ _
  · exact Nat.zero_le _

theorem fld_lt {T d q : Int} (G : Gd T d) (h0 : -(rg T d / 2) ≤ q) (h1 : q ≤ (rg T d - 1) / 2) : (fld q : Int) < rg T d := by
  have := rg_pos T d G
  unfold fld; split <;> omega
theorem wde_in {T d : Int} (G : Gd T d) : 1 ≤ wde T d ∧ wde T d ≤ 12 := by
  have := rg_pos T d G
  have h1 := Lib.bitLen_le (rg T d - 1).toNat 12 (by omega) (by omega)
  have h2 := Lib.bitLen_half (rg T d - 1).toNat (by omega) (by omega)
  unfold wde; omega
theorem lt_wde {T d : Int} (G : Gd T d) (v : Nat) (h : (v : Int) < rg T d) : v < 2 ^ wde T d := by
  have := rg_pos T d G
  have h1 := bitLen_up (rg T d - 1).toNat (by omega)
  unfold wde
  omega

/-- What the coder chooses is near. -/
theorem cE_q {T d : Int} (G : Gd T d) {W : Nat} {f : Nat → Int} {s : Wk} (h : s.In T) (hW : 1 ≤ W) (hf : ∀ i, 0 ≤ f i ∧ f i ≤ T) : (fld (cE T d W f s).2 : Int) < rg T d := by
  unfold cE
  split
  · have := near_all T d (f (s.t + rnl f (nA T W s.b s.t) d s.t (rom W s.t))) (nA T W s.b s.t) (xs T d W s) G (xs_one ..) (nA_in G h hW).1 (nA_in G h hW).2 (hf _).1 (hf _).2
    simp only at this
    exact fld_lt G this.2.2.2.2.2.1 this.2.2.2.2.2.2
  · have := near_all T d (f s.t) (xp T d W s) (xs T d W s) G (xs_one ..) (xp_in G h hW).1 (xp_in G h hW).2 (hf _).1 (hf _).2
    simp only at this
    exact fld_lt G this.2.2.2.2.2.1 this.2.2.2.2.2.2
theorem cE_run {T d : Int} (G : Gd T d) {W : Nat} {f : Nat → Int} {s : Wk} (h : s.In T) (hW : 1 ≤ W) (hf : ∀ i, 0 ≤ f i ∧ f i ≤ T) (hk : xk T d W s = 0) (hn : (cE T d W f s).1 < rom W s.t) : 1 ≤ fld (cE T d W f s).2 := by
  have ha := nA_in G h hW
  unfold cE at hn ⊢
  rw [if_pos hk] at hn ⊢
  have he := rnl_end f (nA T W s.b s.t) d (rom W s.t) s.t hn
  generalize rnl f (nA T W s.b s.t) d s.t (rom W s.t) = n at *
  have hx : ¬ (f (s.t + n) - nA T W s.b s.t ≤ d ∧ nA T W s.b s.t - f (s.t + n) ≤ d) := by intro hh; rw [(nea_iff _ _ _).2 hh] at he; cases he
  have := far_all T d (f (s.t + n)) (nA T W s.b s.t) G ha.1 ha.2 (hf _).1 (hf _).2 (by omega)
  rw [xs_zero T d W s hk, Int.one_mul]
  unfold fld
  split <;> omega

/-- Each round is within the tolerance. -/
theorem itr_near {T d : Int} (G : Gd T d) {W : Nat} {f : Nat → Int} {s : Wk} (h : s.In T) (hW : 1 ≤ W) (hf : ∀ i, 0 ≤ f i ∧ f i ≤ T) (i : Nat) (h0 : s.t ≤ i) (h1 : i < (itr T d W s (cE T d W f s)).t) :
    -d ≤ (itr T d W s (cE T d W f s)).b i - f i ∧ (itr T d W s (cE T d W f s)).b i - f i ≤ d := by
  have ha := nA_in G h hW
  by_cases hk : xk T d W s = 0
  · have e : cE T d W f s = (rnl f (nA T W s.b s.t) d s.t (rom W s.t), shr T d (xs T d W s * (f (s.t + rnl f (nA T W s.b s.t) d s.t (rom W s.t)) - nA T W s.b s.t))) := by unfold cE; rw [if_pos hk]
    rw [e] at h1 ⊢
    have hr := rnl_in f (nA T W s.b s.t) d (rom W s.t) s.t
    have hl := rnl_le f (nA T W s.b s.t) d (rom W s.t) s.t
    generalize rnl f (nA T W s.b s.t) d s.t (rom W s.t) = n at *
    unfold itr at h1 ⊢
    rw [if_pos hk] at h1 ⊢
    dsimp only at h1 ⊢
    have hin : i < s.t + n → -d ≤ nA T W s.b s.t - f i ∧ nA T W s.b s.t - f i ≤ d := by
      intro hi
      have := (nea_iff _ _ _).1 (hr (i - s.t) (by omega))
      rw [show s.t + (i - s.t) = i by omega] at this
      omega
    by_cases hn : n = rom W s.t
    · rw [if_pos hn] at h1 ⊢
      have h1 : i < s.t + n := h1
      show -d ≤ fil _ _ _ _ i - f i ∧ fil _ _ _ _ i - f i ≤ d
      rw [fil_in _ _ _ _ _ h0 h1]; exact hin h1
    · rw [if_neg hn] at h1 ⊢
      have h1 : i < s.t + n + 1 := h1
      show -d ≤ fil (fil _ _ _ _) (s.t + n) 1 _ i - f i ∧ fil (fil _ _ _ _) (s.t + n) 1 _ i - f i ≤ d
      by_cases hi : i < s.t + n
      · rw [fil_same _ _ _ _ _ hi, fil_in _ _ _ _ _ h0 hi]; exact hin hi
      · obtain rfl : i = s.t + n := by omega
        rw [fil_in _ _ _ _ _ (by omega) (by omega)]
        have := near_all T d (f (s.t + n)) (nA T W s.b s.t) (xs T d W s) G (xs_one ..) ha.1 ha.2 (hf _).1 (hf _).2
        simp only at this
        exact ⟨this.2.2.1, this.2.2.2.1⟩
  · have e : cE T d W f s = (0, shr T d (xs T d W s * (f s.t - xp T d W s))) := by unfold cE; rw [if_neg hk]
    rw [e] at h1 ⊢
    unfold itr at h1 ⊢
    rw [if_neg hk] at h1 ⊢
    have h1 : i < s.t + 1 := h1
    obtain rfl : i = s.t := by omega
    show -d ≤ fil _ _ _ _ _ - f _ ∧ fil _ _ _ _ _ - f _ ≤ d
    rw [fil_in _ _ _ _ _ (by omega) (by omega)]
    have := near_all T d (f s.t) (xp T d W s) (xs T d W s) G (xs_one ..) (xp_in G h hW).1 (xp_in G h hW).2 (hf _).1 (hf _).2
    simp only at this
    exact ⟨this.2.2.1, this.2.2.2.1⟩

/-- Coded again, what came back makes the same round. -/
theorem itr_again {T d : Int} (G : Gd T d) {W : Nat} {f g : Nat → Int} {s : Wk} (h : s.In T) (hW : 1 ≤ W) (hf : ∀ i, 0 ≤ f i ∧ f i ≤ T)
    (hg : ∀ i, s.t ≤ i → i < (itr T d W s (cE T d W f s)).t → g i = (itr T d W s (cE T d W f s)).b i) :
    itr T d W s (cE T d W g s) = itr T d W s (cE T d W f s) ∧ (∀ x, bit T d W s (cE T d W g s) x = bit T d W s (cE T d W f s) x) := by
  have ha := nA_in G h hW
  have hd := G.lo
  by_cases hk : xk T d W s = 0
  · have e : cE T d W f s = (rnl f (nA T W s.b s.t) d s.t (rom W s.t), shr T d (xs T d W s * (f (s.t + rnl f (nA T W s.b s.t) d s.t (rom W s.t)) - nA T W s.b s.t))) := by unfold cE; rw [if_pos hk]
    have e2 : cE T d W g s = (rnl g (nA T W s.b s.t) d s.t (rom W s.t), shr T d (xs T d W s * (g (s.t + rnl g (nA T W s.b s.t) d s.t (rom W s.t)) - nA T W s.b s.t))) := by unfold cE; rw [if_pos hk]
    rw [e] at hg
    rw [e, e2]
    have hr := rnl_in f (nA T W s.b s.t) d (rom W s.t) s.t
    have hl := rnl_le f (nA T W s.b s.t) d (rom W s.t) s.t
    have he := rnl_end f (nA T W s.b s.t) d (rom W s.t) s.t
    generalize rnl f (nA T W s.b s.t) d s.t (rom W s.t) = n at *
    unfold itr bit
    unfold itr at hg
    simp only [if_pos hk] at hg ⊢
    by_cases hn : n = rom W s.t
    · simp only [if_pos hn] at hg
      have hG : ∀ i, i < n → g (s.t + i) = nA T W s.b s.t := by
        intro i hi
        have := hg (s.t + i) (by omega) (show s.t + i < s.t + n by omega)
        rw [this]
        exact fil_in _ _ _ _ _ (by omega) (by omega)
      have hR : rnl g (nA T W s.b s.t) d s.t (rom W s.t) = n := rnl_is _ _ _ _ _ _ hl (fun i hi => by rw [hG i hi]; exact (nea_iff _ _ _).2 (by omega)) (by omega)
      rw [hR]
      simp only [if_pos hn]
      exact ⟨trivial, fun _ => trivial⟩
    · simp only [if_neg hn] at hg
      have hG : ∀ i, i < n → g (s.t + i) = nA T W s.b s.t := by
        intro i hi
        have := hg (s.t + i) (by omega) (show s.t + i < s.t + n + 1 by omega)
        rw [this]
        show fil (fil _ _ _ _) (s.t + n) 1 _ (s.t + i) = _
        rw [fil_same _ _ _ _ _ (by omega)]
        exact fil_in _ _ _ _ _ (by omega) (by omega)
      have hv := hg (s.t + n) (by omega) (show s.t + n < s.t + n + 1 by omega)
      have hv2 : g (s.t + n) = gro T d (nA T W s.b s.t) (xs T d W s * shr T d (xs T d W s * (f (s.t + n) - nA T W s.b s.t))) := by
        rw [hv]; exact fil_in _ _ _ _ _ (by show s.t + n ≤ _; omega) (by show s.t + n < s.t + n + 1; omega)
      have ho := xs_zero T d W s hk
      have hne : ¬ (f (s.t + n) - nA T W s.b s.t ≤ d ∧ nA T W s.b s.t - f (s.t + n) ≤ d) := by intro hh; have := he (by omega); rw [(nea_iff _ _ _).2 hh] at this; cases this
      have hfar := far_all T d (f (s.t + n)) (nA T W s.b s.t) G ha.1 ha.2 (hf _).1 (hf _).2 (by omega)
      have hna := near_all T d (f (s.t + n)) (nA T W s.b s.t) (xs T d W s) G (xs_one ..) ha.1 ha.2 (hf _).1 (hf _).2
      simp only at hna
      have hR : rnl g (nA T W s.b s.t) d s.t (rom W s.t) = n := by
        refine rnl_is _ _ _ _ _ _ hl (fun i hi => by rw [hG i hi]; exact (nea_iff _ _ _).2 (by omega)) (fun _ => ?_)
        rw [hv2, ho, Int.one_mul, Int.one_mul]
        unfold nea
        rw [decide_eq_false]
        omega
      rw [hR]
      have hq : shr T d (xs T d W s * (g (s.t + n) - nA T W s.b s.t)) = shr T d (xs T d W s * (f (s.t + n) - nA T W s.b s.t)) := by
        rw [hv2]; exact hna.2.2.2.2.1
      rw [hq]
      exact ⟨rfl, fun _ => rfl⟩
  · have e : cE T d W f s = (0, shr T d (xs T d W s * (f s.t - xp T d W s))) := by unfold cE; rw [if_neg hk]
    have e2 : cE T d W g s = (0, shr T d (xs T d W s * (g s.t - xp T d W s))) := by unfold cE; rw [if_neg hk]
    rw [e] at hg
    rw [e, e2]
    unfold itr at hg
    rw [if_neg hk] at hg
    have hna := near_all T d (f s.t) (xp T d W s) (xs T d W s) G (xs_one ..) (xp_in G h hW).1 (xp_in G h hW).2 (hf _).1 (hf _).2
    simp only at hna
    have hv := hg s.t (by omega) (show s.t < s.t + 1 by omega)
    have hv2 : g s.t = gro T d (xp T d W s) (xs T d W s * shr T d (xs T d W s * (f s.t - xp T d W s))) := by
      rw [hv]; exact fil_in _ _ _ _ _ (by omega) (by omega)
    rw [hv2, hna.2.2.2.2.1]
    exact ⟨rfl, fun _ => rfl⟩

/-- The rounds. -/
def stp (T d : Int) (W : Nat) (c : Wk → Nat × Int) (s : Wk) : Nat → Wk
  | 0 => s
  | j + 1 => itr T d W (stp T d W c s j) (c (stp T d W c s j))
def wrt (T d : Int) (W : Nat) (c : Wk → Nat × Int) (s : Wk) : Nat → Nat × Nat
  | 0 => (1, 8)
  | j + 1 => bit T d W (stp T d W c s j) (c (stp T d W c s j)) (wrt T d W c s j)
theorem stp_in {T d : Int} (G : Gd T d) {W : Nat} {s : Wk} (c : Wk → Nat × Int) (h : s.In T) (hW : 1 ≤ W) (j : Nat) : (stp T d W c s j).In T := by
  induction j with
  | zero => exact h
  | succ j ih => exact itr_in G ih hW _
theorem stp_old {T d : Int} {W : Nat} {s : Wk} (c : Wk → Nat × Int) (hW : 1 ≤ W) (i j : Nat) (hij : i ≤ j) (p : Nat) (hp : p < (stp T d W c s i).t) : (stp T d W c s j).b p = (stp T d W c s i).b p ∧ p < (stp T d W c s j).t := by
  induction j with
  | zero => obtain rfl : i = 0 := by omega
            exact ⟨rfl, hp⟩
  | succ j ih =>
    by_cases e : i = j + 1
    · subst e; exact ⟨rfl, hp⟩
    · obtain ⟨h1, h2⟩ := ih (by omega)
      have h3 := itr_lt (T := T) (d := d) (s := stp T d W c s j) hW (c (stp T d W c s j))
      exact ⟨(itr_old _ p h2).trans h1, Nat.lt_trans h2 h3⟩
theorem stp_lt {T d : Int} {W : Nat} {s : Wk} (c : Wk → Nat × Int) (hW : 1 ≤ W) (i j : Nat) (hij : i < j) : (stp T d W c s i).t < (stp T d W c s j).t := by
  induction j with
  | zero => omega
  | succ j ih =>
    have h3 := itr_lt (T := T) (d := d) (s := stp T d W c s j) hW (c (stp T d W c s j))
    have h3 : (stp T d W c s j).t < (stp T d W c s (j + 1)).t := h3
    by_cases e : i = j
    · subst e; exact h3
    · have := ih (by omega); omega
theorem stp_ge {T d : Int} {W : Nat} {s : Wk} (c : Wk → Nat × Int) (hW : 1 ≤ W) (j : Nat) : j ≤ (stp T d W c s j).t := by
  induction j with
  | zero => omega
  | succ j ih => have := stp_lt (T := T) (d := d) (s := s) c hW j (j + 1) (by omega); omega

/-- P10.2, of the walk alone. -/
theorem stp_again {T d : Int} (G : Gd T d) {W : Nat} {f g : Nat → Int} {s : Wk} (h : s.In T) (hW : 1 ≤ W) (hf : ∀ i, 0 ≤ f i ∧ f i ≤ T) (J : Nat)
    (hg : ∀ i, i < (stp T d W (cE T d W f) s J).t → g i = (stp T d W (cE T d W f) s J).b i) (j : Nat) (hj : j ≤ J) :
    stp T d W (cE T d W g) s j = stp T d W (cE T d W f) s j ∧ wrt T d W (cE T d W g) s j = wrt T d W (cE T d W f) s j := by
  induction j with
  | zero => exact ⟨rfl, rfl⟩
  | succ j ih =>
    obtain ⟨e1, e2⟩ := ih (by omega)
    have hin := stp_in G (cE T d W f) h hW j
    have := itr_again (g := g) G hin hW hf (fun i _ h2 => by
      have := stp_old (T := T) (d := d) (s := s) (cE T d W f) hW (j + 1) J hj i h2
      rw [hg i this.2, this.1]; rfl)
    constructor
    · show itr _ _ _ (stp T d W (cE T d W g) s j) _ = _
      rw [e1]; exact this.1
    · show bit _ _ _ (stp T d W (cE T d W g) s j) _ _ = _
      rw [e1, e2]; exact this.2 _
/-- P10.1, of the walk alone. -/
theorem stp_near {T d : Int} (G : Gd T d) {W : Nat} {f : Nat → Int} {s : Wk} (h : s.In T) (hW : 1 ≤ W) (hf : ∀ i, 0 ≤ f i ∧ f i ≤ T) (h0 : s.t = 0) (j : Nat) (i : Nat) (hi : i < (stp T d W (cE T d W f) s j).t) :
    -d ≤ (stp T d W (cE T d W f) s j).b i - f i ∧ (stp T d W (cE T d W f) s j).b i - f i ≤ d := by
  induction j with
  | zero => have : i < s.t := hi
            omega
  | succ j ih =>
    by_cases hc : i < (stp T d W (cE T d W f) s j).t
    · have := stp_old (T := T) (d := d) (s := s) (cE T d W f) hW j (j + 1) (by omega) i hc
      rw [this.1]; exact ih hc
    · exact itr_near G (stp_in G _ h hW j) hW hf i (by omega) hi
end Go.Proofs.YthkpligodbkofaaGreatDoor
