import Derived.Test.YtodlkpcbkilglaaDoorRp
import Derived.Test.YtodlkpcbkilglaaDoorRwZ
namespace Go.Proofs.YtodlkpcbkilglaaDoor
open Go.RowKit Go.Shelf
attribute [local go_sem] Oper.semAt_some

/-- Where a sample of a row stands in v210. -/
def slt (p x : Nat) : Nat := if p = 0 then x / 6 * 12 + 2 * (x % 6) + 1 else if p = 1 then x / 3 * 12 + 4 * (x % 3) else x / 3 * 12 + 4 * (x % 3) + 2
theorem slt_at (s : Nat) : slt (gP (s % 12)) (s / 12 * gE (s % 12) + gN (s % 12)) = s := by
  unfold gP gE gN
  by_cases h1 : s % 12 % 2 = 1
  · simp only [h1, if_true]; unfold slt; rw [if_pos rfl]; omega
  · simp only [h1, if_false]
    by_cases h2 : s % 12 % 4 = 0
    · simp only [h2, if_true]; unfold slt; rw [if_neg (by decide), if_pos rfl]; omega
    · simp only [h2, if_false]; unfold slt; rw [if_neg (by decide), if_neg (by decide)]; omega
theorem slt_inj {p x y : Nat} (h : slt p x = slt p y) : x = y := by
  unfold slt at h
  split at h
  · omega
  · split at h <;> omega
/-- A word out of its bytes. -/
def wdB (fb : Nat → Nat) (n : Nat) : Nat := fb (4 * n) + 256 * fb (4 * n + 1) + 65536 * fb (4 * n + 2) + 16777216 * fb (4 * n + 3)
/-- A sample of a word. -/
def fld (W k : Nat) : Nat := W / 2 ^ (10 * k) % 1024
/-- What is taken out of a word. -/
def vT (fb : Nat → Nat) (l : Nat → Nat) (n : Nat) : Nat → Nat
  | 0 => 0
  | k + 1 => vT fb l n k + (if (3 * n + k) / 12 * gE ((3 * n + k) % 12) + gN ((3 * n + k) % 12) < l (gP ((3 * n + k) % 12)) then fld (wdB fb n) k * 2 ^ (10 * k) else 0)
theorem vT_le (fb : Nat → Nat) (l : Nat → Nat) (n : Nat) : ∀ k, vT fb l n k ≤ wdB fb n % 2 ^ (10 * k) := by
  intro k
  induction k with
  | zero => exact Nat.zero_le _
  | succ k ih =>
    have e : 2 ^ (10 * (k + 1)) = 2 ^ (10 * k) * 1024 := by rw [Nat.mul_add, Nat.pow_add]
    rw [vT, e, Nat.mod_mul]
    split
    · unfold fld; rw [Nat.mul_comm (2 ^ (10 * k))]; omega
    · omega
theorem fld_left (fb : Nat → Nat) (l : Nat → Nat) (n k : Nat) : (wdB fb n - vT fb l n k) / 2 ^ (10 * k) % 1024 = fld (wdB fb n) k := by
  have h := vT_le fb l n k
  unfold fld
  congr 1
  have h1 := Nat.div_add_mod (wdB fb n) (2 ^ (10 * k))
  have hp : 0 < 2 ^ (10 * k) := Nat.two_pow_pos _
  have hm := Nat.mod_lt (wdB fb n) hp
  rw [show wdB fb n - vT fb l n k = (wdB fb n % 2 ^ (10 * k) - vT fb l n k) + 2 ^ (10 * k) * (wdB fb n / 2 ^ (10 * k)) by omega, Nat.add_mul_div_left _ _ hp, Nat.div_eq_of_lt (by omega), Nat.zero_add]
/-- The rows of which some samples have been read. -/
def stV (cur : Nat → Nat → Nat) (fb : Nat → Nat) (l op : Nat → Nat) (pr : Nat → Bool) (p : Nat) : Nat → Nat := fun i =>
  if op p ≤ i ∧ i < op p + l p ∧ pr (slt p (i - op p)) = true then fld (wdB fb (slt p (i - op p) / 3)) (slt p (i - op p) % 3) else cur p i
/-- Which: those of the words from m on; those of the words behind n, and the first k of n. -/
def prM (N m s : Nat) : Bool := decide (3 * m ≤ s) && decide (s < 3 * N)
def prI (N n k s : Nat) : Bool := (decide (3 * (n + 1) ≤ s) && decide (s < 3 * N)) || (decide (3 * n ≤ s) && decide (s < 3 * n + k))
theorem prI_zero (N n s : Nat) : prI N n 0 s = prM N (n + 1) s := by
  unfold prI prM
  by_cases h : 3 * n ≤ s
  · have : ¬ s < 3 * n := by omega
    simp [this]
  · simp [h]
theorem prI_three {N n : Nat} (hn : n < N) (s : Nat) : prI N n 3 s = prM N n s := by
  unfold prI prM
  by_cases h1 : 3 * (n + 1) ≤ s
  · have h2 : 3 * n ≤ s := by omega
    have h3 : ¬ s < 3 * n + 3 := by omega
    simp [h1, h2, h3]
  · by_cases h2 : 3 * n ≤ s
    · have h3 : s < 3 * n + 3 := by omega
      have h4 : s < 3 * N := by omega
      simp [h2, h3, h4]
    · simp [h1, h2]
theorem prI_succ {N n k s : Nat} : prI N n (k + 1) s = (prI N n k s || decide (s = 3 * n + k)) := by
  unfold prI
  by_cases h : s = 3 * n + k
  · have h1 : 3 * n ≤ s := by omega
    have h2 : s < 3 * n + (k + 1) := by omega
    rw [decide_eq_true h1, decide_eq_true h2, decide_eq_true h, Bool.and_self, Bool.or_true, Bool.or_true]
  · by_cases h2 : s < 3 * n + k
    · have h3 : s < 3 * n + (k + 1) := by omega
      simp [h, h2, h3]
    · have h3 : ¬ s < 3 * n + (k + 1) := by omega
      simp [h, h2, h3]
theorem slt_back {p : Nat} (hp : p < 3) (x : Nat) : gP (slt p x % 12) = p ∧ slt p x / 12 * gE (slt p x % 12) + gN (slt p x % 12) = x := by
  rcases (by omega : p = 0 ∨ p = 1 ∨ p = 2) with rfl | rfl | rfl
  · have e : slt 0 x = x / 6 * 12 + 2 * (x % 6) + 1 := rfl
    rw [e]
    unfold gP gE gN
    have h1 : (x / 6 * 12 + 2 * (x % 6) + 1) % 12 % 2 = 1 := by omega
    simp only [h1, if_true, true_and]
    omega
  · have e : slt 1 x = x / 3 * 12 + 4 * (x % 3) := rfl
    rw [e]
    unfold gP gE gN
    have h1 : ¬ (x / 3 * 12 + 4 * (x % 3)) % 12 % 2 = 1 := by omega
    have h2 : (x / 3 * 12 + 4 * (x % 3)) % 12 % 4 = 0 := by omega
    simp only [h1, h2, if_true, if_false, true_and]
    omega
  · have e : slt 2 x = x / 3 * 12 + 4 * (x % 3) + 2 := rfl
    rw [e]
    unfold gP gE gN
    have h1 : ¬ (x / 3 * 12 + 4 * (x % 3) + 2) % 12 % 2 = 1 := by omega
    have h2 : ¬ (x / 3 * 12 + 4 * (x % 3) + 2) % 12 % 4 = 0 := by omega
    simp only [h1, h2, if_false, true_and]
    omega
theorem nextN_four (f : Nat → Nat) (N n : Nat) (hf : ∀ i, i < 4 * N → f i < 256) (hn : n < N) : Bt.nextN (rvL f (4 * N)) (32 * (N - 1 - n)) 32 = wdB f n := by
  have h := nextN_bytes (rvL f (4 * N)) (4 * (N - 1 - n)) 4 (rvL_byts hf) (by rw [rvL_length]; omega)
  rw [show 8 * (4 * (N - 1 - n)) = 32 * (N - 1 - n) by omega, show 8 * 4 = 32 from rfl] at h
  rw [h]
  have e : ((rvL f (4 * N)).drop (4 * (N - 1 - n))).take 4 = [f (4 * n + 3), f (4 * n + 2), f (4 * n + 1), f (4 * n)] := by
    apply List.ext_getElem?
    intro i
    rw [List.getElem?_take]
    by_cases hi : i < 4
    · rw [if_pos hi, List.getElem?_drop]
      unfold rvL
      rw [List.getElem?_map, List.getElem?_range (by omega)]
      rcases (by omega : i = 0 ∨ i = 1 ∨ i = 2 ∨ i = 3) with rfl | rfl | rfl | rfl
      all_goals (show some (f _) = some (f _); congr 2; omega)
    · rw [if_neg hi, List.getElem?_eq_none (by simp; omega)]
  rw [e]
  simp only [Bt.num, List.foldl, wdB]
  omega
theorem wdB_lt {f : Nat → Nat} {N n : Nat} (hf : ∀ i, i < 4 * N → f i < 256) (hn : n < N) : wdB f n < 4294967296 := by
  have h0 := hf (4 * n) (by omega)
  have h1 := hf (4 * n + 1) (by omega)
  have h2 := hf (4 * n + 2) (by omega)
  have h3 := hf (4 * n + 3) (by omega)
  unfold wdB
  omega
/-- The samples of a word are masked out and moved down. -/
theorem msk (X k : Nat) : X &&& (1023 * 2 ^ (10 * k)) = X / 2 ^ (10 * k) % 1024 * 2 ^ (10 * k) := by
  have hb : ∀ j, (1023 : Nat).testBit j = decide (j < 10) := fun j => by
    rw [show (1023 : Nat) = 2 ^ 10 - 1 from rfl, Nat.testBit_two_pow_sub_one]
  apply Nat.eq_of_testBit_eq
  intro i
  rw [Nat.testBit_and, Nat.mul_comm 1023, Nat.testBit_two_pow_mul, hb, Nat.mul_comm (X / 2 ^ (10 * k) % 1024), Nat.testBit_two_pow_mul, show (1024 : Nat) = 2 ^ 10 from rfl, Nat.testBit_mod_two_pow, Nat.testBit_div_two_pow]
  by_cases h1 : 10 * k ≤ i
  · simp only [h1, decide_true, Bool.true_and, Nat.sub_add_cancel]
    by_cases h2 : i - 10 * k < 10
    · simp [h2]
    · simp [h2]
  · simp [h1]
theorem stV_same {cur : Nat → Nat → Nat} {fb : Nat → Nat} {l op : Nat → Nat} {N n k q : Nat} (h : ∀ y, y < l q → slt q y ≠ 3 * n + k) : stV cur fb l op (prI N n (k + 1)) q = stV cur fb l op (prI N n k) q := by
  funext i
  unfold stV
  by_cases h1 : op q ≤ i ∧ i < op q + l q
  · have h2 : ¬ slt q (i - op q) = 3 * n + k := h _ (by omega)
    rw [prI_succ, decide_eq_false h2, Bool.or_false]
  · rw [if_neg (fun h2 => h1 ⟨h2.1, h2.2.1⟩), if_neg (fun h2 => h1 ⟨h2.1, h2.2.1⟩)]
theorem stV_new {cur : Nat → Nat → Nat} {fb : Nat → Nat} {l op : Nat → Nat} {N n k p x : Nat} (hs : slt p x = 3 * n + k) (hx : x < l p) (hk : k < 3) (i : Nat) :
    (if i = op p + x then fld (wdB fb n) k else stV cur fb l op (prI N n k) p i) = stV cur fb l op (prI N n (k + 1)) p i := by
  by_cases h0 : i = op p + x
  · subst h0
    rw [if_pos rfl]
    unfold stV
    rw [show op p + x - op p = x by omega, hs, if_pos ⟨by omega, by omega, by rw [prI_succ, decide_eq_true rfl, Bool.or_true]⟩, show (3 * n + k) / 3 = n by omega, show (3 * n + k) % 3 = k by omega]
  · rw [if_neg h0]
    unfold stV
    by_cases h1 : op p ≤ i ∧ i < op p + l p
    · have h2 : ¬ slt p (i - op p) = 3 * n + k := fun e => by
        have := slt_inj (e.trans hs.symm)
        omega
      rw [prI_succ, decide_eq_false h2, Bool.or_false]
    · rw [if_neg (fun h2 => h1 ⟨h2.1, h2.2.1⟩), if_neg (fun h2 => h1 ⟨h2.1, h2.2.1⟩)]

set_option maxHeartbeats 16000000 in
set_option maxRecDepth 1000000 in
theorem readV (g1 cr gb ob cb N : Nat) (gp op l cc Lp : Nat → Nat) (cur : Nat → Nat → Nat) (fb : Nat → Nat) (w : World)
    (hrow : ∀ p, p < 3 → w.cell? ⟨g1, p, none⟩ = some (.slice (some ⟨gp p, op p, none⟩) (l p) (cc p))) (hR : ∀ p, p < 3 → Row w (gp p) (Lp p) (cur p)) (hL : ∀ p, p < 3 → op p + l p ≤ Lp p) (hl : ∀ p, p < 3 → l p ≤ 4096)
    (hd : ∀ p q, p < 3 → q < 3 → p ≠ q → gp p ≠ gp q) (hne : ∀ p, p < 3 → g1 ≠ gp p) (h0 : ∀ p, p < 3 → 0 ≠ gp p) (hb : ∀ i, i < 4 * N → w.cell? ⟨gb, ob + i, none⟩ = some (.int .u8 (fb i : Int))) (hf : ∀ i, i < 4 * N → fb i < 256) (hT : Tab w) (hN : N ≤ 3000) :
    Calls Tryd.prog 70 #[.slice (some ⟨g1, 0, none⟩) 3 cr, .slice (some ⟨gb, ob, none⟩) (4 * N) cb] w fun e w' => Kept [gp 0, gp 1, gp 2] w w' ∧
      ((∀ n, n < N → vT fb l n 3 = wdB fb n) → e = .returned (.bool true) ∧ ∀ p, p < 3 → Row w' (gp p) (Lp p) (stV cur fb l op (prM N 0) p)) ∧ ((¬ ∀ n, n < N → vT fb l n 3 = wdB fb n) → e = .returned (.bool false)) := by
  have C1 := Hid.mk (backB_off gb ob (4 * N) cb fb w hb (by omega))
  have HF := Hid.mk hf
  have HW := Hid.mk (And.intro hrow (And.intro hR (And.intro hL (And.intro hl (And.intro hd (And.intro hne (And.intro h0 hT)))))))
  have hg1 : g1 < w.heap.size := World.block_lt_of_cell? w _ (hrow 0 (by omega))
  clear hrow hR hL hl hd hne h0 hb hf hT
  go_enter Tryd.func70, Tryd.ntmps70
  go_wp2_with (fail)
  refine C1.out.mono ?_
  rintro e w2 ⟨g2, c2, rfl, hg2, hl2, hc2, hcb, hk2⟩
  have CN := Hid.mk (Bt.newReader_any (some ⟨g2, 0, none⟩) c2 (4 * N) (rvL fb (4 * N)) w2 (rvL_reads hcb) (rvL_byts HF.out) (rvL_length _ _) (by omega))
  have HK2 := Hid.mk hk2
  clear hg2 hl2 hc2 hcb hk2 C1
  go_wp2_with (fail)
  refine CN.out.mono ?_
  rintro e w3 ⟨B, g, rfl, hB, hg, hRd, hk3⟩
  have hNI : ((4 * N : Nat) : Int) * 8 / 32 - 1 = (N : Int) - 1 := by omega
  have hNI2 : (4 * (N : Int)) * 8 / 32 - 1 = (N : Int) - 1 := by omega
  have H3 := Hid.mk (And.intro (HK2.out.trans (kept_of hk3)) (And.intro hRd (And.intro (Nat.le_trans HK2.out.size hB) (Nat.le_trans HK2.out.size hg))))
  clear hk3 hRd hB hg CN HK2
  go_wp2_with (fail)
  clear hNI hNI2
  go_loopw [6] (fun i wr => ∃ m : Nat, m ≤ N ∧ i = .int .i64 ((m : Int) - 1) ∧ Kept [gp 0, gp 1, gp 2] w wr ∧ Bt.ReaderAt wr B g (rvL fb (4 * N)) (32 * (N - m)) ∧ (∀ p, p < 3 → Row wr (gp p) (Lp p) (stV cur fb l op (prM N m) p)) ∧ (∀ n, m ≤ n → n < N → vT fb l n 3 = wdB fb n)) (fun i _ => (intOf i + 1).toNat)
  case atStart =>
    obtain ⟨k3, hRd, hB, hg⟩ := H3.out
    refine ⟨N, Nat.le_refl _, by congr 1, k3.mono (by simp), by rw [Nat.sub_self]; exact hRd, fun p hp => ((HW.out.2.1 p hp).keep k3 (by simp)).congr (fun j _ => ?_), fun n h1 h2 => by omega⟩
    unfold stV prM
    rw [if_neg]
    rintro ⟨_, _, h⟩
    simp at h
    omega
  case round =>
    obtain ⟨m, hm, rfl, hk, hr, hRs, hcl⟩ := hrel
    by_cases hm0 : m = 0
    · subst hm0
      have e1 : ((0 : Nat) : Int) - 1 = -1 := rfl
      rw [e1]
      have HH := Hid.mk (And.intro hk (And.intro hRs hcl))
      clear hk hr hRs hcl e1
      go_wp2
      go_ret
      exact ⟨HH.out.1, fun _ => ⟨rfl, HH.out.2.1⟩, fun h => absurd (fun n hn => HH.out.2.2 n (Nat.zero_le _) hn) h⟩
    · obtain ⟨n, rfl⟩ : ∃ n, m = n + 1 := ⟨m - 1, by omega⟩
      have e1 : ((n + 1 : Nat) : Int) - 1 = (n : Int) := by omega
      rw [e1]
      have hnN : n < N := by omega
      have CG := Hid.mk (Bt.get_any B g (rvL fb (4 * N)) (32 * (N - (n + 1))) 32 wr hr (by omega) (by omega) (by rw [rvL_length]; omega))
      have hv := nextN_four fb N n HF.out hnN
      rw [show N - 1 - n = N - (n + 1) by omega] at hv
      rw [show (32 : Int).toNat = 32 from rfl, hv, show 32 * (N - (n + 1)) + 32 = 32 * (N - n) by omega] at CG
      have HH := Hid.mk (And.intro hk (And.intro hRs hcl))
      clear hk hr hRs hcl hv e1
      go_wp2_with (fail)
      refine CG.out.mono ?_
      rintro e w4 ⟨rfl, hr4, hk4⟩
      have hk4 := kept_of hk4
      obtain ⟨hk, hRs, hcl⟩ := HH.out
      have hBp : ∀ p, p < 3 → gp p < w.heap.size := fun p hp => (HW.out.2.1 p hp).lt
      have hBw : w.heap.size ≤ B := H3.out.2.2.1
      have K4 : Kept [gp 0, gp 1, gp 2] w w4 := hk.step hk4 (fun x hx => by simp at hx; right; omega)
      have R4 : ∀ p, p < 3 → Row w4 (gp p) (Lp p) (stV cur fb l op (prI N n 0) p) := fun p hp => ((hRs p hp).keep hk4 (by have := hBp p hp; simp; omega)).congr (fun j _ => by unfold stV; rw [show prI N n 0 = prM N (n + 1) from funext (prI_zero N n)])
      have HQ := Hid.mk (And.intro K4 (And.intro hr4 (And.intro R4 hcl)))
      clear hk hRs hcl hk4 hr4 R4 K4 HH CG hBp hBw
      obtain ⟨wo, ewo⟩ : ∃ wo, wo = w4 := ⟨_, rfl⟩
      rw [← ewo] at HQ
      have hw0 : wdB fb n - vT fb l n 0 = wdB fb n := Nat.sub_zero _
      have hwlt := wdB_lt HF.out hnN
      have HWL := Hid.mk hwlt
      go_wp2
      go_loopw [7, 30] (fun wd x wq => ∃ k : Nat, k ≤ 3 ∧ x = .int .i64 (k : Int) ∧ wd = .int .u32 ((wdB fb n - vT fb l n k : Nat) : Int) ∧ Kept [gp 0, gp 1, gp 2] w wq ∧ Bt.ReaderAt wq B g (rvL fb (4 * N)) (32 * (N - n)) ∧ ∀ p, p < 3 → Row wq (gp p) (Lp p) (stV cur fb l op (prI N n k) p)) (fun _ x _ => 3 - (intOf x).toNat)
      case atStart => exact ⟨0, by omega, rfl, by rw [hw0], by rw [← ewo]; exact HQ.out.1, by rw [← ewo]; exact HQ.out.2.1, by rw [← ewo]; exact HQ.out.2.2.1⟩
      case round =>
        obtain ⟨k, hk, rfl, rfl, hkq, hrq, hRq⟩ := hrel
        by_cases hk3 : k < 3
        · obtain ⟨t3, ht3⟩ : ∃ t3 : Int, 3 * (n : Int) = t3 := ⟨_, rfl⟩
          have b3 : 0 ≤ t3 ∧ t3 ≤ 9000 := by omega
          obtain ⟨s, hs⟩ : ∃ s : Nat, t3 + (k : Int) = (s : Int) := ⟨(t3 + (k : Int)).toNat, by omega⟩
          have hs2 : s ≤ 9002 := by omega
          have es : s = 3 * n + k := by omega
          have CW := Hid.mk (where_any s wr (HW.out.2.2.2.2.2.2.2.keep hkq (by have h0 := HW.out.2.2.2.2.2.2.1; simp; exact ⟨h0 0 (by omega), h0 1 (by omega), h0 2 (by omega)⟩)) (by omega))
          obtain ⟨p, ep⟩ : ∃ p, p = gP (s % 12) := ⟨_, rfl⟩
          obtain ⟨x, ex⟩ : ∃ x, x = s / 12 * gE (s % 12) + gN (s % 12) := ⟨_, rfl⟩
          rw [← ep, ← ex] at CW
          have hp3 : p < 3 := by rw [ep]; exact gP_lt _
          have hsl : slt p x = s := by rw [ep, ex]; exact slt_at s
          have hvT : vT fb l n (k + 1) = vT fb l n k + (if x < l p then fld (wdB fb n) k * 2 ^ (10 * k) else 0) := by rw [vT, ← es, ← ep, ← ex]
          have hrow := HW.out.1 p hp3
          have hg1k : ∀ q, q < 3 → g1 ≠ gp q := HW.out.2.2.2.2.2.1
          have hrow2 := cell_keep hkq hrow (by simp; exact ⟨hg1k 0 (by omega), hg1k 1 (by omega), hg1k 2 (by omega)⟩)
          obtain ⟨lp, elp⟩ : ∃ lp, lp = l p := ⟨_, rfl⟩
          obtain ⟨gq, egq⟩ : ∃ gq, gq = gp p := ⟨_, rfl⟩
          obtain ⟨oq, eoq⟩ : ∃ oq, oq = op p := ⟨_, rfl⟩
          have hLp := HW.out.2.2.2.1 p hp3
          rw [← elp, ← egq, ← eoq] at hrow2
          rw [← elp] at hLp hvT
          have HZ := Hid.mk (And.intro hkq (And.intro hrq (And.intro hRq (And.intro hsl (And.intro hvT (And.intro es (And.intro elp (And.intro egq eoq))))))))
          clear ep ex hkq hrq hRq hsl hvT es elp egq eoq hrow hg1k
          by_cases hx : x < lp
          · have hx2 : (x : Int) < (lp : Int) := by omega
            obtain ⟨X, eX⟩ : ∃ X, X = wdB fb n - vT fb l n k := ⟨_, rfl⟩
            rw [← eX]
            have hX : X < 4294967296 := by omega
            have hFl : X / 2 ^ (10 * k) % 1024 = fld (wdB fb n) k := by rw [eX]; exact fld_left fb l n k
            obtain ⟨Fv, eF⟩ : ∃ Fv, Fv = X / 2 ^ (10 * k) % 1024 := ⟨_, rfl⟩
            have hF4 : Fv < 1024 := by rw [eF]; exact Nat.mod_lt _ (by decide)
            obtain ⟨Y, eY⟩ : ∃ Y, Y = Fv * 2 ^ (10 * k) := ⟨_, rfl⟩
            have hp2 : 0 < 2 ^ (10 * k) := Nat.two_pow_pos _
            have hYX : Y ≤ X := by
              have h1 := Nat.mod_le (X / 2 ^ (10 * k)) 1024
              have h2 := Nat.mul_le_mul_right (2 ^ (10 * k)) h1
              have h3 := Nat.div_mul_le_self X (2 ^ (10 * k))
              rw [← eF, ← eY] at h2
              omega
            have hk20 : 2 ^ (10 * k) ≤ 1048576 := Nat.le_trans (Nat.pow_le_pow_right (by decide) (show 10 * k ≤ 20 by omega)) (by decide)
            have hAnd : bits BinOp.and IntKind.u32 (X : Int) (1023 * 2 ^ (10 * k) % 4294967296) = (Y : Int) := by
              have e1 : (1023 * 2 ^ (10 * k) % 4294967296 : Int) = ((1023 * 2 ^ (10 * k) : Nat) : Int) := by
                rw [Bt.pow_two_int]
                omega
              rw [e1, u32_and_nat _ _ hX (by omega), msk, ← eF, ← eY]
            have hShr : (Y : Int) / 2 ^ (10 * k) = (Fv : Int) := by
              rw [Bt.pow_two_int, ← Int.natCast_ediv, eY, Nat.mul_div_cancel _ hp2]
            have HVAL : Hid (IntKind.u16.wrap ((Y : Int) / 2 ^ (10 * k)) = (Fv : Int)) := Hid.mk (by rw [hShr, IntKind.wrap_u16]; omega)
            clear hShr
            have hw10 : IntKind.i64.wrap (10 * (k : Int)) = 10 * (k : Int) := wrap_i (by omega) (by omega)
            have hw11 : 0 ≤ 10 * (k : Int) := by omega
            have hSub : ((X : Int) - (Y : Int)) % 4294967296 = ((X - Y : Nat) : Int) := by omega
            have HE := Hid.mk (And.intro eX (And.intro eF (And.intro eY hFl)))
            clear eX eF eY hFl hwlt hw0 ewo
            go_wp2_with (fail)
            refine CW.out.mono ?_
            rintro e w5 ⟨rfl, hk5⟩
            have hrow5 := cell_keep hk5 hrow2 (by simp)
            obtain ⟨z1, z2, z3, z4, z5, z6, z7, z8, z9⟩ := HZ.out
            have R5 := (z3 p hp3).keep hk5 (by simp)
            have hop := HW.out.2.2.1 p hp3
            rw [← z8] at R5
            rw [← z9, ← z7] at hop
            have hcell := R5.at (j := oq + x) (by omega)
            have hfz := R5.fz (oq + x)
            have HK5 := Hid.mk hk5
            have hgne : g1 ≠ gq := by rw [z8]; exact HW.out.2.2.2.2.2.1 p hp3
            have hrow6 : ∀ v, (w5.setCell ⟨gq, oq + x, none⟩ v).drew.cell? ⟨g1, p, none⟩ = some (.slice (some ⟨gq, oq, none⟩) lp (cc p)) := fun v => cell_keep (((Kept.refl [gq] w5).setCell (.inl (by simp)) v).drew) hrow5 (by simp; exact hgne)
            have HG := Hid.mk hgne
            clear hgne
            clear hrow2 z1 z2 z3 z4 z5 z6 z7 z8 z9 R5 hop hk5
            go_wp2
            go_region_held_law (fun w' => w'.cell? ⟨g1, p, none⟩ = some (.slice (some ⟨gq, oq, none⟩) lp (cc p))) (first | exact hrow5 | exact hrow6 _ | go_keep) (fail)
            all_goals go_wp2
            all_goals simp only [HVAL.out]
            all_goals obtain ⟨z1, z2, z3, z4, z5, z6, z7, z8, z9⟩ := HZ.out
            all_goals obtain ⟨eX, eF, eY, hFl⟩ := HE.out
            all_goals have ks : Kept [gq] w5 (w5.setCell ⟨gq, oq + x, none⟩ (.int .u16 (Fv : Int))).drew := ((Kept.refl _ _).setCell (.inl (by simp)) _).drew
            all_goals have hgl : ∀ q, q < 3 → gp q < w.heap.size := fun q hq => (HW.out.2.1 q hq).lt
            all_goals have hBg := H3.out.2.2
            all_goals refine ⟨⟨k + 1, by omega, by go_num, ?_, (z1.step HK5.out (by simp)).step ks (fun y hy => ?_), Bt.reader_kept (Bt.reader_kept z2 (kept_to HK5.out) (by simp) (by simp)) (kept_to ks) ?_ ?_, fun q hq => ?_⟩, by simp [intOf]; omega⟩
            · have h1 := vT_le fb l n k
              have h2 := Nat.mod_le (wdB fb n) (2 ^ (10 * k))
              rw [z5, if_pos hx, ← hFl, ← eF, ← eY]
              congr 1
              omega
            · left
              simp at hy
              rw [hy, z8]
              rcases (by omega : p = 0 ∨ p = 1 ∨ p = 2) with rfl | rfl | rfl <;> simp
            · have := hgl p hp3
              rw [← z8] at this
              simp
              omega
            · have := hgl p hp3
              rw [← z8] at this
              simp
              omega
            · by_cases hqp : q = p
              · subst hqp
                have R5 := (z3 q hq).keep HK5.out (by simp)
                have hop := HW.out.2.2.1 q hq
                rw [← z9, ← z7] at hop
                have hset := R5.set (i := oq + x) (v := Fv) (by omega)
                rw [← z8] at hset ⊢
                refine Row.congr (show Row (w5.setCell ⟨gq, oq + x, none⟩ (.int .u16 (Fv : Int))).drew gq (Lp q) _ from hset) (fun i hi => ?_)
                have hst := stV_new (cur := cur) (fb := fb) (l := l) (op := op) (N := N) (n := n) (k := k) (p := q) (x := x) (z4.trans z6) (by rw [← z7]; exact hx) hk3 i
                rw [← hst, z9, eF, hFl]
              · have hd := HW.out.2.2.2.2.1 q p hq hp3 hqp
                rw [stV_same (fun y hy e => hqp (by
                  have h1 := (slt_back hq y).1
                  have h2 := (slt_back hp3 x).1
                  rw [e] at h1
                  rw [z4, z6] at h2
                  omega))]
                exact ((z3 q hq).keep HK5.out (by simp)).keep ks (by simp; rw [z8]; exact hd)
          · have hx2 : ¬ (x : Int) < (lp : Int) := by omega
            go_wp2_with (fail)
            refine CW.out.mono ?_
            rintro e w5 ⟨rfl, hk5⟩
            have hrow5 := cell_keep hk5 hrow2 (by simp)
            have HK5 := Hid.mk hk5
            clear hrow2 hk5
            go_wp2
            obtain ⟨z1, z2, z3, z4, z5, z6, z7, z8, z9⟩ := HZ.out
            refine ⟨⟨k + 1, by omega, by go_num, by rw [z5, if_neg hx, Nat.add_zero], z1.step HK5.out (by simp), Bt.reader_kept z2 (kept_to HK5.out) (by simp) (by simp), fun q hq => ?_⟩, by simp [intOf]; omega⟩
            rw [stV_same (fun y hy e => by
              have h1 := slt_back hq y
              have h2 := slt_back hp3 x
              rw [e] at h1
              rw [z4, z6] at h2
              have hqp : q = p := by rw [← h1.1, h2.1]
              subst hqp
              have : y = x := by rw [← h1.2, h2.2]
              rw [← z7] at hy
              omega)]
            exact (z3 q hq).keep HK5.out (by simp)
        · obtain rfl : k = 3 := by omega
          have hle : vT fb l n 3 ≤ wdB fb n := Nat.le_trans (vT_le fb l n 3) (Nat.mod_le _ _)
          obtain ⟨X, eX⟩ : ∃ X, X = wdB fb n - vT fb l n 3 := ⟨_, rfl⟩
          rw [← eX]
          have hX : X < 4294967296 := by omega
          have HZ := Hid.mk (And.intro hkq (And.intro hrq (And.intro hRq (And.intro eX hle))))
          clear hkq hrq hRq eX hle hw0 hwlt ewo
          by_cases hz : X = 0
          · subst hz
            go_wp2
            obtain ⟨z1, z2, z3, eX, hle⟩ := HZ.out
            refine ⟨⟨n, by omega, rfl, z1, z2, fun p hp => ?_, fun n2 h1 h2 => ?_⟩, by simp [intOf]; try omega⟩
            · rw [show prM N n = prI N n 3 from funext (fun s => (prI_three hnN s).symm)]
              exact z3 p hp
            · by_cases h3 : n2 = n
              · subst h3; omega
              · exact HQ.out.2.2.2 n2 (by omega) h2
          · have hz2 : ¬ (X : Int) = 0 := by omega
            have hz3 : ((X : Int) == 0) = false := by simpa using hz
            have hz4 : ((X : Int) != 0) = true := by simpa using hz
            go_wp2
            go_ret
            obtain ⟨z1, z2, z3, eX, hle⟩ := HZ.out
            refine ⟨z1, fun h => ?_, fun _ => rfl⟩
            have := h n hnN
            omega
end Go.Proofs.YtodlkpcbkilglaaDoor
