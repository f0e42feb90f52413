import Derived.Test.YtodlkpcbkilglaaDoorUrZ
import Derived.Test.YtodlkpcbkilglaaDoorPsZ
import Derived.Deep.RegionHeldLaw
import Derived.Test.YtodlkpcbkilglaaDoorSp
import Derived.Test.YtodlkpcbkilglaaDoorPi
namespace Go.Proofs.YtodlkpcbkilglaaDoor
open Go.RowKit Go.Shelf

theorem v2S_one (f : Nat → Nat → Nat) (l : Nat → Nat) {p i : Nat} (hp : p < 3) (hi : i < l p) : v2S f l (slt p i) = f p i := by
  obtain ⟨h1, h2⟩ := slt_back hp i
  unfold v2S
  rw [h1, h2, if_pos hi]
theorem v2S_chg (f g : Nat → Nat → Nat) (l : Nat → Nat) {p i : Nat} (h : ∀ q x, q < 3 → x < l q → (q ≠ p ∨ x ≠ i) → g q x = f q x) {s : Nat} (hs : s ≠ slt p i) : v2S g l s = v2S f l s := by
  unfold v2S
  split
  · rename_i hx
    refine h _ _ (by unfold gP; split <;> (try split) <;> omega) hx ?_
    by_cases h1 : gP (s % 12) = p
    · by_cases h2 : s / 12 * gE (s % 12) + gN (s % 12) = i
      · have h3 := slt_at s
        rw [h2, h1] at h3
        exact absurd h3.symm hs
      · exact .inr h2
    · exact .inl h1
  · rfl
theorem byte_add {a b c x j k : Nat} (ha : a < 1024) (hb : b < 1024) (hc : c < 1024) (hx : x < 1024) (hj : j < 3) (hk : k < 4) (h0 : (j = 0 → a = 0) ∧ (j = 1 → b = 0) ∧ (j = 2 → c = 0)) :
    (a + 1024 * b + 1048576 * c + x * 1024 ^ j) / 256 ^ k % 256 = (a + 1024 * b + 1048576 * c) / 256 ^ k % 256 + x * 1024 ^ j / 256 ^ k % 256 ∧ (a + 1024 * b + 1048576 * c) / 256 ^ k % 256 + x * 1024 ^ j / 256 ^ k % 256 < 256 := by
  obtain ⟨h1, h2, h3⟩ := h0
  rcases (by omega : j = 0 ∨ j = 1 ∨ j = 2) with rfl | rfl | rfl
  · have := h1 rfl
    subst this
    rcases (by omega : k = 0 ∨ k = 1 ∨ k = 2 ∨ k = 3) with rfl | rfl | rfl | rfl <;> simp only [Nat.pow_zero, Nat.pow_one, Nat.mul_one, Nat.div_one, Nat.reducePow] <;> omega
  · have := h2 rfl
    subst this
    rcases (by omega : k = 0 ∨ k = 1 ∨ k = 2 ∨ k = 3) with rfl | rfl | rfl | rfl <;> simp only [Nat.pow_zero, Nat.pow_one, Nat.div_one, Nat.reducePow] <;> omega
  · have := h3 rfl
    subst this
    rcases (by omega : k = 0 ∨ k = 1 ∨ k = 2 ∨ k = 3) with rfl | rfl | rfl | rfl <;> simp only [Nat.pow_zero, Nat.pow_one, Nat.div_one, Nat.reducePow] <;> omega
/-- One sample more in a row of v210. -/
theorem v2B_new (f g : Nat → Nat → Nat) (l : Nat → Nat) {p i : Nat} (hp : p < 3) (hi : i < l p) (hf : ∀ q x, q < 3 → x < l q → f q x < 1024) (hg : ∀ q x, q < 3 → x < l q → g q x < 1024) (h0 : f p i = 0) (h : ∀ q x, q < 3 → x < l q → (q ≠ p ∨ x ≠ i) → g q x = f q x) :
    (∀ t, t / 4 ≠ slt p i / 3 → v2B g l t = v2B f l t) ∧ ∀ k, k < 4 → v2B g l (4 * (slt p i / 3) + k) = v2B f l (4 * (slt p i / 3) + k) + g p i * 1024 ^ (slt p i % 3) / 256 ^ k % 256 ∧ v2B f l (4 * (slt p i / 3) + k) + g p i * 1024 ^ (slt p i % 3) / 256 ^ k % 256 < 256 := by
  have hS := fun s (hs : s ≠ slt p i) => v2S_chg f g l h hs
  have h1 := v2S_one f l hp hi
  have h2 := v2S_one g l hp hi
  rw [h0] at h1
  refine ⟨fun t ht => ?_, fun k hk => ?_⟩
  · unfold v2B v2W
    rw [hS _ (by omega), hS _ (by omega), hS _ (by omega)]
  · have e1 : (4 * (slt p i / 3) + k) / 4 = slt p i / 3 := by omega
    have e2 : (4 * (slt p i / 3) + k) % 4 = k := by omega
    unfold v2B
    rw [e1, e2]
    obtain ⟨n, hn⟩ : ∃ n, slt p i / 3 = n := ⟨_, rfl⟩
    obtain ⟨j, hj⟩ : ∃ j, slt p i % 3 = j := ⟨_, rfl⟩
    have hs : slt p i = 3 * n + j := by omega
    have hj3 : j < 3 := by omega
    rw [hn, hj]
    rw [hs] at h1 h2 hS
    have f0 := v2S_lt hf (3 * n)
    have f1 := v2S_lt hf (3 * n + 1)
    have f2 := v2S_lt hf (3 * n + 2)
    have hx := hg p i hp hi
    have ew : v2W g l n = v2W f l n + g p i * 1024 ^ j := by
      unfold v2W
      rcases (by omega : j = 0 ∨ j = 1 ∨ j = 2) with rfl | rfl | rfl
      · rw [hS (3 * n + 1) (by omega), hS (3 * n + 2) (by omega)]
        rw [Nat.add_zero] at h1 h2
        rw [h1, h2]; simp; omega
      · rw [hS (3 * n) (by omega), hS (3 * n + 2) (by omega), h1, h2]; simp only [Nat.pow_one]; omega
      · rw [hS (3 * n) (by omega), hS (3 * n + 1) (by omega), h1, h2]; simp only [Nat.reducePow]; omega
    rw [ew]
    unfold v2W
    refine byte_add f0 f1 f2 hx hj3 hk ⟨fun e => ?_, fun e => ?_, fun e => ?_⟩
    · subst e; exact h1
    · subst e; exact h1
    · subst e; exact h1
/-- A frame of which the planes ahead of p and the first m samples of p are written. -/
def dnF (F : Nat → Nat → Nat) (p m : Nat) : Nat → Nat → Nat := fun q j => if q < p ∨ (q = p ∧ j < m) then F q j else 0
theorem dnF_le (F : Nat → Nat → Nat) (p m q j : Nat) : dnF F p m q j ≤ F q j := by unfold dnF; split <;> omega
/-- One sample more, of all rows. -/
theorem v2R_new {W : Int} {F : Nat → Nat → Nat} {p y i : Nat} (hp : p < 3) (hi : i < wdN W p) (hF : ∀ q j, F q j < 1024) (y' : Nat) :
    (∀ t, (y' ≠ y ∨ t / 4 ≠ slt p i / 3) → v2R W (dnF F p (y * wdN W p + i + 1)) y' t = v2R W (dnF F p (y * wdN W p + i)) y' t) ∧
    (y' = y → ∀ k, k < 4 → v2R W (dnF F p (y * wdN W p + i + 1)) y' (4 * (slt p i / 3) + k) = v2R W (dnF F p (y * wdN W p + i)) y' (4 * (slt p i / 3) + k) + F p (y * wdN W p + i) * 1024 ^ (slt p i % 3) / 256 ^ k % 256 ∧
      v2R W (dnF F p (y * wdN W p + i)) y' (4 * (slt p i / 3) + k) + F p (y * wdN W p + i) * 1024 ^ (slt p i % 3) / 256 ^ k % 256 < 256) := by
  by_cases hy : y' = y
  · subst hy
    have h := v2B_new (fun q x => dnF F p (y' * wdN W p + i) q (y' * wdN W q + x)) (fun q x => dnF F p (y' * wdN W p + i + 1) q (y' * wdN W q + x)) (wdN W) hp hi (fun q x _ _ => Nat.lt_of_le_of_lt (dnF_le _ _ _ _ _) (hF _ _)) (fun q x _ _ => Nat.lt_of_le_of_lt (dnF_le _ _ _ _ _) (hF _ _)) (by simp [dnF]) (fun q x _ _ hne => by
      unfold dnF
      by_cases hq : q = p
      · subst hq
        rcases hne with hne | hne
        · exact absurd rfl hne
        · by_cases h1 : y' * wdN W q + x < y' * wdN W q + i
          · rw [if_pos (.inr ⟨rfl, by omega⟩), if_pos (.inr ⟨rfl, h1⟩)]
          · rw [if_neg (by omega), if_neg (by omega)]
      · simp [hq])
    have e : dnF F p (y' * wdN W p + i + 1) p (y' * wdN W p + i) = F p (y' * wdN W p + i) := by simp [dnF]
    simp only [e] at h
    exact ⟨fun t ht => h.1 t (by rcases ht with ht | ht; exact absurd rfl ht; exact ht), fun _ => h.2⟩
  · refine ⟨fun t _ => ?_, fun e => absurd e hy⟩
    unfold v2R
    have hc : ∀ s, v2S (fun q x => dnF F p (y * wdN W p + i + 1) q (y' * wdN W q + x)) (wdN W) s = v2S (fun q x => dnF F p (y * wdN W p + i) q (y' * wdN W q + x)) (wdN W) s := fun s => by
      unfold v2S
      split
      · rename_i hx
        unfold dnF
        by_cases hq : gP (s % 12) = p
        · rw [hq] at hx ⊢
          obtain ⟨x, ex⟩ : ∃ x, s / 12 * gE (s % 12) + gN (s % 12) = x := ⟨_, rfl⟩
          rw [ex] at hx ⊢
          have hne : y' * wdN W p + x ≠ y * wdN W p + i := fun e => hy (by
            have h1 : (y' * wdN W p + x) / wdN W p = y' := by rw [Nat.mul_comm, Nat.mul_add_div (by omega), Nat.div_eq_of_lt hx, Nat.add_zero]
            have h2 : (y * wdN W p + i) / wdN W p = y := by rw [Nat.mul_comm, Nat.mul_add_div (by omega), Nat.div_eq_of_lt hi, Nat.add_zero]
            rw [← h1, e, h2])
          dsimp only
          by_cases h1 : y' * wdN W p + x < y * wdN W p + i
          · rw [if_pos (.inr ⟨rfl, by omega⟩), if_pos (.inr ⟨rfl, h1⟩)]
          · rw [if_neg (by omega), if_neg (by omega)]
        · simp [hq]
      · rfl
    unfold v2B v2W
    rw [hc, hc, hc]
theorem v2R_zero {W : Int} {F : Nat → Nat → Nat} (y t : Nat) : v2R W (dnF F 0 0) y t = 0 := by
  have hc : ∀ s, v2S (fun q x => dnF F 0 0 q (y * wdN W q + x)) (wdN W) s = 0 := fun s => by
    unfold v2S
    split
    · simp [dnF]
    · rfl
  unfold v2R v2B v2W
  rw [hc, hc, hc]
  simp
theorem v2R_next {W : Int} {F : Nat → Nat → Nat} {p m : Nat} (y t : Nat) (hc : ∀ x, x < wdN W p → y * wdN W p + x < m) : v2R W (dnF F p m) y t = v2R W (dnF F (p + 1) 0) y t := by
  have hs : ∀ s, v2S (fun q x => dnF F p m q (y * wdN W q + x)) (wdN W) s = v2S (fun q x => dnF F (p + 1) 0 q (y * wdN W q + x)) (wdN W) s := fun s => by
    unfold v2S
    split
    · rename_i hx
      unfold dnF
      by_cases hq : gP (s % 12) = p
      · rw [hq] at hx ⊢
        dsimp only
        rw [if_pos (.inr ⟨rfl, hc _ hx⟩), if_pos (.inl (Nat.lt_succ_self _))]
      · dsimp only
        by_cases hlt : gP (s % 12) < p
        · rw [if_pos (.inl hlt), if_pos (.inl (by omega))]
        · rw [if_neg (by omega), if_neg (by omega)]
    · rfl
  unfold v2R v2B v2W
  rw [hs, hs, hs]
theorem v2R_done {W : Int} {F : Nat → Nat → Nat} (y t : Nat) : v2R W (dnF F 3 0) y t = v2R W F y t := by
  have hs : ∀ s, v2S (fun q x => dnF F 3 0 q (y * wdN W q + x)) (wdN W) s = v2S (fun q x => F q (y * wdN W q + x)) (wdN W) s := fun s => by
    unfold v2S
    split
    · unfold dnF
      dsimp only
      rw [if_pos (.inl (by unfold gP; split <;> (try split) <;> omega))]
    · rfl
  unfold v2R v2B v2W
  rw [hs, hs, hs]
end Go.Proofs.YtodlkpcbkilglaaDoor

namespace Go.Proofs.YtodlkpcbkilglaaDoor
open Go.RowKit

set_option maxHeartbeats 4000000 in
set_option maxRecDepth 1000000 in
theorem rsize_any (W H D p : Int) (A : Bool) (w : World) : Calls Tryd.prog 43 #[shv W H D A, .int .i64 p] w fun e w' => e = .returned (.tuple #[.int .i64 (if szE W H D p A = 0 then wp W p else 0), .int .i64 (if szE W H D p A = 0 then H else 0), .int .i64 (szE W H D p A)]) ∧ Kept [] w w' := by
  have C := Hid.mk (fun u => rshaped_any W H D A u)
  have hk0 := Hid.mk ((Kept.refl [] w).alloc (.cells #[.int .i64 W, .int .i64 H, .int .i64 D, .bool A] 24))
  have S0 := Sat.new w W H D A 24
  rcases shE_two W H D A with ⟨e1, h1⟩ | ⟨e1, h1⟩
  · rw [e1] at C
    by_cases hp : 0 ≤ p ∧ p < (np A : Int)
    · rw [show szE W H D p A = 0 by unfold szE; rw [if_pos e1, if_pos hp]]
      have C2 := Hid.mk (fun u => rthere_any W H D p A u)
      rw [decide_eq_true hp] at C2
      have C3 := Hid.mk (fun u => wide_any W H D p A u (by have := h1.1; omega) h1.1.2)
      clear hp h1 e1
      go_enter Tryd.func43, Tryd.ntmps43
      go_wp2_with (first | (go_at_call 39; refine (C.out _).mono ?_; rintro e w1 ⟨rfl, hk1⟩; obtain ⟨q0, q1, q2, q3⟩ := S0.keep hk1 (by simp)) | (go_at_call 73; refine (C2.out _).mono ?_; rintro e w2 ⟨rfl, hk2⟩; have r0 := cell_keep hk2 q0 (by simp); have r1 := cell_keep hk2 q1 (by simp); have r2 := cell_keep hk2 q2 (by simp); have r3 := cell_keep hk2 q3 (by simp)) | fail)
      go_region_held_law (fun u => u.cell? ⟨w.heap.size, 0, none⟩ = some (.int .i64 W) ∧ u.cell? ⟨w.heap.size, 1, none⟩ = some (.int .i64 H) ∧ u.cell? ⟨w.heap.size, 2, none⟩ = some (.int .i64 D) ∧ u.cell? ⟨w.heap.size, 3, none⟩ = some (.bool A)) (first | exact ⟨r0, r1, r2, r3⟩ | exact s5 | go_keep) ((go_at_call 55; refine (C3.out _).mono ?_; rintro e w3 ⟨rfl, hk3⟩; have s5 := And.intro (cell_keep (w := w2.drew) hk3 r0 (by simp)) (And.intro (cell_keep (w := w2.drew) hk3 r1 (by simp)) (And.intro (cell_keep (w := w2.drew) hk3 r2 (by simp)) (cell_keep (w := w2.drew) hk3 r3 (by simp))))))
      all_goals
        go_wp2
        go_ret3
        exact ⟨rfl, ((hk0.out.trans hk1).trans hk2).trans hk3.undrew⟩
    · rw [show szE W H D p A = 65 by unfold szE; rw [if_pos e1, if_neg hp]]
      have C2 := Hid.mk (fun u => rthere_any W H D p A u)
      rw [decide_eq_false hp] at C2
      clear hp h1 e1
      go_enter Tryd.func43, Tryd.ntmps43
      go_wp2_with (first | (go_at_call 39; refine (C.out _).mono ?_; rintro e w1 ⟨rfl, hk1⟩; obtain ⟨q0, q1, q2, q3⟩ := S0.keep hk1 (by simp)) | (go_at_call 73; refine (C2.out _).mono ?_; rintro e w2 ⟨rfl, hk2⟩))
      go_ret3
      exact ⟨rfl, (hk0.out.trans hk1).trans hk2⟩
  · rw [e1] at C
    rw [show szE W H D p A = 61 by unfold szE; rw [e1]; rfl]
    clear h1 e1
    go_enter Tryd.func43, Tryd.ntmps43
    go_wp2_with (first | (go_at_call 39; refine (C.out _).mono ?_; rintro e w1 ⟨rfl, hk1⟩))
    go_ret3
    exact ⟨rfl, hk0.out.trans hk1⟩
end Go.Proofs.YtodlkpcbkilglaaDoor

namespace Go.Proofs.YtodlkpcbkilglaaDoor
open Go.RowKit Go.Shelf

theorem ctL_v2 (W : Int) (k : Nat) : ctL (v2L W) k = k * v2L W 0 := by
  induction k with
  | zero => simp [ctL]
  | succ k ih => rw [ctL, ih, Nat.add_mul, Nat.one_mul]; rfl
/-- All bytes of a frame of which some are written. -/
def obF (W : Int) (F : Nat → Nat → Nat) (p m a : Nat) : Nat := v2R W (dnF F p m) (a / v2L W 0) (a % v2L W 0)
/-- Of a word the first k bytes are new. -/
def obK (W : Int) (F : Nat → Nat → Nat) (p m at_ k a : Nat) : Nat := if at_ ≤ a ∧ a < at_ + k then obF W F p (m + 1) a else obF W F p m a
theorem v2L_pos {W : Int} (h : 1 ≤ W) : 128 ≤ v2L W 0 := by
  have h1 : 1 ≤ wdN W 0 := by
    unfold wdN
    have e0 : wp W ((0 : Nat) : Int) = W := rfl
    rw [e0]; omega
  unfold v2L; omega
/-- Where a sample's word stands. -/
theorem word_in {W : Int} (h1 : 1 ≤ W) {p i h y : Nat} (hp : p < 3) (hi : i < wdN W p) (hy : y < h) : 4 * (slt p i / 3) + 3 < v2L W 0 ∧ y * v2L W 0 + 4 * (slt p i / 3) + 3 < h * v2L W 0 := by
  have hs := slt_lt h1 hp hi
  have e : v2L W 0 = 4 * ((wdN W 0 + 47) / 48 * 32) := rfl
  have h2 : 4 * (slt p i / 3) + 3 < v2L W 0 := by rw [e]; omega
  have h3 : (y + 1) * v2L W 0 ≤ h * v2L W 0 := Nat.mul_le_mul_right _ hy
  rw [Nat.add_mul, Nat.one_mul] at h3
  exact ⟨h2, by omega⟩
/-- A byte of a word: what it was, and what it is. -/
theorem obF_byte {W : Int} (h1 : 1 ≤ W) {F : Nat → Nat → Nat} (hF : ∀ q j, F q j < 1024) {p i y k : Nat} (hp : p < 3) (hi : i < wdN W p) (hk : k < 4) :
    obF W F p (y * wdN W p + i + 1) (y * v2L W 0 + 4 * (slt p i / 3) + k) = obF W F p (y * wdN W p + i) (y * v2L W 0 + 4 * (slt p i / 3) + k) + F p (y * wdN W p + i) * 1024 ^ (slt p i % 3) / 256 ^ k % 256 ∧ obF W F p (y * wdN W p + i) (y * v2L W 0 + 4 * (slt p i / 3) + k) + F p (y * wdN W p + i) * 1024 ^ (slt p i % 3) / 256 ^ k % 256 < 256 := by
  obtain ⟨h2, -⟩ := word_in (h := y + 1) (y := y) h1 hp hi (Nat.lt_succ_self _)
  have hS := v2L_pos h1
  have e1 : (y * v2L W 0 + 4 * (slt p i / 3) + k) / v2L W 0 = y := by rw [Nat.add_assoc, Nat.mul_comm, Nat.mul_add_div (by omega), Nat.div_eq_of_lt (by omega), Nat.add_zero]
  have e2 : (y * v2L W 0 + 4 * (slt p i / 3) + k) % v2L W 0 = 4 * (slt p i / 3) + k := by rw [Nat.add_assoc, Nat.mul_comm, Nat.mul_add_mod, Nat.mod_eq_of_lt (by omega)]
  unfold obF
  rw [e1, e2]
  exact (v2R_new (y := y) hp hi hF y).2 rfl k hk
/-- A byte elsewhere. -/
theorem obF_far {W : Int} (h1 : 1 ≤ W) {F : Nat → Nat → Nat} (hF : ∀ q j, F q j < 1024) {p i y a : Nat} (hp : p < 3) (hi : i < wdN W p) (ha : ¬ (y * v2L W 0 + 4 * (slt p i / 3) ≤ a ∧ a < y * v2L W 0 + 4 * (slt p i / 3) + 4)) :
    obF W F p (y * wdN W p + i + 1) a = obF W F p (y * wdN W p + i) a := by
  have hS := v2L_pos h1
  unfold obF
  refine (v2R_new (y := y) hp hi hF (a / v2L W 0)).1 _ ?_
  by_cases hy : a / v2L W 0 = y
  · right
    intro e
    have h3 := Nat.div_add_mod a (v2L W 0)
    rw [hy, Nat.mul_comm] at h3
    exact ha (by omega)
  · exact .inl hy
theorem obK_four {W : Int} (h1 : 1 ≤ W) {F : Nat → Nat → Nat} (hF : ∀ q j, F q j < 1024) {p i y : Nat} (hp : p < 3) (hi : i < wdN W p) (a : Nat) : obK W F p (y * wdN W p + i) (y * v2L W 0 + 4 * (slt p i / 3)) 4 a = obF W F p (y * wdN W p + i + 1) a := by
  unfold obK
  split
  · rfl
  · rename_i h
    exact (obF_far h1 hF hp hi h).symm
theorem obF_next {W : Int} {F : Nat → Nat → Nat} {p h a : Nat} (ha : a / v2L W 0 < h) : obF W F p (h * wdN W p) a = obF W F (p + 1) 0 a := by
  unfold obF
  refine v2R_next _ _ (fun x hx => ?_)
  have : (a / v2L W 0 + 1) * wdN W p ≤ h * wdN W p := Nat.mul_le_mul_right _ ha
  rw [Nat.add_mul, Nat.one_mul] at this
  omega
theorem obF_list {W : Int} {F : Nat → Nat → Nat} (h : Nat) : (List.range (h * v2L W 0)).map (obF W F 3 0) = ctN (v2L W) (v2R W F) (1 * h) := by
  have e : ctL (v2L W) (1 * h) = h * v2L W 0 := by rw [ctL_v2, Nat.one_mul]
  rw [ctN_eq (v2L W) (v2R W F) (obF W F 3 0) (1 * h) (fun k hk t ht => ?_), e]
  have ht' : t < v2L W 0 := ht
  unfold obF
  rw [ctL_v2, show (k * v2L W 0 + t) / v2L W 0 = k by rw [Nat.mul_comm, Nat.mul_add_div (by omega), Nat.div_eq_of_lt ht', Nat.add_zero], show (k * v2L W 0 + t) % v2L W 0 = t by rw [Nat.mul_comm, Nat.mul_add_mod, Nat.mod_eq_of_lt ht'], v2R_done]
end Go.Proofs.YtodlkpcbkilglaaDoor
