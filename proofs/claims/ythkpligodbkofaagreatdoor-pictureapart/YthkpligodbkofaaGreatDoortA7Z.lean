import Derived.Test.YthkpligodbkofaaGreatDoortA5Z
import Derived.Deep.RegionHeldLaw
namespace Go.Proofs.YthkpligodbkofaaGreatDoor.Tl
open Go.RowKit

set_option maxHeartbeats 4000000 in
set_option maxRecDepth 1000000 in
theorem rhalf_any (n : Int) (w : World) (h0 : 0 ≤ n) (h1 : n ≤ 9223372036854775807) : Calls Tryz.prog 69 #[.int .i64 n] w fun e w' => e = .returned (.int .i64 (hf n)) ∧ w' = w := by
  go_enter Tryz.func69, Tryz.ntmps69
  go_wp2
  go_ret
  exact ⟨rfl, rfl⟩

set_option maxHeartbeats 4000000 in
set_option maxRecDepth 1000000 in
theorem count_any (W H D : Int) (A : Bool) (w : World) : Calls Tryz.prog 39 #[shv W H D A] w fun e w' => e = .returned (.int .i64 (np A : Int)) ∧ Kept [] w w' := by
  cases A
  · go_enter Tryz.func39, Tryz.ntmps39
    go_wp2
    go_ret
    exact ⟨rfl, (Kept.refl _ _).alloc _⟩
  · go_enter Tryz.func39, Tryz.ntmps39
    go_wp2
    go_ret
    exact ⟨rfl, (Kept.refl _ _).alloc _⟩

set_option maxHeartbeats 4000000 in
set_option maxRecDepth 1000000 in
theorem rthere_any (W H D p : Int) (A : Bool) (w : World) : Calls Tryz.prog 92 #[shv W H D A, .int .i64 p] w fun e w' => e = .returned (.bool (decide (0 ≤ p ∧ p < (np A : Int)))) ∧ Kept [] w w' := by
  have C := Hid.mk (fun u => count_any W H D A u)
  have hn : (np A : Int) ≤ 4 ∧ 0 ≤ (np A : Int) := by cases A <;> decide
  obtain ⟨n, en⟩ : ∃ n : Nat, n = np A := ⟨_, rfl⟩
  rw [← en] at C hn ⊢
  clear en
  by_cases h1 : 0 ≤ p
  · go_enter Tryz.func92, Tryz.ntmps92
    go_wp2_with (go_at_call 39; refine (C.out _).mono ?_; rintro e w1 ⟨rfl, hk1⟩)
    go_ret
    exact ⟨ret_bool (by simp [h1]), ((Kept.refl _ _).alloc _).trans hk1⟩
  · go_enter Tryz.func92, Tryz.ntmps92
    go_wp2
    go_ret
    exact ⟨ret_bool (by rw [decide_eq_false (show ¬ 0 ≤ p by omega)]; rfl), (Kept.refl _ _).alloc _⟩

set_option maxHeartbeats 4000000 in
set_option maxRecDepth 1000000 in
theorem wide_any (W H D p : Int) (A : Bool) (w : World) (h0 : 0 ≤ W) (h1 : W ≤ 4096) : Calls Tryz.prog 40 #[shv W H D A, .int .i64 p] w fun e w' => e = .returned (.int .i64 (wp W p)) ∧ Kept [] w w' := by
  have C2 := Hid.mk (fun u => rhalf_any W u h0 (by omega))
  by_cases h1 : p = 1
  · subst h1
    rw [show wp W 1 = hf W from if_pos (.inl rfl)]
    go_enter Tryz.func40, Tryz.ntmps40
    go_wp2_with (first | (go_at_call 69; refine (C2.out _).mono ?_; rintro e w1 ⟨rfl, hw⟩; obtain rfl := hw.symm))
    go_ret
    exact ⟨rfl, (Kept.refl _ _).alloc _⟩
  · by_cases h2 : p = 2
    · subst h2
      rw [show wp W 2 = hf W from if_pos (.inr rfl)]
      go_enter Tryz.func40, Tryz.ntmps40
      go_wp2_with (first | (go_at_call 69; refine (C2.out _).mono ?_; rintro e w1 ⟨rfl, hw⟩; obtain rfl := hw.symm))
      go_ret
      exact ⟨rfl, (Kept.refl _ _).alloc _⟩
    · have e1 : (p == 1) = false := by simpa using h1
      have e2 : (p == 2) = false := by simpa using h2
      rw [show wp W p = W from if_neg (by omega)]
      clear h1 h2
      go_enter Tryz.func40, Tryz.ntmps40
      go_wp2
      go_ret
      exact ⟨rfl, (Kept.refl _ _).alloc _⟩

set_option maxHeartbeats 4000000 in
set_option maxRecDepth 1000000 in
theorem rlies_any (X Y W H wd ht : Int) (w : World) (hX : -9223372036854775808 ≤ X ∧ X ≤ 9223372036854775807) (hY : -9223372036854775808 ≤ Y ∧ Y ≤ 9223372036854775807) (hw : 1 ≤ wd ∧ wd ≤ 4096) (hh : 1 ≤ ht ∧ ht ≤ 4096) :
    Calls Tryz.prog 109 #[rcv X Y W H, .int .i64 wd, .int .i64 ht] w fun e w' => e = .returned (.bool (lie X Y W H wd ht)) ∧ Kept [] w w' := by
  unfold lie
  by_cases k0 : W < 1
  · skip
    go_enter Tryz.func109, Tryz.ntmps109
    go_wp2
    go_ret
    exact ⟨ret_bool (by first | exact (decide_eq_false (by omega)).symm | (simp only [Bool.and_eq_true, decide_eq_true_eq]; omega) | (simp; omega)), (Kept.refl _ _).alloc _⟩
  · skip
    by_cases k1 : H < 1
    · skip
      go_enter Tryz.func109, Tryz.ntmps109
      go_wp2
      go_ret
      exact ⟨ret_bool (by first | exact (decide_eq_false (by omega)).symm | (simp only [Bool.and_eq_true, decide_eq_true_eq]; omega) | (simp; omega)), (Kept.refl _ _).alloc _⟩
    · skip
      by_cases k2 : X < 0
      · skip
        go_enter Tryz.func109, Tryz.ntmps109
        go_wp2
        go_ret
        exact ⟨ret_bool (by first | exact (decide_eq_false (by omega)).symm | (simp only [Bool.and_eq_true, decide_eq_true_eq]; omega) | (simp; omega)), (Kept.refl _ _).alloc _⟩
      · skip
        by_cases k3 : Y < 0
        · skip
          go_enter Tryz.func109, Tryz.ntmps109
          go_wp2
          go_ret
          exact ⟨ret_bool (by first | exact (decide_eq_false (by omega)).symm | (simp only [Bool.and_eq_true, decide_eq_true_eq]; omega) | (simp; omega)), (Kept.refl _ _).alloc _⟩
        · skip
          by_cases k4 : wd < W
          · skip
            go_enter Tryz.func109, Tryz.ntmps109
            go_wp2
            go_ret
            exact ⟨ret_bool (by first | exact (decide_eq_false (by omega)).symm | (simp only [Bool.and_eq_true, decide_eq_true_eq]; omega) | (simp; omega)), (Kept.refl _ _).alloc _⟩
          · skip
            by_cases k5 : ht < H
            · skip
              go_enter Tryz.func109, Tryz.ntmps109
              go_wp2
              go_ret
              exact ⟨ret_bool (by first | exact (decide_eq_false (by omega)).symm | (simp only [Bool.and_eq_true, decide_eq_true_eq]; omega) | (simp; omega)), (Kept.refl _ _).alloc _⟩
            · skip
              by_cases k6 : X ≤ wd - W
              · skip
                by_cases k7 : Y ≤ ht - H
                · skip
                  go_enter Tryz.func109, Tryz.ntmps109
                  go_wp2
                  go_ret
                  exact ⟨ret_bool (by first | exact (decide_eq_true (by omega)).symm | (simp only [Bool.and_eq_true, decide_eq_true_eq]; omega) | (simp; omega)), (Kept.refl _ _).alloc _⟩
                · skip
                  go_enter Tryz.func109, Tryz.ntmps109
                  go_wp2
                  go_ret
                  exact ⟨ret_bool (by first | exact (decide_eq_false (by omega)).symm | (simp only [Bool.and_eq_true, decide_eq_true_eq]; omega) | (simp; omega)), (Kept.refl _ _).alloc _⟩
              · skip
                go_enter Tryz.func109, Tryz.ntmps109
                go_wp2
                go_ret
                exact ⟨ret_bool (by first | exact (decide_eq_false (by omega)).symm | (simp only [Bool.and_eq_true, decide_eq_true_eq]; omega) | (simp; omega)), (Kept.refl _ _).alloc _⟩

set_option maxHeartbeats 4000000 in
set_option maxRecDepth 1000000 in
theorem rtotal_any (W H D : Int) (A : Bool) (w : World) (h0 : 1 ≤ W) (h1 : W ≤ 4096) (h2 : 1 ≤ H) (h3 : H ≤ 4096) : Calls Tryz.prog 68 #[shv W H D A] w fun e w' => e = .returned (.int .i64 (tot W H A)) ∧ Kept [] w w' := by
  have C := Hid.mk (fun u => count_any W H D A u)
  have C2 := Hid.mk (fun u (p : Nat) => wide_any W H D p A u (by omega) h1)
  have hn : np A ≤ 4 := by cases A <;> decide
  have E := Hid.mk (sT_np W H A)
  obtain ⟨n, en⟩ : ∃ n : Nat, n = np A := ⟨_, rfl⟩
  rw [← en] at C hn E
  clear en
  have HB := Hid.mk (sT_lo h0 h1 h2 h3)
  have HP := Hid.mk (fun p => wpH p h0 h1 h2 h3)
  have hcs := Hid.mk (Sat.new w W H D A 26)
  have HK := Hid.mk (alloc_kept w (.cells #[.int .i64 W, .int .i64 H, .int .i64 D, .bool A] 26))
  obtain ⟨w1, ew1⟩ : ∃ w1, w1 = w.alloc (.cells #[.int .i64 W, .int .i64 H, .int .i64 D, .bool A] 26) := ⟨_, rfl⟩
  rw [← ew1] at hcs HK
  have EW := Hid.mk ew1
  clear ew1
  go_enter Tryz.func68, Tryz.ntmps68
  go_wp2_with (fail)
  rw [← EW.out]
  obtain ⟨b, eb⟩ : ∃ b, b = w.heap.size := ⟨_, rfl⟩
  rw [← eb] at hcs ⊢
  clear eb EW
  go_loopw [3, 4] (fun s i wr => ∃ k : Nat, k ≤ n ∧ i = .int .i64 (k : Int) ∧ s = .int .i64 (sT W H k) ∧ Kept [] w1 wr) (fun _ i _ => n - (intOf i).toNat)
  case atStart => exact ⟨0, by omega, rfl, rfl, Kept.refl _ _⟩
  case round =>
    obtain ⟨k, hk, rfl, rfl, hkr⟩ := hrel
    have Hkr := Hid.mk hkr
    obtain ⟨q0, q1, q2, q3⟩ := hcs.out.keep hkr (by simp)
    by_cases hlt : k < n
    · have b1 := HP.out (k : Int)
      have b2 := HB.out k
      have ES := Hid.mk (show sT W H (k + 1) = sT W H k + wp W k * H from rfl)
      have D2 := Hid.mk (fun u => C2.out u k)
      obtain ⟨x, ex⟩ : ∃ x, x = wp W k := ⟨_, rfl⟩
      rw [← ex] at b1 ES D2
      have hwr : IntKind.i64.wrap (x * H) = x * H := wrap_i (by omega) (by omega)
      have hwr2 : IntKind.i64.wrap (sT W H k + x * H) = sT W H k + x * H := wrap_i (by omega) (by omega)
      clear ex hkr
      go_wp2_with (go_at_call 39; refine (C.out _).mono ?_; rintro e w2 ⟨rfl, hk2⟩; obtain ⟨r0, r1, r2, r3⟩ := Sat.keep ⟨q0, q1, q2, q3⟩ hk2 (by simp))
      have K2 := Hid.mk (Hkr.out.trans hk2)
      have R2 := Hid.mk (Sat.keep ⟨q0, q1, q2, q3⟩ hk2 (by simp))
      clear hk2 q0 q1 q2 q3 Hkr
      go_region_held_law (fun w' => w'.cell? ⟨b, 0, none⟩ = some (.int .i64 W) ∧ w'.cell? ⟨b, 1, none⟩ = some (.int .i64 H) ∧ w'.cell? ⟨b, 2, none⟩ = some (.int .i64 D) ∧ w'.cell? ⟨b, 3, none⟩ = some (.bool A)) (first | exact ⟨r0, r1, r2, r3⟩ | exact ⟨t0, t1, t2, t3⟩ | go_keep) (first | (go_at_call 40; refine (D2.out _).mono ?_; rintro e w3 ⟨rfl, hk3⟩; obtain ⟨t0, t1, t2, t3⟩ := R2.out.keep hk3.undrew (by simp)))
      all_goals go_wp2
      all_goals go_roundw
      all_goals first
        | exact ⟨k + 1, by omega, by go_num, by rw [ES.out], K2.out.trans hk3.undrew⟩
        | (simp [intOf]; omega)
    · obtain rfl : n = k := by omega
      go_wp2_with (go_at_call 39; refine (C.out _).mono ?_; rintro e w2 ⟨rfl, hk2⟩)
      go_ret
      exact ⟨ret_int E.out, (HK.out.trans Hkr.out).trans hk2⟩

set_option maxHeartbeats 4000000 in
set_option maxRecDepth 1000000 in
theorem rshaped_any (W H D : Int) (A : Bool) (w : World) : Calls Tryz.prog 36 #[shv W H D A] w fun e w' => e = .returned (.int .i64 (shE W H D A)) ∧ Kept [] w w' := by
  have hk0 := Hid.mk ((Kept.refl [] w).alloc (.cells #[.int .i64 W, .int .i64 H, .int .i64 D, .bool A] 26))
  by_cases k2 : W < 1
  · skip
    have E := Hid.mk (shE_no (W := W) (H := H) (D := D) (A := A) (fun h => by have := h.1; have := h.2.1; have := h.2.2.1; omega))
    go_enter Tryz.func36, Tryz.ntmps36
    go_wp2
    go_ret
    exact ⟨ret_int E.out.symm, hk0.out⟩
  · skip
    by_cases k4 : 4096 < W
    · skip
      have E := Hid.mk (shE_no (W := W) (H := H) (D := D) (A := A) (fun h => by have := h.1; have := h.2.1; have := h.2.2.1; omega))
      go_enter Tryz.func36, Tryz.ntmps36
      go_wp2
      go_ret
      exact ⟨ret_int E.out.symm, hk0.out⟩
    · skip
      by_cases k6 : H < 1
      · skip
        have E := Hid.mk (shE_no (W := W) (H := H) (D := D) (A := A) (fun h => by have := h.1; have := h.2.1; have := h.2.2.1; omega))
        go_enter Tryz.func36, Tryz.ntmps36
        go_wp2
        go_ret
        exact ⟨ret_int E.out.symm, hk0.out⟩
      · skip
        by_cases k8 : 4096 < H
        · skip
          have E := Hid.mk (shE_no (W := W) (H := H) (D := D) (A := A) (fun h => by have := h.1; have := h.2.1; have := h.2.2.1; omega))
          go_enter Tryz.func36, Tryz.ntmps36
          go_wp2
          go_ret
          exact ⟨ret_int E.out.symm, hk0.out⟩
        · skip
          by_cases hD : D = 10 ∨ D = 12
          · skip
            have C3 := Hid.mk (fun u => rtotal_any W H D A u (by omega) (by omega) (by omega) (by omega))
            by_cases hT : tot W H A ≤ 4194304
            · have E := Hid.mk (shE_ok (W := W) (H := H) (D := D) (A := A) ⟨by omega, by omega, hD, hT⟩)
              obtain ⟨T, eT⟩ : ∃ T, T = tot W H A := ⟨_, rfl⟩
              rw [← eT] at hT C3
              clear eT
              rcases hD with rfl | rfl
              · go_enter Tryz.func36, Tryz.ntmps36
                go_wp2_with (go_at_call 68; refine (C3.out _).mono ?_; rintro e w2 ⟨rfl, hk2⟩)
                go_ret
                exact ⟨ret_int E.out.symm, hk0.out.trans hk2⟩
              · go_enter Tryz.func36, Tryz.ntmps36
                go_wp2_with (go_at_call 68; refine (C3.out _).mono ?_; rintro e w2 ⟨rfl, hk2⟩)
                go_ret
                exact ⟨ret_int E.out.symm, hk0.out.trans hk2⟩
            · have E := Hid.mk (shE_no (W := W) (H := H) (D := D) (A := A) (fun h => hT h.2.2.2))
              obtain ⟨T, eT⟩ : ∃ T, T = tot W H A := ⟨_, rfl⟩
              rw [← eT] at hT C3
              clear eT
              rcases hD with rfl | rfl
              · go_enter Tryz.func36, Tryz.ntmps36
                go_wp2_with (go_at_call 68; refine (C3.out _).mono ?_; rintro e w2 ⟨rfl, hk2⟩)
                go_ret
                exact ⟨ret_int E.out.symm, hk0.out.trans hk2⟩
              · go_enter Tryz.func36, Tryz.ntmps36
                go_wp2_with (go_at_call 68; refine (C3.out _).mono ?_; rintro e w2 ⟨rfl, hk2⟩)
                go_ret
                exact ⟨ret_int E.out.symm, hk0.out.trans hk2⟩
          · skip
            have E := Hid.mk (shE_no (W := W) (H := H) (D := D) (A := A) (fun h => by have := h.1; have := h.2.1; have := h.2.2.1; omega))
            have d1 : (D != 10) = true := by simp; omega
            have d2 : (D != 12) = true := by simp; omega
            clear hD
            go_enter Tryz.func36, Tryz.ntmps36
            go_wp2
            go_ret
            exact ⟨ret_int E.out.symm, hk0.out⟩
end Go.Proofs.YthkpligodbkofaaGreatDoor.Tl

namespace Go.Proofs.YthkpligodbkofaaGreatDoor.Tl
open Go.RowKit

/-- A number by another one, rounded up. -/
def cl (a b : Int) : Int := (a + b - 1) / b
/-- A grid's numbers. -/
structure Gd (W H sw sh c r : Int) : Prop where
  w0 : 1 ≤ W
  w1 : W ≤ 4096
  h0 : 1 ≤ H
  h1 : H ≤ 4096
  s0 : 16 ≤ sw
  s1 : sw ≤ 4096
  se : sw % 2 = 0
  t0 : 16 ≤ sh
  t1 : sh ≤ 4096
  c0 : 1 ≤ c
  c1 : c ≤ 256
  r0 : 1 ≤ r
  r1 : r ≤ 256
  cw : (c - 1) * sw < W
  cx : W ≤ c * sw
  rh : (r - 1) * sh < H
  rx : H ≤ r * sh
theorem cl_lo {a b : Int} (h : 1 ≤ a) (h2 : 16 ≤ b) : 1 ≤ cl a b := by
  unfold cl
  exact Int.le_ediv_of_mul_le (by omega) (by omega)
theorem cl_hi {a b : Int} (h1 : a ≤ 4096) (h2 : 16 ≤ b) : cl a b ≤ 256 := by
  unfold cl
  have : (a + b - 1) / b < 257 := Int.ediv_lt_of_lt_mul (by omega) (by omega)
  omega
theorem cl_lt {a b : Int} (h2 : 16 ≤ b) : (cl a b - 1) * b < a := by
  unfold cl
  have h := Int.ediv_mul_le (a + b - 1) (b := b) (by omega)
  rw [Int.sub_mul]; omega
theorem cl_le {a b : Int} (h2 : 16 ≤ b) : a ≤ cl a b * b := by
  unfold cl
  have h := Int.lt_ediv_add_one_mul_self (a + b - 1) (b := b) (by omega)
  rw [Int.add_mul] at h; omega
theorem Gd.of {W H sw sh : Int} (w0 : 1 ≤ W) (w1 : W ≤ 4096) (h0 : 1 ≤ H) (h1 : H ≤ 4096) (s0 : 16 ≤ sw) (s1 : sw ≤ 4096) (se : sw % 2 = 0) (t0 : 16 ≤ sh) (t1 : sh ≤ 4096) : Gd W H sw sh (cl W sw) (cl H sh) :=
  ⟨w0, w1, h0, h1, s0, s1, se, t0, t1, cl_lo w0 s0, cl_hi w1 s0, cl_lo h0 t0, cl_hi h1 t0, cl_lt s0, cl_le s0, cl_lt t0, cl_le t0⟩

set_option maxHeartbeats 4000000 in
set_option maxRecDepth 1000000 in
theorem parts_any (a b : Int) (w : World) (a0 : 1 ≤ a) (a1 : a ≤ 4096) (b0 : 16 ≤ b) (b1 : b ≤ 4096) : Calls Tryz.prog 88 #[.int .i64 a, .int .i64 b] w fun e w' => e = .returned (.int .i64 (cl a b)) ∧ w' = w := by
  have hw : IntKind.i64.wrap ((a + b - 1).tdiv b) = cl a b := by
    rw [Int.tdiv_eq_ediv_of_nonneg (by omega)]
    have h0 := cl_lo a0 b0
    have h1 := cl_hi a1 b0
    unfold cl at h0 h1 ⊢
    exact wrap_i (by omega) (by omega)
  have hb : b ≠ 0 := by omega
  go_enter Tryz.func88, Tryz.ntmps88
  go_wp2
  go_ret
  exact ⟨by first | rfl | (rw [hw]) | (exact ret_int (by first | exact hw | (simp; done))), rfl⟩

set_option maxHeartbeats 4000000 in
theorem tsided_any (x : Int) (w : World) : Calls Tryz.prog 87 #[.int .i64 x] w fun e w' => e = .returned (.bool (decide (16 ≤ x ∧ x ≤ 4096))) ∧ w' = w := by
  by_cases h : 16 ≤ x
  · go_enter Tryz.func87, Tryz.ntmps87
    go_wp2
    go_ret
    exact ⟨ret_bool (by simp; try omega), rfl⟩
  · go_enter Tryz.func87, Tryz.ntmps87
    go_wp2
    go_ret
    exact ⟨ret_bool (by simp; try omega), rfl⟩

/-- Which of n things a raw number speaks of. -/
def pick (c n : Int) : Int := if c < 0 then (-(c + 1)) % n else c % n
theorem pick_lo (c n : Int) (h : 0 < n) : 0 ≤ pick c n := by
  unfold pick; split <;> exact Int.emod_nonneg _ (by omega)
theorem pick_hi (c n : Int) (h : 0 < n) : pick c n < n := by
  unfold pick; split <;> exact Int.emod_lt_of_pos _ h

/-- A grid in memory. -/
def Gr (w : World) (P : Nat) (W H D : Int) (A : Bool) (sw sh c r : Int) : Prop :=
  w.heap[P]? = some (.cells #[.int .i64 W, .int .i64 H, .int .i64 D, .bool A, .int .i64 sw, .int .i64 sh, .int .i64 c, .int .i64 r] 121 (0, 0))
theorem Gr.keep {w w' : World} {P : Nat} {W H D sw sh c r : Int} {A : Bool} {ks : List Nat} (h : Gr w P W H D A sw sh c r) (hk : Kept ks w w') (hn : P ∉ ks) : Gr w' P W H D A sw sh c r := hk.heap h hn
theorem eight {w : World} {B t : Nat} {a b c d e f g h : Value} (hh : w.heap[B]? = some (.cells #[a, b, c, d, e, f, g, h] t (0, 0))) :
    w.cell? ⟨B, 0, none⟩ = some a ∧ w.cell? ⟨B, 1, none⟩ = some b ∧ w.cell? ⟨B, 2, none⟩ = some c ∧ w.cell? ⟨B, 3, none⟩ = some d ∧ w.cell? ⟨B, 4, none⟩ = some e ∧ w.cell? ⟨B, 5, none⟩ = some f ∧ w.cell? ⟨B, 6, none⟩ = some g ∧ w.cell? ⟨B, 7, none⟩ = some h := by
  refine ⟨?_, ?_, ?_, ?_, ?_, ?_, ?_, ?_⟩
  all_goals (rw [cell_of_row _ _ _ _ _ _ hh]; rfl)

set_option maxHeartbeats 4000000 in
set_option maxRecDepth 1000000 in
theorem count_any' (P : Nat) (W H D sw sh c r : Int) (A : Bool) (w : World) (hg : Gr w P W H D A sw sh c r) (c0 : 1 ≤ c) (c1 : c ≤ 256) (r0 : 1 ≤ r) (r1 : r ≤ 256) :
    Calls Tryz.prog 30 #[.pointer (some ⟨P, 0, none⟩)] w fun e w' => e = .returned (.int .i64 (c * r)) ∧ Kept [] w w' := by
  obtain ⟨g0, g1, g2, g3, g4, g5, g6, g7⟩ := eight hg
  have hm : IntKind.i64.wrap (c * r) = c * r := by
    have h1 : 0 ≤ c * r := Int.mul_nonneg (by omega) (by omega)
    have h2 : c * r ≤ 256 * 256 := Int.mul_le_mul c1 r1 (by omega) (by omega)
    exact wrap_i (by omega) (by omega)
  clear c0 c1 r0 r1
  go_enter Tryz.func30, Tryz.ntmps30
  go_wp2
  go_quiet (fail)
  go_wp2
  go_ret
  exact ⟨rfl, (Kept.refl _ _).drewN _⟩


/-- A slice's place. -/
def sX (c sw k : Int) : Int := k % c * sw
def sY (c sh k : Int) : Int := k / c * sh
theorem sX_in {W H sw sh c r : Int} (g : Gd W H sw sh c r) (k : Int) : 0 ≤ sX c sw k ∧ sX c sw k < W ∧ sX c sw k % 2 = 0 := by
  unfold sX
  have m0 : 0 ≤ k % c := Int.emod_nonneg _ (by have := g.c0; omega)
  have m1 : k % c < c := Int.emod_lt_of_pos _ (by have := g.c0; omega)
  refine ⟨Int.mul_nonneg m0 (by have := g.s0; omega), Int.lt_of_le_of_lt (Int.mul_le_mul_of_nonneg_right (show k % c ≤ c - 1 by omega) (by have := g.s0; omega)) g.cw, ?_⟩
  rw [Int.mul_emod, g.se]; simp
theorem sY_in {W H sw sh c r : Int} (g : Gd W H sw sh c r) {k : Int} (h0 : 0 ≤ k) (h1 : k < c * r) : 0 ≤ sY c sh k ∧ sY c sh k < H := by
  unfold sY
  have m0 : 0 ≤ k / c := Int.ediv_nonneg h0 (by have := g.c0; omega)
  have m1 : k / c < r := Int.ediv_lt_of_lt_mul (by have := g.c0; omega) (by rwa [Int.mul_comm] at h1)
  exact ⟨Int.mul_nonneg m0 (by have := g.t0; omega), Int.lt_of_le_of_lt (Int.mul_le_mul_of_nonneg_right (show k / c ≤ r - 1 by omega) (by have := g.t0; omega)) g.rh⟩
/-- The slice in which a sample is. -/
def sA (c sw sh x y : Int) : Int := y / sh * c + x / sw
theorem at_x {W H sw sh c r : Int} (g : Gd W H sw sh c r) {x : Int} (h0 : 0 ≤ x) (h1 : x < W) : 0 ≤ x / sw ∧ x / sw < c := by
  refine ⟨Int.ediv_nonneg h0 (by have := g.s0; omega), Int.ediv_lt_of_lt_mul (by have := g.s0; omega) (by have := g.cx; omega)⟩
theorem at_y {W H sw sh c r : Int} (g : Gd W H sw sh c r) {y : Int} (h0 : 0 ≤ y) (h1 : y < H) : 0 ≤ y / sh ∧ y / sh < r := by
  refine ⟨Int.ediv_nonneg h0 (by have := g.t0; omega), Int.ediv_lt_of_lt_mul (by have := g.t0; omega) (by have := g.rx; omega)⟩
theorem sA_in {W H sw sh c r : Int} (g : Gd W H sw sh c r) {x y : Int} (h0 : 0 ≤ x) (h1 : x < W) (h2 : 0 ≤ y) (h3 : y < H) : 0 ≤ sA c sw sh x y ∧ sA c sw sh x y < c * r := by
  have ⟨a0, a1⟩ := at_x g h0 h1
  have ⟨b0, b1⟩ := at_y g h2 h3
  unfold sA
  have m := Int.mul_nonneg b0 (show 0 ≤ c by have := g.c0; omega)
  have m2 : (y / sh + 1) * c ≤ r * c := Int.mul_le_mul_of_nonneg_right (by omega) (by have := g.c0; omega)
  rw [Int.add_mul] at m2
  rw [Int.mul_comm c r]
  omega

theorem w64_in {x : Int} (h0 : -9223372036854775808 ≤ x) (h1 : x ≤ 9223372036854775807) : wrap64 x = x := by unfold wrap64; omega
theorem one_new (w : World) (cs : Array Value) (t : Nat) : ∃ w1, w1 = w.alloc (.cells cs t (0, 0)) ∧ Kept [] w w1 ∧ w1.heap[w.heap.size]? = some (.cells cs t (0, 0)) :=
  ⟨_, rfl, alloc_kept _ _, heap_alloc_new _ _⟩
theorem _root_.Go.Proofs.YthkpligodbkofaaGreatDoor.Kept.new {w w1 : World} (h : Kept [] w w1) {ks : List Nat} {w2 : World} (h2 : Kept ks w1 w2) (hk : ∀ x ∈ ks, w.heap.size ≤ x) : Kept [] w w2 := h.step h2 (fun x hx => .inr (hk x hx))

end Go.Proofs.YthkpligodbkofaaGreatDoor.Tl

namespace Go.Proofs.YthkpligodbkofaaGreatDoor.Tl
open Go.RowKit

set_option maxHeartbeats 8000000 in
set_option maxRecDepth 1000000 in
theorem rwhole_any (W H D X Y rw rh : Int) (A : Bool) (w : World) (hX : -9223372036854775808 ≤ X ∧ X ≤ 9223372036854775807) (hY : -9223372036854775808 ≤ Y ∧ Y ≤ 9223372036854775807) (hW : 1 ≤ W ∧ W ≤ 4096) (hH : 1 ≤ H ∧ H ≤ 4096) :
    Calls Tryz.prog 93 #[shv W H D A, rcv X Y rw rh] w fun e w' => e = .returned (.bool (whl W H X Y rw rh)) ∧ Kept [] w w' := by
  have C := Hid.mk (fun u => rlies_any X Y rw rh W H u hX hY hW hH)
  have S0 := Hid.mk ((Sat.new w W H D A 26).keep (alloc_kept _ (.cells #[.int .i64 X, .int .i64 Y, .int .i64 rw, .int .i64 rh] 60)) (by simp))
  have R0 := Hid.mk (Rat.new (w.alloc (.cells #[.int .i64 W, .int .i64 H, .int .i64 D, .bool A] 26)) X Y rw rh 60)
  rw [World.size_alloc] at R0
  have K0 := Hid.mk ((alloc_kept w (.cells #[.int .i64 W, .int .i64 H, .int .i64 D, .bool A] 26)).trans (alloc_kept _ (.cells #[.int .i64 X, .int .i64 Y, .int .i64 rw, .int .i64 rh] 60)))
  obtain ⟨w1, ew1⟩ : ∃ w1, w1 = (w.alloc (.cells #[.int .i64 W, .int .i64 H, .int .i64 D, .bool A] 26)).alloc (.cells #[.int .i64 X, .int .i64 Y, .int .i64 rw, .int .i64 rh] 60) := ⟨_, rfl⟩
  rw [← ew1] at S0 R0 K0
  have EW := Hid.mk ew1
  clear ew1
  by_cases hl : 1 ≤ rw ∧ 1 ≤ rh ∧ 0 ≤ X ∧ 0 ≤ Y ∧ X + rw ≤ W ∧ Y + rh ≤ H
  · have e1 : lie X Y rw rh W H = true := decide_eq_true hl
    rw [e1] at C
    obtain ⟨l1, l2, l3, l4, l5, l6⟩ := hl
    clear e1
    by_cases hx : X % 2 = 0
    · have hx' : (X % 2 == 0) = true := by simp [hx]
      by_cases hr : rw % 2 = 0
      · have hr' : (rw % 2 == 0) = true := by simp [hr]
        have E : Hid (whl W H X Y rw rh = true) := Hid.mk (decide_eq_true ⟨⟨l1, l2, l3, l4, l5, l6⟩, hx, .inl hr⟩)
        clear hx hr
        go_enter Tryz.func93, Tryz.ntmps93
        go_wp2_with (go_at_call 109; rw [← EW.out]; refine (C.out _).mono ?_; rintro e w2 ⟨rfl, hk2⟩; obtain ⟨p0, p1, p2, p3⟩ := S0.out.keep hk2 (by simp); obtain ⟨t0, t1, t2, t3⟩ := R0.out.keep hk2 (by simp); have hk02 := Hid.mk (K0.out.trans hk2))
        go_ret
        exact ⟨ret_bool E.out.symm, hk02.out⟩
      · have hr' : (rw % 2 == 0) = false := by simpa using hr
        have E : Hid (whl W H X Y rw rh = (X + rw == W)) := Hid.mk (by
          by_cases hq : X + rw = W
          · rw [show whl W H X Y rw rh = true from decide_eq_true ⟨⟨l1, l2, l3, l4, l5, l6⟩, hx, .inr hq⟩]; simp [hq]
          · rw [show whl W H X Y rw rh = false from decide_eq_false (fun h => h.2.2.elim hr hq)]; simp [hq])
        clear hx hr
        go_enter Tryz.func93, Tryz.ntmps93
        go_wp2_with (go_at_call 109; rw [← EW.out]; refine (C.out _).mono ?_; rintro e w2 ⟨rfl, hk2⟩; obtain ⟨p0, p1, p2, p3⟩ := S0.out.keep hk2 (by simp); obtain ⟨t0, t1, t2, t3⟩ := R0.out.keep hk2 (by simp); have hk02 := Hid.mk (K0.out.trans hk2))
        go_ret
        exact ⟨ret_bool E.out.symm, hk02.out⟩
    · have hx' : (X % 2 == 0) = false := by simpa using hx
      have E : Hid (whl W H X Y rw rh = false) := Hid.mk (decide_eq_false (fun h => hx h.2.1))
      clear hx
      go_enter Tryz.func93, Tryz.ntmps93
      go_wp2_with (go_at_call 109; rw [← EW.out]; refine (C.out _).mono ?_; rintro e w2 ⟨rfl, hk2⟩; obtain ⟨p0, p1, p2, p3⟩ := S0.out.keep hk2 (by simp); obtain ⟨t0, t1, t2, t3⟩ := R0.out.keep hk2 (by simp); have hk02 := Hid.mk (K0.out.trans hk2))
      go_ret
      exact ⟨ret_bool E.out.symm, hk02.out⟩
  · have e1 : lie X Y rw rh W H = false := decide_eq_false hl
    rw [e1] at C
    have E : Hid (whl W H X Y rw rh = false) := Hid.mk (decide_eq_false (fun h => hl h.1))
    clear e1 hl
    go_enter Tryz.func93, Tryz.ntmps93
    go_wp2_with (go_at_call 109; rw [← EW.out]; refine (C.out _).mono ?_; rintro e w2 ⟨rfl, hk2⟩; obtain ⟨p0, p1, p2, p3⟩ := S0.out.keep hk2 (by simp); obtain ⟨t0, t1, t2, t3⟩ := R0.out.keep hk2 (by simp); have hk02 := Hid.mk (K0.out.trans hk2))
    go_ret
    exact ⟨ret_bool E.out.symm, hk02.out⟩

set_option maxHeartbeats 8000000 in
set_option maxRecDepth 1000000 in
theorem rhalfR_any (W H D p X Y rw rh : Int) (A : Bool) (w : World) (hX : -9223372036854775808 ≤ X ∧ X ≤ 9223372036854775807) (hY : -9223372036854775808 ≤ Y ∧ Y ≤ 9223372036854775807) :
    Calls Tryz.prog 67 #[shv W H D A, .int .i64 p, rcv X Y rw rh] w fun e w' => e = .returned (.tuple #[if hE W H D p X Y rw rh A = 0 then rcv (bX p X) Y (bW p rw) rh else rcv 0 0 0 0, .int .i64 (hE W H D p X Y rw rh A)]) ∧ Kept [] w w' := by
  have C := Hid.mk (fun u => rshaped_any W H D A u)
  have N := three_new w (.int .i64 W) (.int .i64 H) (.int .i64 D) (.bool A) (.int .i64 X) (.int .i64 Y) (.int .i64 rw) (.int .i64 rh) (.int .i64 0) (.int .i64 0) (.int .i64 0) (.int .i64 0) 26 60 60
  obtain ⟨w1, ew1⟩ : ∃ w1, w1 = ((w.alloc (.cells #[.int .i64 W, .int .i64 H, .int .i64 D, .bool A] 26 (0, 0))).alloc (.cells #[.int .i64 X, .int .i64 Y, .int .i64 rw, .int .i64 rh] 60 (0, 0))).alloc (.cells #[.int .i64 0, .int .i64 0, .int .i64 0, .int .i64 0] 60 (0, 0)) := ⟨_, rfl⟩
  rw [← ew1] at N
  have HN := Hid.mk N
  have EW := Hid.mk ew1
  clear N ew1
  rcases shE_two W H D A with ⟨e1, h1⟩ | ⟨e1, h1⟩
  · rw [e1] at C
    have C2 := Hid.mk (fun u => rthere_any W H D p A u)
    have C3 := Hid.mk (fun u => rwhole_any W H D X Y rw rh A u hX hY h1.1 h1.2.1)
    by_cases hp : 0 ≤ p ∧ p < (np A : Int)
    · rw [decide_eq_true hp] at C2
      by_cases hw : whl W H X Y rw rh = true
      · have hd := of_decide_eq_true hw
        have hd1 : 0 ≤ X ∧ X ≤ 4096 := by have := h1.1; omega
        have C4 := Hid.mk (fun u => rhalf_any rw u (by omega) (by have := h1.1; omega))
        rw [hw] at C3
        rw [show hE W H D p X Y rw rh A = 0 by unfold hE; rw [if_pos e1, if_pos ⟨hp, hw⟩], if_pos rfl]
        have hdv : IntKind.i64.wrap (X.tdiv 2) = X / 2 := by rw [Int.tdiv_eq_ediv_of_nonneg hd1.1]; exact wrap_i (by omega) (by omega)
        clear e1 h1 hp hw hd
        by_cases hc : p = 1 ∨ p = 2
        · rw [show bX p X = X / 2 from if_pos hc, show bW p rw = hf rw from if_pos hc]
          have c1 : ((p == 1) = true) ∨ ((p == 1) = false ∧ (p == 2) = true) := by
            rcases hc with h | h
            · exact .inl (by simp [h])
            · exact .inr ⟨by simp [h], by simp [h]⟩
          clear hc
          rcases c1 with k1 | ⟨k1, k2⟩
          · go_enter Tryz.func67, Tryz.ntmps67
            go_wp2_with (first | (go_at_call 36; rw [← EW.out]; refine (C.out _).mono ?_; rintro e w2 ⟨rfl, hk2⟩; obtain ⟨⟨c0, c1, c2, c3⟩, _⟩ := four (hk2.heap HN.out.1 (by simp)); obtain ⟨⟨r0, r1, r2, r3⟩, _⟩ := four (hk2.heap HN.out.2.1 (by simp))) | (go_at_call 92; refine (C2.out _).mono ?_; rintro e w3 ⟨rfl, hk3⟩; obtain ⟨⟨d0, d1, d2, d3⟩, _⟩ := four ((hk2.trans hk3).heap HN.out.1 (by simp)); obtain ⟨⟨s0, s1, s2, s3⟩, _⟩ := four ((hk2.trans hk3).heap HN.out.2.1 (by simp))) | (go_at_call 93; refine (C3.out _).mono ?_; rintro e w4 ⟨rfl, hk4⟩; obtain ⟨⟨t0, t1, t2, t3⟩, _⟩ := four ((((hk2.trans hk3).trans hk4)).heap HN.out.2.1 (by simp)); have HR := Hid.mk (((hk2.trans hk3).trans hk4).heap HN.out.2.2.1 (by simp)); obtain ⟨⟨z0, z1, z2, z3⟩, f0, f1, f2, f3⟩ := four HR.out; have KK := Hid.mk (HN.out.2.2.2.trans ((hk2.trans hk3).trans hk4))))
            clear c0 c1 c2 c3 r0 r1 r2 r3 d0 d1 d2 d3 s0 s1 s2 s3
            go_region_held_law (fun w' => w'.cell? ⟨w.heap.size + 1, 0, none⟩ = some (.int .i64 X) ∧ w'.cell? ⟨w.heap.size + 1, 1, none⟩ = some (.int .i64 Y) ∧ w'.cell? ⟨w.heap.size + 1, 2, none⟩ = some (.int .i64 rw) ∧ w'.cell? ⟨w.heap.size + 1, 3, none⟩ = some (.int .i64 rh)) (first | exact ⟨t0, t1, t2, t3⟩ | go_keep) (first | (go_at_call 69; refine (C4.out _).mono ?_; rintro e w5 ⟨rfl, hw⟩; obtain rfl := hw.symm))
            clear z0 z1 z2 z3 f0 f1 f2 f3 t0 t1 t2 t3
            go_wp2
            have s4 := set4 (.int .i64 (X / 2)) (.int .i64 Y) (.int .i64 (hf rw)) (.int .i64 rh) HR.out
            refine bodyPost_ret (v := .tuple #[rcv (X / 2) Y (hf rw) rh, .int .i64 0]) ?_ rfl ⟨rfl, (KK.out.step s4.2 (fun x hx => by simp at hx; subst hx; exact .inr (by omega))).drew⟩
            exact results_two rfl _ _ (w.heap.size + 1 + 1) 60 _ (0, 0) _ _ rfl s4.1 Tryz.underlying60 Tryz.info60 rfl
          · go_enter Tryz.func67, Tryz.ntmps67
            go_wp2_with (first | (go_at_call 36; rw [← EW.out]; refine (C.out _).mono ?_; rintro e w2 ⟨rfl, hk2⟩; obtain ⟨⟨c0, c1, c2, c3⟩, _⟩ := four (hk2.heap HN.out.1 (by simp)); obtain ⟨⟨r0, r1, r2, r3⟩, _⟩ := four (hk2.heap HN.out.2.1 (by simp))) | (go_at_call 92; refine (C2.out _).mono ?_; rintro e w3 ⟨rfl, hk3⟩; obtain ⟨⟨d0, d1, d2, d3⟩, _⟩ := four ((hk2.trans hk3).heap HN.out.1 (by simp)); obtain ⟨⟨s0, s1, s2, s3⟩, _⟩ := four ((hk2.trans hk3).heap HN.out.2.1 (by simp))) | (go_at_call 93; refine (C3.out _).mono ?_; rintro e w4 ⟨rfl, hk4⟩; obtain ⟨⟨t0, t1, t2, t3⟩, _⟩ := four ((((hk2.trans hk3).trans hk4)).heap HN.out.2.1 (by simp)); have HR := Hid.mk (((hk2.trans hk3).trans hk4).heap HN.out.2.2.1 (by simp)); obtain ⟨⟨z0, z1, z2, z3⟩, f0, f1, f2, f3⟩ := four HR.out; have KK := Hid.mk (HN.out.2.2.2.trans ((hk2.trans hk3).trans hk4))))
            clear c0 c1 c2 c3 r0 r1 r2 r3 d0 d1 d2 d3 s0 s1 s2 s3
            go_region_held_law (fun w' => w'.cell? ⟨w.heap.size + 1, 0, none⟩ = some (.int .i64 X) ∧ w'.cell? ⟨w.heap.size + 1, 1, none⟩ = some (.int .i64 Y) ∧ w'.cell? ⟨w.heap.size + 1, 2, none⟩ = some (.int .i64 rw) ∧ w'.cell? ⟨w.heap.size + 1, 3, none⟩ = some (.int .i64 rh)) (first | exact ⟨t0, t1, t2, t3⟩ | go_keep) (first | (go_at_call 69; refine (C4.out _).mono ?_; rintro e w5 ⟨rfl, hw⟩; obtain rfl := hw.symm))
            clear z0 z1 z2 z3 f0 f1 f2 f3 t0 t1 t2 t3
            go_wp2
            have s4 := set4 (.int .i64 (X / 2)) (.int .i64 Y) (.int .i64 (hf rw)) (.int .i64 rh) HR.out
            refine bodyPost_ret (v := .tuple #[rcv (X / 2) Y (hf rw) rh, .int .i64 0]) ?_ rfl ⟨rfl, (KK.out.step s4.2 (fun x hx => by simp at hx; subst hx; exact .inr (by omega))).drew⟩
            exact results_two rfl _ _ (w.heap.size + 1 + 1) 60 _ (0, 0) _ _ rfl s4.1 Tryz.underlying60 Tryz.info60 rfl
        · rw [show bX p X = X from if_neg hc, show bW p rw = rw from if_neg hc]
          have k1 : (p == 1) = false := by simp; omega
          have k2 : (p == 2) = false := by simp; omega
          clear hc
          go_enter Tryz.func67, Tryz.ntmps67
          go_wp2_with (first | (go_at_call 36; rw [← EW.out]; refine (C.out _).mono ?_; rintro e w2 ⟨rfl, hk2⟩; obtain ⟨⟨c0, c1, c2, c3⟩, _⟩ := four (hk2.heap HN.out.1 (by simp)); obtain ⟨⟨r0, r1, r2, r3⟩, _⟩ := four (hk2.heap HN.out.2.1 (by simp))) | (go_at_call 92; refine (C2.out _).mono ?_; rintro e w3 ⟨rfl, hk3⟩; obtain ⟨⟨d0, d1, d2, d3⟩, _⟩ := four ((hk2.trans hk3).heap HN.out.1 (by simp)); obtain ⟨⟨s0, s1, s2, s3⟩, _⟩ := four ((hk2.trans hk3).heap HN.out.2.1 (by simp))) | (go_at_call 93; refine (C3.out _).mono ?_; rintro e w4 ⟨rfl, hk4⟩; obtain ⟨⟨t0, t1, t2, t3⟩, _⟩ := four ((((hk2.trans hk3).trans hk4)).heap HN.out.2.1 (by simp)); have HR := Hid.mk (((hk2.trans hk3).trans hk4).heap HN.out.2.2.1 (by simp)); obtain ⟨⟨z0, z1, z2, z3⟩, f0, f1, f2, f3⟩ := four HR.out; have KK := Hid.mk (HN.out.2.2.2.trans ((hk2.trans hk3).trans hk4))))
          have s4 := set4 (.int .i64 X) (.int .i64 Y) (.int .i64 rw) (.int .i64 rh) HR.out
          refine bodyPost_ret (v := .tuple #[rcv X Y rw rh, .int .i64 0]) ?_ rfl ⟨rfl, (KK.out.step s4.2 (fun x hx => by simp at hx; subst hx; exact .inr (by omega)))⟩
          exact results_two rfl _ _ (w.heap.size + 1 + 1) 60 _ (0, 0) _ _ rfl s4.1 Tryz.underlying60 Tryz.info60 rfl
      · have hw2 : whl W H X Y rw rh = false := by simpa using hw
        rw [hw2] at C3
        rw [show hE W H D p X Y rw rh A = 65 by unfold hE; rw [if_pos e1, if_neg (fun h => hw h.2)], if_neg (by decide)]
        clear e1 h1 hp hw hw2
        go_enter Tryz.func67, Tryz.ntmps67
        go_wp2_with (first | (go_at_call 36; rw [← EW.out]; refine (C.out _).mono ?_; rintro e w2 ⟨rfl, hk2⟩; obtain ⟨⟨c0, c1, c2, c3⟩, _⟩ := four (hk2.heap HN.out.1 (by simp)); obtain ⟨⟨r0, r1, r2, r3⟩, _⟩ := four (hk2.heap HN.out.2.1 (by simp))) | (go_at_call 92; refine (C2.out _).mono ?_; rintro e w3 ⟨rfl, hk3⟩; obtain ⟨⟨d0, d1, d2, d3⟩, _⟩ := four ((hk2.trans hk3).heap HN.out.1 (by simp)); obtain ⟨⟨s0, s1, s2, s3⟩, _⟩ := four ((hk2.trans hk3).heap HN.out.2.1 (by simp))) | (go_at_call 93; refine (C3.out _).mono ?_; rintro e w4 ⟨rfl, hk4⟩; obtain ⟨⟨t0, t1, t2, t3⟩, _⟩ := four ((((hk2.trans hk3).trans hk4)).heap HN.out.2.1 (by simp)); have HR := Hid.mk (((hk2.trans hk3).trans hk4).heap HN.out.2.2.1 (by simp)); obtain ⟨⟨z0, z1, z2, z3⟩, f0, f1, f2, f3⟩ := four HR.out; have KK := Hid.mk (HN.out.2.2.2.trans ((hk2.trans hk3).trans hk4))))
        have s4 := set4 (.int .i64 0) (.int .i64 0) (.int .i64 0) (.int .i64 0) HR.out
        refine bodyPost_ret (v := .tuple #[rcv 0 0 0 0, .int .i64 65]) ?_ rfl ⟨rfl, (KK.out.step s4.2 (fun x hx => by simp at hx; subst hx; exact .inr (by omega)))⟩
        exact results_two rfl _ _ (w.heap.size + 1 + 1) 60 _ (0, 0) _ _ rfl s4.1 Tryz.underlying60 Tryz.info60 rfl
    · rw [decide_eq_false hp] at C2
      rw [show hE W H D p X Y rw rh A = 65 by unfold hE; rw [if_pos e1, if_neg (fun h => hp h.1)], if_neg (by decide)]
      clear e1 h1 hp
      go_enter Tryz.func67, Tryz.ntmps67
      go_wp2_with (first | (go_at_call 36; rw [← EW.out]; refine (C.out _).mono ?_; rintro e w2 ⟨rfl, hk2⟩; obtain ⟨⟨c0, c1, c2, c3⟩, _⟩ := four (hk2.heap HN.out.1 (by simp)); obtain ⟨⟨r0, r1, r2, r3⟩, _⟩ := four (hk2.heap HN.out.2.1 (by simp))) | (go_at_call 92; refine (C2.out _).mono ?_; rintro e w3 ⟨rfl, hk3⟩; obtain ⟨⟨d0, d1, d2, d3⟩, _⟩ := four ((hk2.trans hk3).heap HN.out.1 (by simp)); obtain ⟨⟨s0, s1, s2, s3⟩, _⟩ := four ((hk2.trans hk3).heap HN.out.2.1 (by simp))) | (go_at_call 93; refine (C3.out _).mono ?_; rintro e w4 ⟨rfl, hk4⟩; obtain ⟨⟨t0, t1, t2, t3⟩, _⟩ := four ((((hk2.trans hk3).trans hk4)).heap HN.out.2.1 (by simp)); have HR := Hid.mk (((hk2.trans hk3).trans hk4).heap HN.out.2.2.1 (by simp)); obtain ⟨⟨z0, z1, z2, z3⟩, f0, f1, f2, f3⟩ := four HR.out; have KK := Hid.mk (HN.out.2.2.2.trans ((hk2.trans hk3).trans hk4))))
      have s4 := set4 (.int .i64 0) (.int .i64 0) (.int .i64 0) (.int .i64 0) HR.out
      refine bodyPost_ret (v := .tuple #[rcv 0 0 0 0, .int .i64 65]) ?_ rfl ⟨rfl, (KK.out.step s4.2 (fun x hx => by simp at hx; subst hx; exact .inr (by omega)))⟩
      exact results_two rfl _ _ (w.heap.size + 1 + 1) 60 _ (0, 0) _ _ rfl s4.1 Tryz.underlying60 Tryz.info60 rfl
  · rw [e1] at C
    rw [show hE W H D p X Y rw rh A = 61 by unfold hE; rw [e1]; rfl, if_neg (by decide)]
    clear e1 h1
    go_enter Tryz.func67, Tryz.ntmps67
    go_wp2_with (first | (go_at_call 36; rw [← EW.out]; refine (C.out _).mono ?_; rintro e w2 ⟨rfl, hk2⟩; obtain ⟨⟨c0, c1, c2, c3⟩, _⟩ := four (hk2.heap HN.out.1 (by simp)); obtain ⟨⟨r0, r1, r2, r3⟩, _⟩ := four (hk2.heap HN.out.2.1 (by simp)); have HR := Hid.mk ((hk2).heap HN.out.2.2.1 (by simp)); obtain ⟨⟨z0, z1, z2, z3⟩, f0, f1, f2, f3⟩ := four HR.out; have KK := Hid.mk (HN.out.2.2.2.trans (hk2))))
    have s4 := set4 (.int .i64 0) (.int .i64 0) (.int .i64 0) (.int .i64 0) HR.out
    refine bodyPost_ret (v := .tuple #[rcv 0 0 0 0, .int .i64 61]) ?_ rfl ⟨rfl, (KK.out.step s4.2 (fun x hx => by simp at hx; subst hx; exact .inr (by omega)))⟩
    exact results_two rfl _ _ (w.heap.size + 1 + 1) 60 _ (0, 0) _ _ rfl s4.1 Tryz.underlying60 Tryz.info60 rfl
end Go.Proofs.YthkpligodbkofaaGreatDoor.Tl
