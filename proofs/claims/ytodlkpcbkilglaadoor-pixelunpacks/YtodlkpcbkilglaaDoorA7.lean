import Derived.Deep.RegionHeldLaw
import Derived.Test.YtodlkpcbkilglaaDoorA3
namespace Go.Proofs.YtodlkpcbkilglaaDoor
open Go.RowKit

set_option maxHeartbeats 4000000 in
set_option maxRecDepth 1000000 in
theorem rhalf_any (n : Int) (w : World) (h0 : 0 ≤ n) (h1 : n ≤ 9223372036854775807) : Calls Tryd.prog 76 #[.int .i64 n] w fun e w' => e = .returned (.int .i64 (hf n)) ∧ w' = w := by
  go_enter Tryd.func76, Tryd.ntmps76
  go_wp2
  go_ret
  exact ⟨rfl, rfl⟩

set_option maxHeartbeats 4000000 in
set_option maxRecDepth 1000000 in
theorem count_any (W H D : Int) (A : Bool) (w : World) : Calls Tryd.prog 54 #[shv W H D A] w fun e w' => e = .returned (.int .i64 (np A : Int)) ∧ Kept [] w w' := by
  cases A
  · go_enter Tryd.func54, Tryd.ntmps54
    go_wp2
    go_ret
    exact ⟨rfl, (Kept.refl _ _).alloc _⟩
  · go_enter Tryd.func54, Tryd.ntmps54
    go_wp2
    go_ret
    exact ⟨rfl, (Kept.refl _ _).alloc _⟩

set_option maxHeartbeats 4000000 in
set_option maxRecDepth 1000000 in
theorem rthere_any (W H D p : Int) (A : Bool) (w : World) : Calls Tryd.prog 73 #[shv W H D A, .int .i64 p] w fun e w' => e = .returned (.bool (decide (0 ≤ p ∧ p < (np A : Int)))) ∧ Kept [] w w' := by
  have C := Hid.mk (fun u => count_any W H D A u)
  have hn : (np A : Int) ≤ 4 ∧ 0 ≤ (np A : Int) := by cases A <;> decide
  obtain ⟨n, en⟩ : ∃ n : Nat, n = np A := ⟨_, rfl⟩
  rw [← en] at C hn ⊢
  clear en
  by_cases h1 : 0 ≤ p
  · go_enter Tryd.func73, Tryd.ntmps73
    go_wp2_with (go_at_call 54; refine (C.out _).mono ?_; rintro e w1 ⟨rfl, hk1⟩)
    go_ret
    exact ⟨ret_bool (by simp [h1]), ((Kept.refl _ _).alloc _).trans hk1⟩
  · go_enter Tryd.func73, Tryd.ntmps73
    go_wp2
    go_ret
    exact ⟨ret_bool (by rw [decide_eq_false (show ¬ 0 ≤ p by omega)]; rfl), (Kept.refl _ _).alloc _⟩

set_option maxHeartbeats 4000000 in
set_option maxRecDepth 1000000 in
theorem wide_any (W H D p : Int) (A : Bool) (w : World) (h0 : 0 ≤ W) (h1 : W ≤ 4096) : Calls Tryd.prog 55 #[shv W H D A, .int .i64 p] w fun e w' => e = .returned (.int .i64 (wp W p)) ∧ Kept [] w w' := by
  have C2 := Hid.mk (fun u => rhalf_any W u h0 (by omega))
  by_cases h1 : p = 1
  · subst h1
    rw [show wp W 1 = hf W from if_pos (.inl rfl)]
    go_enter Tryd.func55, Tryd.ntmps55
    go_wp2_with (first | (go_at_call 76; refine (C2.out _).mono ?_; rintro e w1 ⟨rfl, hw⟩; obtain rfl := hw.symm))
    go_ret
    exact ⟨rfl, (Kept.refl _ _).alloc _⟩
  · by_cases h2 : p = 2
    · subst h2
      rw [show wp W 2 = hf W from if_pos (.inr rfl)]
      go_enter Tryd.func55, Tryd.ntmps55
      go_wp2_with (first | (go_at_call 76; refine (C2.out _).mono ?_; rintro e w1 ⟨rfl, hw⟩; obtain rfl := hw.symm))
      go_ret
      exact ⟨rfl, (Kept.refl _ _).alloc _⟩
    · have e1 : (p == 1) = false := by simpa using h1
      have e2 : (p == 2) = false := by simpa using h2
      rw [show wp W p = W from if_neg (by omega)]
      clear h1 h2
      go_enter Tryd.func55, Tryd.ntmps55
      go_wp2
      go_ret
      exact ⟨rfl, (Kept.refl _ _).alloc _⟩

set_option maxHeartbeats 4000000 in
set_option maxRecDepth 1000000 in
set_option maxHeartbeats 4000000 in
set_option maxRecDepth 1000000 in
theorem rtotal_any (W H D : Int) (A : Bool) (w : World) (h0 : 1 ≤ W) (h1 : W ≤ 4096) (h2 : 1 ≤ H) (h3 : H ≤ 4096) : Calls Tryd.prog 65 #[shv W H D A] w fun e w' => e = .returned (.int .i64 (tot W H A)) ∧ Kept [] w w' := by
  have C := Hid.mk (fun u => count_any W H D A u)
  have C2 := Hid.mk (fun u (p : Nat) => wide_any W H D p A u (by omega) h1)
  have hn : np A ≤ 4 := by cases A <;> decide
  have E := Hid.mk (sT_np W H A)
  obtain ⟨n, en⟩ : ∃ n : Nat, n = np A := ⟨_, rfl⟩
  rw [← en] at C hn E
  clear en
  have HB := Hid.mk (sT_lo h0 h1 h2 h3)
  have HP := Hid.mk (fun p => wpH p h0 h1 h2 h3)
  have hcs := Hid.mk (Sat.new w W H D A 24)
  have HK := Hid.mk (alloc_kept w (.cells #[.int .i64 W, .int .i64 H, .int .i64 D, .bool A] 24))
  obtain ⟨w1, ew1⟩ : ∃ w1, w1 = w.alloc (.cells #[.int .i64 W, .int .i64 H, .int .i64 D, .bool A] 24) := ⟨_, rfl⟩
  rw [← ew1] at hcs HK
  have EW := Hid.mk ew1
  clear ew1
  go_enter Tryd.func65, Tryd.ntmps65
  go_wp2_with (fail)
  rw [← EW.out]
  obtain ⟨b, eb⟩ : ∃ b, b = w.heap.size := ⟨_, rfl⟩
  rw [← eb] at hcs ⊢
  clear eb EW
  go_loopw [3, 4] (fun s i wr => ∃ k : Nat, k ≤ n ∧ i = .int .i64 (k : Int) ∧ s = .int .i64 (sT W H k) ∧ Kept [] w1 wr) (fun _ i _ => n - (intOf i).toNat)
  case atStart => exact ⟨0, by omega, rfl, rfl, Kept.refl _ _⟩
  case round =>
    obtain ⟨k, hk, rfl, rfl, hkr⟩ := hrel
    have Hkr := Hid.mk hkr
    obtain ⟨q0, q1, q2, q3⟩ := hcs.out.keep hkr (by simp)
    by_cases hlt : k < n
    · have b1 := HP.out (k : Int)
      have b2 := HB.out k
      have ES := Hid.mk (show sT W H (k + 1) = sT W H k + wp W k * H from rfl)
      have D2 := Hid.mk (fun u => C2.out u k)
      obtain ⟨x, ex⟩ : ∃ x, x = wp W k := ⟨_, rfl⟩
      rw [← ex] at b1 ES D2
      have hwr : IntKind.i64.wrap (x * H) = x * H := wrap_i (by omega) (by omega)
      have hwr2 : IntKind.i64.wrap (sT W H k + x * H) = sT W H k + x * H := wrap_i (by omega) (by omega)
      clear ex hkr
      go_wp2_with (go_at_call 54; refine (C.out _).mono ?_; rintro e w2 ⟨rfl, hk2⟩; obtain ⟨r0, r1, r2, r3⟩ := Sat.keep ⟨q0, q1, q2, q3⟩ hk2 (by simp))
      have K2 := Hid.mk (Hkr.out.trans hk2)
      have R2 := Hid.mk (Sat.keep ⟨q0, q1, q2, q3⟩ hk2 (by simp))
      clear hk2 q0 q1 q2 q3 Hkr
      go_region_held_law (fun w' => w'.cell? ⟨b, 0, none⟩ = some (.int .i64 W) ∧ w'.cell? ⟨b, 1, none⟩ = some (.int .i64 H) ∧ w'.cell? ⟨b, 2, none⟩ = some (.int .i64 D) ∧ w'.cell? ⟨b, 3, none⟩ = some (.bool A)) (first | exact ⟨r0, r1, r2, r3⟩ | exact ⟨t0, t1, t2, t3⟩ | go_keep) (first | (go_at_call 55; refine (D2.out _).mono ?_; rintro e w3 ⟨rfl, hk3⟩; obtain ⟨t0, t1, t2, t3⟩ := R2.out.keep hk3.undrew (by simp)))
      all_goals go_wp2
      all_goals go_roundw
      all_goals first
        | exact ⟨k + 1, by omega, by go_num, by rw [ES.out], K2.out.trans hk3.undrew⟩
        | (simp [intOf]; omega)
    · obtain rfl : n = k := by omega
      go_wp2_with (go_at_call 54; refine (C.out _).mono ?_; rintro e w2 ⟨rfl, hk2⟩)
      go_ret
      exact ⟨ret_int E.out, (HK.out.trans Hkr.out).trans hk2⟩

set_option maxHeartbeats 4000000 in
set_option maxRecDepth 1000000 in
theorem rshaped_any (W H D : Int) (A : Bool) (w : World) : Calls Tryd.prog 39 #[shv W H D A] w fun e w' => e = .returned (.int .i64 (shE W H D A)) ∧ Kept [] w w' := by
  have hk0 := Hid.mk ((Kept.refl [] w).alloc (.cells #[.int .i64 W, .int .i64 H, .int .i64 D, .bool A] 24))
  by_cases k2 : W < 1
  · skip
    have E := Hid.mk (shE_no (W := W) (H := H) (D := D) (A := A) (fun h => by have := h.1; have := h.2.1; have := h.2.2.1; omega))
    go_enter Tryd.func39, Tryd.ntmps39
    go_wp2
    go_ret
    exact ⟨ret_int E.out.symm, hk0.out⟩
  · skip
    by_cases k4 : 4096 < W
    · skip
      have E := Hid.mk (shE_no (W := W) (H := H) (D := D) (A := A) (fun h => by have := h.1; have := h.2.1; have := h.2.2.1; omega))
      go_enter Tryd.func39, Tryd.ntmps39
      go_wp2
      go_ret
      exact ⟨ret_int E.out.symm, hk0.out⟩
    · skip
      by_cases k6 : H < 1
      · skip
        have E := Hid.mk (shE_no (W := W) (H := H) (D := D) (A := A) (fun h => by have := h.1; have := h.2.1; have := h.2.2.1; omega))
        go_enter Tryd.func39, Tryd.ntmps39
        go_wp2
        go_ret
        exact ⟨ret_int E.out.symm, hk0.out⟩
      · skip
        by_cases k8 : 4096 < H
        · skip
          have E := Hid.mk (shE_no (W := W) (H := H) (D := D) (A := A) (fun h => by have := h.1; have := h.2.1; have := h.2.2.1; omega))
          go_enter Tryd.func39, Tryd.ntmps39
          go_wp2
          go_ret
          exact ⟨ret_int E.out.symm, hk0.out⟩
        · skip
          by_cases hD : D = 10 ∨ D = 12
          · skip
            have C3 := Hid.mk (fun u => rtotal_any W H D A u (by omega) (by omega) (by omega) (by omega))
            by_cases hT : tot W H A ≤ 4194304
            · have E := Hid.mk (shE_ok (W := W) (H := H) (D := D) (A := A) ⟨by omega, by omega, hD, hT⟩)
              obtain ⟨T, eT⟩ : ∃ T, T = tot W H A := ⟨_, rfl⟩
              rw [← eT] at hT C3
              clear eT
              rcases hD with rfl | rfl
              · go_enter Tryd.func39, Tryd.ntmps39
                go_wp2_with (go_at_call 65; refine (C3.out _).mono ?_; rintro e w2 ⟨rfl, hk2⟩)
                go_ret
                exact ⟨ret_int E.out.symm, hk0.out.trans hk2⟩
              · go_enter Tryd.func39, Tryd.ntmps39
                go_wp2_with (go_at_call 65; refine (C3.out _).mono ?_; rintro e w2 ⟨rfl, hk2⟩)
                go_ret
                exact ⟨ret_int E.out.symm, hk0.out.trans hk2⟩
            · have E := Hid.mk (shE_no (W := W) (H := H) (D := D) (A := A) (fun h => hT h.2.2.2))
              obtain ⟨T, eT⟩ : ∃ T, T = tot W H A := ⟨_, rfl⟩
              rw [← eT] at hT C3
              clear eT
              rcases hD with rfl | rfl
              · go_enter Tryd.func39, Tryd.ntmps39
                go_wp2_with (go_at_call 65; refine (C3.out _).mono ?_; rintro e w2 ⟨rfl, hk2⟩)
                go_ret
                exact ⟨ret_int E.out.symm, hk0.out.trans hk2⟩
              · go_enter Tryd.func39, Tryd.ntmps39
                go_wp2_with (go_at_call 65; refine (C3.out _).mono ?_; rintro e w2 ⟨rfl, hk2⟩)
                go_ret
                exact ⟨ret_int E.out.symm, hk0.out.trans hk2⟩
          · skip
            have E := Hid.mk (shE_no (W := W) (H := H) (D := D) (A := A) (fun h => by have := h.1; have := h.2.1; have := h.2.2.1; omega))
            have d1 : (D != 10) = true := by simp; omega
            have d2 : (D != 12) = true := by simp; omega
            clear hD
            go_enter Tryd.func39, Tryd.ntmps39
            go_wp2
            go_ret
            exact ⟨ret_int E.out.symm, hk0.out⟩
end Go.Proofs.YtodlkpcbkilglaaDoor
