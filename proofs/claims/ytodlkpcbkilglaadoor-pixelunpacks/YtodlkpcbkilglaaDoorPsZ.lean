import Derived.Test.YtodlkpcbkilglaaDoorSz
import Derived.Deep.RegionHeldLaw
namespace Go.Proofs.YtodlkpcbkilglaaDoor
open Go.RowKit Go.Shelf

set_option maxHeartbeats 8000000 in
set_option maxRecDepth 1000000 in
theorem planarSize_any (W H D : Int) (A : Bool) (w : World) :
    Calls Tryd.prog 10 #[shv W H D A] w fun e w' => e = .returned (.tuple #[.int .i64 (if shE W H D A = 0 ∧ true = true then sS W H (fun x => 2 * x) (fun i => i) (np A) else 0), .int .i64 (if shE W H D A = 0 then (if true = true then 0 else 71) else 61)]) ∧ Kept [] w w' := by
  have C1 := Hid.mk (fun u => planar_any u)
  have C2 := Hid.mk (fun u => sizeP W H D A u)
  obtain ⟨r, er⟩ : ∃ r, r = (if shE W H D A = 0 ∧ true = true then sS W H (fun x => 2 * x) (fun i => i) (np A) else 0) := ⟨_, rfl⟩
  obtain ⟨t, et⟩ : ∃ t : Int, t = (if shE W H D A = 0 then (if true = true then 0 else 71) else 61) := ⟨_, rfl⟩
  rw [← er, ← et] at C2 ⊢
  clear er et
  have hS := Sat.new w W H D A 24
  have hk0 := alloc_kept w (.cells #[.int .i64 W, .int .i64 H, .int .i64 D, .bool A] 24)
  obtain ⟨wa, ewa⟩ : ∃ wa, wa = w.alloc (.cells #[.int .i64 W, .int .i64 H, .int .i64 D, .bool A] 24) := ⟨_, rfl⟩
  rw [← ewa] at hS hk0
  obtain ⟨q0, q1, q2, q3⟩ := hS
  have QS := Hid.mk (Sat.mk q0 q1 q2 q3)
  have HK := Hid.mk hk0
  clear hk0
  go_enter Tryd.func10, Tryd.ntmps10
  go_wp2
  rw [← ewa]
  clear ewa
  obtain ⟨b, eb⟩ : ∃ b, b = w.heap.size := ⟨_, rfl⟩
  rw [← eb] at QS q0 q1 q2 q3 ⊢
  clear eb
  go_region_held_law (fun w' => w'.cell? ⟨b, 0, none⟩ = some (.int .i64 W) ∧ w'.cell? ⟨b, 1, none⟩ = some (.int .i64 H) ∧ w'.cell? ⟨b, 2, none⟩ = some (.int .i64 D) ∧ w'.cell? ⟨b, 3, none⟩ = some (.bool A)) (first | exact ⟨q0, q1, q2, q3⟩ | exact ⟨z0, z1, z2, z3⟩ | exact ⟨y0, y1, y2, y3⟩ | go_keep) (first | (go_at_call 35; refine (C1.out _).mono ?_; rintro e w1 ⟨rfl, hk1⟩; obtain ⟨z0, z1, z2, z3⟩ := QS.out.keep hk1.undrew (by simp)) | (go_at_call 36; refine (C2.out _).mono ?_; rintro e w2 ⟨rfl, hk2⟩; obtain ⟨y0, y1, y2, y3⟩ := QS.out.keep (hk1.undrew.trans hk2) (by simp)))
  all_goals go_wp2
  all_goals go_ret2
  all_goals exact ⟨rfl, (HK.out.trans hk1.undrew).trans hk2⟩

set_option maxHeartbeats 8000000 in
set_option maxRecDepth 1000000 in
theorem v210Size_any (W H D : Int) (A : Bool) (w : World) :
    Calls Tryd.prog 12 #[shv W H D A] w fun e w' => e = .returned (.tuple #[.int .i64 (if shE W H D A = 0 ∧ (decide (D = 10) && !A) = true then sS W H (fun x => (x + 47) / 48 * 128) (fun _ => 0) 1 else 0), .int .i64 (if shE W H D A = 0 then (if (decide (D = 10) && !A) = true then 0 else 71) else 61)]) ∧ Kept [] w w' := by
  have C1 := Hid.mk (fun u => v210_any u)
  have C2 := Hid.mk (fun u => sizeV W H D A u)
  obtain ⟨r, er⟩ : ∃ r, r = (if shE W H D A = 0 ∧ (decide (D = 10) && !A) = true then sS W H (fun x => (x + 47) / 48 * 128) (fun _ => 0) 1 else 0) := ⟨_, rfl⟩
  obtain ⟨t, et⟩ : ∃ t : Int, t = (if shE W H D A = 0 then (if (decide (D = 10) && !A) = true then 0 else 71) else 61) := ⟨_, rfl⟩
  rw [← er, ← et] at C2 ⊢
  clear er et
  have hS := Sat.new w W H D A 24
  have hk0 := alloc_kept w (.cells #[.int .i64 W, .int .i64 H, .int .i64 D, .bool A] 24)
  obtain ⟨wa, ewa⟩ : ∃ wa, wa = w.alloc (.cells #[.int .i64 W, .int .i64 H, .int .i64 D, .bool A] 24) := ⟨_, rfl⟩
  rw [← ewa] at hS hk0
  obtain ⟨q0, q1, q2, q3⟩ := hS
  have QS := Hid.mk (Sat.mk q0 q1 q2 q3)
  have HK := Hid.mk hk0
  clear hk0
  go_enter Tryd.func12, Tryd.ntmps12
  go_wp2
  rw [← ewa]
  clear ewa
  obtain ⟨b, eb⟩ : ∃ b, b = w.heap.size := ⟨_, rfl⟩
  rw [← eb] at QS q0 q1 q2 q3 ⊢
  clear eb
  go_region_held_law (fun w' => w'.cell? ⟨b, 0, none⟩ = some (.int .i64 W) ∧ w'.cell? ⟨b, 1, none⟩ = some (.int .i64 H) ∧ w'.cell? ⟨b, 2, none⟩ = some (.int .i64 D) ∧ w'.cell? ⟨b, 3, none⟩ = some (.bool A)) (first | exact ⟨q0, q1, q2, q3⟩ | exact ⟨z0, z1, z2, z3⟩ | exact ⟨y0, y1, y2, y3⟩ | go_keep) (first | (go_at_call 38; refine (C1.out _).mono ?_; rintro e w1 ⟨rfl, hk1⟩; obtain ⟨z0, z1, z2, z3⟩ := QS.out.keep hk1.undrew (by simp)) | (go_at_call 36; refine (C2.out _).mono ?_; rintro e w2 ⟨rfl, hk2⟩; obtain ⟨y0, y1, y2, y3⟩ := QS.out.keep (hk1.undrew.trans hk2) (by simp)))
  all_goals go_wp2
  all_goals go_ret2
  all_goals exact ⟨rfl, (HK.out.trans hk1.undrew).trans hk2⟩
end Go.Proofs.YtodlkpcbkilglaaDoor

namespace Go.Proofs.YtodlkpcbkilglaaDoor
open Go.RowKit Go.Shelf

set_option maxHeartbeats 4000000 in
set_option maxRecDepth 1000000 in
theorem rsamples_any (W H D : Int) (A : Bool) (w : World) : Calls Tryd.prog 37 #[shv W H D A] w fun e w' => e = .returned (.tuple #[.int .i64 (if shE W H D A = 0 then tot W H A else 0), .int .i64 (shE W H D A)]) ∧ Kept [] w w' := by
  have C := Hid.mk (fun u => rshaped_any W H D A u)
  have hk0 := Hid.mk ((Kept.refl [] w).alloc (.cells #[.int .i64 W, .int .i64 H, .int .i64 D, .bool A] 24))
  have S0 := Sat.new w W H D A 24
  rcases shE_two W H D A with ⟨e1, h1⟩ | ⟨e1, h1⟩
  · rw [e1] at C ⊢
    have C3 := Hid.mk (fun u => rtotal_any W H D A u h1.1.1 h1.1.2 h1.2.1.1 h1.2.1.2)
    clear h1 e1
    go_enter Tryd.func37, Tryd.ntmps37
    go_wp2_with (first | (go_at_call 39; refine (C.out _).mono ?_; rintro e w1 ⟨rfl, hk1⟩; obtain ⟨q0, q1, q2, q3⟩ := S0.keep hk1 (by simp)) | (go_at_call 65; refine (C3.out _).mono ?_; rintro e w2 ⟨rfl, hk2⟩))
    go_ret2
    exact ⟨rfl, (hk0.out.trans hk1).trans hk2⟩
  · rw [e1] at C ⊢
    clear h1 e1
    go_enter Tryd.func37, Tryd.ntmps37
    go_wp2_with (first | (go_at_call 39; refine (C.out _).mono ?_; rintro e w1 ⟨rfl, hk1⟩))
    go_ret2
    exact ⟨rfl, hk0.out.trans hk1⟩

theorem tot_lo {W H D : Int} {A : Bool} (h : Shp W H D A) : 0 ≤ tot W H A := by
  have h1 : 0 ≤ W * H := Int.mul_nonneg (by have := h.1; omega) (by have := h.2.1; omega)
  have h2 : 0 ≤ hf W * H := Int.mul_nonneg (by have := h.1; unfold hf; omega) (by have := h.2.1; omega)
  unfold tot
  split <;> omega

set_option maxHeartbeats 4000000 in
set_option maxRecDepth 1000000 in
/-- The document's PlanarSize. -/
theorem rplanarSize_any (W H D : Int) (A : Bool) (w : World) : Calls Tryd.prog 11 #[shv W H D A] w fun e w' => e = .returned (.tuple #[.int .i64 (if shE W H D A = 0 then 2 * tot W H A else 0), .int .i64 (shE W H D A)]) ∧ Kept [] w w' := by
  have C := Hid.mk (fun u => rsamples_any W H D A u)
  have hk0 := Hid.mk ((Kept.refl [] w).alloc (.cells #[.int .i64 W, .int .i64 H, .int .i64 D, .bool A] 24))
  rcases shE_two W H D A with ⟨e1, h1⟩ | ⟨e1, h1⟩
  · have t0 := tot_lo h1
    have t1 := h1.2.2.2
    rw [e1] at C ⊢
    simp only [if_true] at C ⊢
    obtain ⟨t, et⟩ : ∃ t, t = tot W H A := ⟨_, rfl⟩
    rw [← et] at C t0 t1 ⊢
    clear h1 e1 et
    go_enter Tryd.func11, Tryd.ntmps11
    go_wp2_with (first | (go_at_call 37; refine (C.out _).mono ?_; rintro e w1 ⟨rfl, hk1⟩))
    go_ret2
    exact ⟨rfl, hk0.out.trans hk1⟩
  · rw [e1] at C ⊢
    clear h1 e1
    go_enter Tryd.func11, Tryd.ntmps11
    go_wp2_with (first | (go_at_call 37; refine (C.out _).mono ?_; rintro e w1 ⟨rfl, hk1⟩))
    go_ret2
    exact ⟨rfl, hk0.out.trans hk1⟩

set_option maxHeartbeats 4000000 in
set_option maxRecDepth 1000000 in
theorem rowSize_any (W : Int) (w : World) (h0 : 1 ≤ W) (h1 : W ≤ 4096) : Calls Tryd.prog 40 #[.int .i64 W] w fun e w' => e = .returned (.int .i64 ((W + 47) / 48 * 128)) ∧ w' = w := by
  go_enter Tryd.func40, Tryd.ntmps40
  go_wp2
  go_ret
  exact ⟨rfl, rfl⟩

set_option maxHeartbeats 4000000 in
set_option maxRecDepth 1000000 in
/-- The document's V210Size. -/
theorem rv210Size_any (W H D : Int) (A : Bool) (w : World) : Calls Tryd.prog 13 #[shv W H D A] w fun e w' => e = .returned (.tuple #[.int .i64 (if shE W H D A = 0 ∧ (decide (D = 10) && !A) = true then H * ((W + 47) / 48 * 128) else 0), .int .i64 (if shE W H D A = 0 then (if (decide (D = 10) && !A) = true then 0 else 71) else 61)]) ∧ Kept [] w w' := by
  have C := Hid.mk (fun u => rshaped_any W H D A u)
  have hk0 := Hid.mk ((Kept.refl [] w).alloc (.cells #[.int .i64 W, .int .i64 H, .int .i64 D, .bool A] 24))
  have S0 := Sat.new w W H D A 24
  rcases shE_two W H D A with ⟨e1, h1⟩ | ⟨e1, h1⟩
  · rw [e1] at C ⊢
    have C3 := Hid.mk (fun u => rowSize_any W u h1.1.1 h1.1.2)
    have hH := h1.2.1
    have hW : 0 ≤ (W + 47) / 48 * 128 ∧ (W + 47) / 48 * 128 ≤ 12000 := by have := h1.1; omega
    by_cases hD : D = 10
    · subst hD
      cases A
      · rw [show (decide ((10 : Int) = 10) && !false) = true by simp]
        obtain ⟨y, ey⟩ : ∃ y, y = (W + 47) / 48 * 128 := ⟨_, rfl⟩
        rw [← ey] at C3 hW ⊢
        have g1 : H * y ≤ 4096 * 12000 := Int.mul_le_mul hH.2 hW.2 hW.1 (by omega)
        have g0 : 0 ≤ H * y := Int.mul_nonneg (by omega) hW.1
        have hwr : IntKind.i64.wrap (H * y) = H * y := wrap_i (by omega) (by omega)
        clear e1 h1 ey
        go_enter Tryd.func13, Tryd.ntmps13
        go_wp2_with (first | (go_at_call 39; refine (C.out _).mono ?_; rintro e w1 ⟨rfl, hk1⟩; obtain ⟨q0, q1, q2, q3⟩ := S0.keep hk1 (by simp); have QS := Hid.mk (S0.keep hk1 (by simp))))
        obtain ⟨b, eb⟩ : ∃ b, b = w.heap.size := ⟨_, rfl⟩
        have K1 := Hid.mk (hk0.out.trans hk1)
        rw [← eb] at q0 q1 q2 q3 QS ⊢
        clear eb hk1 S0 hk0 C
        go_region_held_law (fun w' => w'.cell? ⟨b, 0, none⟩ = some (.int .i64 W) ∧ w'.cell? ⟨b, 1, none⟩ = some (.int .i64 H)) (first | exact ⟨q0, q1⟩ | go_keep) (first | (go_at_call 40; refine (C3.out _).mono ?_; rintro e w2 ⟨rfl, hw⟩; obtain rfl := hw.symm))
        all_goals go_wp2
        all_goals go_ret2
        all_goals exact ⟨by simp, K1.out.drew⟩
      · rw [show (decide ((10 : Int) = 10) && !true) = false by simp]
        clear e1 h1
        go_enter Tryd.func13, Tryd.ntmps13
        go_wp2_with (first | (go_at_call 39; refine (C.out _).mono ?_; rintro e w1 ⟨rfl, hk1⟩; obtain ⟨q0, q1, q2, q3⟩ := S0.keep hk1 (by simp)))
        go_ret2
        exact ⟨by simp, hk0.out.trans hk1⟩
    · rw [show (decide (D = 10) && !A) = false by simp [hD]]
      clear e1 h1
      go_enter Tryd.func13, Tryd.ntmps13
      go_wp2_with (first | (go_at_call 39; refine (C.out _).mono ?_; rintro e w1 ⟨rfl, hk1⟩; obtain ⟨q0, q1, q2, q3⟩ := S0.keep hk1 (by simp)))
      go_ret2
      exact ⟨by simp, hk0.out.trans hk1⟩
  · rw [e1] at C ⊢
    clear h1 e1
    go_enter Tryd.func13, Tryd.ntmps13
    go_wp2_with (first | (go_at_call 39; refine (C.out _).mono ?_; rintro e w1 ⟨rfl, hk1⟩))
    go_ret2
    exact ⟨by simp, hk0.out.trans hk1⟩

/-- Both sides' sizes are the same. -/
theorem sS_planar {W H : Int} (A : Bool) (h0 : 1 ≤ W) : sS W H (fun x => 2 * x) (fun i => i) (np A) = 2 * tot W H A := by
  have e0 : wp W ((0 : Nat) : Int) = W := rfl
  have e1 : wp W ((1 : Nat) : Int) = hf W := rfl
  have e2 : wp W ((2 : Nat) : Int) = hf W := rfl
  have e3 : wp W ((3 : Nat) : Int) = W := rfl
  have hh : 0 ≤ hf W := by unfold hf; omega
  have m1 : H * ((2 * W.toNat : Nat) : Int) = 2 * (W * H) := by
    rw [Int.natCast_mul, Int.toNat_of_nonneg (by omega : 0 ≤ W), Int.mul_left_comm, Int.mul_comm H W]
    rfl
  have m2 : H * ((2 * (hf W).toNat : Nat) : Int) = 2 * (hf W * H) := by
    rw [Int.natCast_mul, Int.toNat_of_nonneg hh, Int.mul_left_comm, Int.mul_comm H (hf W)]
    rfl
  cases A
  · show sS W H (fun x => 2 * x) (fun i => i) 3 = _
    rw [sS, sS, sS, sS, e0, e1, e2, m1, m2]
    unfold tot
    simp only [Bool.false_eq_true, if_false]
    omega
  · show sS W H (fun x => 2 * x) (fun i => i) 4 = _
    rw [sS, sS, sS, sS, sS, e0, e1, e2, e3, m1, m2]
    unfold tot
    simp only [if_true]
    omega
theorem sS_v210 {W H : Int} (h0 : 1 ≤ W) : sS W H (fun x => (x + 47) / 48 * 128) (fun _ => 0) 1 = H * ((W + 47) / 48 * 128) := by
  have e0 : wp W ((0 : Nat) : Int) = W := rfl
  simp only [sS, e0, Int.zero_add]
  congr 1
  omega
end Go.Proofs.YtodlkpcbkilglaaDoor
