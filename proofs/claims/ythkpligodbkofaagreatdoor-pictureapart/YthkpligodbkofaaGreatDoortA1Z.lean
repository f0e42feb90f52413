import Derived.Test.YthkpligodbkofaaGreatDoorLZ
import Derived.Test.YthkpligodbkofaaGreatDoorNZ
import Derived.Laws.OwnMore
namespace Go.Proofs.YthkpligodbkofaaGreatDoor.Tl
open Go.RowKit

/-- Half as many, rounded up. -/
def hf (n : Int) : Int := n / 2 + n % 2
/-- How wide a plane is. -/
def wp (W : Int) (p : Int) : Int := if p = 1 ∨ p = 2 then hf W else W
/-- How many planes there are. -/
def np (A : Bool) : Nat := if A then 4 else 3
/-- How many samples all planes have. -/
def tot (W H : Int) (A : Bool) : Int := W * H + hf W * H + hf W * H + (if A then W * H else 0)
/-- A shape may be. -/
def Shp (W H D : Int) (A : Bool) : Prop := (1 ≤ W ∧ W ≤ 4096) ∧ (1 ≤ H ∧ H ≤ 4096) ∧ (D = 10 ∨ D = 12) ∧ tot W H A ≤ 4194304
/-- Shaped's answer. -/
def shE (W H D : Int) (A : Bool) : Int := if (1 ≤ W ∧ W ≤ 4096) ∧ (1 ≤ H ∧ H ≤ 4096) ∧ (D = 10 ∨ D = 12) ∧ tot W H A ≤ 4194304 then 0 else 61
theorem shE_ok {W H D : Int} {A : Bool} (h : Shp W H D A) : shE W H D A = 0 := if_pos h
theorem shE_no {W H D : Int} {A : Bool} (h : ¬ Shp W H D A) : shE W H D A = 61 := if_neg h

theorem hf_lo {n : Int} (h : 1 ≤ n) : 1 ≤ hf n := by unfold hf; omega
theorem hf_hi {n : Int} (h : 0 ≤ n) : hf n ≤ n := by unfold hf; omega
theorem wp_lo {W : Int} (p : Int) (h : 1 ≤ W) : 1 ≤ wp W p := by unfold wp; split; exact hf_lo h; exact h
theorem wp_hi {W : Int} (p : Int) (h : 1 ≤ W) : wp W p ≤ W := by unfold wp; split; exact hf_hi (by omega); exact Int.le_refl _

/-- A shape as a value. -/
abbrev shv (W H D : Int) (A : Bool) : Value := .agg #[.int .i64 W, .int .i64 H, .int .i64 D, .bool A]
/-- A rectangle as a value. -/
abbrev rcv (X Y W H : Int) : Value := .agg #[.int .i64 X, .int .i64 Y, .int .i64 W, .int .i64 H]

set_option maxHeartbeats 1000000 in
set_option maxRecDepth 1000000 in
theorem sided_any (x : Int) (w : World) : Calls Tryz.prog 74 #[.int .i64 x] w fun e w' => e = .returned (.bool (decide (1 ≤ x ∧ x ≤ 4096))) ∧ w' = w := by
  by_cases h1 : 1 ≤ x
  · by_cases h2 : x ≤ 4096
    · go_enter Tryz.func74, Tryz.ntmps74
      go_wp2
      go_ret
      exact ⟨ret_bool (by simp [h1, h2]), rfl⟩
    · go_enter Tryz.func74, Tryz.ntmps74
      go_wp2
      go_ret
      exact ⟨ret_bool (by symm; rw [decide_eq_false_iff_not]; omega), rfl⟩
  · go_enter Tryz.func74, Tryz.ntmps74
    go_wp2
    go_ret
    exact ⟨ret_bool (by rw [decide_eq_false (show ¬ 1 ≤ x by omega)]; rfl), rfl⟩

set_option maxHeartbeats 1000000 in
set_option maxRecDepth 1000000 in
theorem chroma_any (p : Int) (w : World) : Calls Tryz.prog 77 #[.int .i64 p] w fun e w' => e = .returned (.bool (decide (p = 1 ∨ p = 2))) ∧ w' = w := by
  by_cases h1 : p = 1
  · subst h1
    go_enter Tryz.func77, Tryz.ntmps77
    go_wp2
    go_ret
    exact ⟨rfl, rfl⟩
  · have h1' : (p == 1) = false := by simpa using h1
    go_enter Tryz.func77, Tryz.ntmps77
    go_wp2
    go_ret
    exact ⟨ret_bool (by simp only [h1, false_or]; rfl), rfl⟩

set_option maxHeartbeats 1000000 in
set_option maxRecDepth 1000000 in
theorem half_any (n : Int) (w : World) (h0 : 0 ≤ n) (h1 : n ≤ 9223372036854775807) : Calls Tryz.prog 78 #[.int .i64 n] w fun e w' => e = .returned (.int .i64 (hf n)) ∧ w' = w := by
  go_enter Tryz.func78, Tryz.ntmps78
  go_wp2
  go_ret
  exact ⟨rfl, rfl⟩

set_option maxHeartbeats 1000000 in
set_option maxRecDepth 1000000 in
theorem planes_any (W H D : Int) (A : Bool) (w : World) : Calls Tryz.prog 76 #[shv W H D A] w fun e w' => e = .returned (.int .i64 (np A : Int)) ∧ Kept [] w w' := by
  cases A
  · go_enter Tryz.func76, Tryz.ntmps76
    go_wp2
    go_ret
    exact ⟨rfl, (Kept.refl _ _).alloc _⟩
  · go_enter Tryz.func76, Tryz.ntmps76
    go_wp2
    go_ret
    exact ⟨rfl, (Kept.refl _ _).alloc _⟩


set_option maxHeartbeats 1000000 in
set_option maxRecDepth 1000000 in
theorem there_any (W H D p : Int) (A : Bool) (w : World) : Calls Tryz.prog 47 #[shv W H D A, .int .i64 p] w fun e w' => e = .returned (.bool (decide (0 ≤ p ∧ p < (np A : Int)))) ∧ Kept [] w w' := by
  have C := Hid.mk (fun u => planes_any W H D A u)
  have hn : (np A : Int) ≤ 4 ∧ 0 ≤ (np A : Int) := by cases A <;> decide
  obtain ⟨n, en⟩ : ∃ n : Nat, n = np A := ⟨_, rfl⟩
  rw [← en] at C hn ⊢
  clear en
  by_cases h1 : 0 ≤ p
  · go_enter Tryz.func47, Tryz.ntmps47
    go_wp2_with (go_at_call 76; refine (C.out _).mono ?_; rintro e w1 ⟨rfl, hk1⟩)
    go_ret
    exact ⟨ret_bool (by simp [h1]), ((Kept.refl _ _).alloc _).trans hk1⟩
  · go_enter Tryz.func47, Tryz.ntmps47
    go_wp2
    go_ret
    exact ⟨ret_bool (by rw [decide_eq_false (show ¬ 0 ≤ p by omega)]; rfl), (Kept.refl _ _).alloc _⟩

set_option maxHeartbeats 1000000 in
set_option maxRecDepth 1000000 in
theorem sides_any (W H D p : Int) (A : Bool) (w : World) (h0 : 0 ≤ W) (h1 : W ≤ 4096) : Calls Tryz.prog 48 #[shv W H D A, .int .i64 p] w fun e w' => e = .returned (.tuple #[.int .i64 (wp W p), .int .i64 H]) ∧ Kept [] w w' := by
  have C := Hid.mk (fun u => chroma_any p u)
  have C2 := Hid.mk (fun u => half_any W u h0 (by omega))
  by_cases hp : p = 1 ∨ p = 2
  · rw [decide_eq_true hp] at C
    have E := Hid.mk (show wp W p = hf W from if_pos hp)
    clear hp
    go_enter Tryz.func48, Tryz.ntmps48
    go_wp2_with (first | (go_at_call 77; refine (C.out _).mono ?_; rintro e w1 ⟨rfl, hw⟩; obtain rfl := hw.symm))
    go_quiet ((go_at_call 78; refine Calls.quiet_of_same (C2.out _)))
    go_wp2
    go_ret2
    rw [E.out]
    exact ⟨rfl, ((Kept.refl _ _).alloc _).drewN _⟩
  · rw [decide_eq_false hp] at C
    have E := Hid.mk (show wp W p = W from if_neg hp)
    clear hp
    go_enter Tryz.func48, Tryz.ntmps48
    go_wp2_with (first | (go_at_call 77; refine (C.out _).mono ?_; rintro e w1 ⟨rfl, hw⟩; obtain rfl := hw.symm))
    go_quiet (fail)
    go_wp2
    go_ret2
    rw [E.out]
    exact ⟨rfl, ((Kept.refl _ _).alloc _).drewN _⟩

theorem alloc_cell (w : World) (cs : Array Value) (t i : Nat) (v : Value) (h : cs[i]? = some v) : (w.alloc (.cells cs t (0, 0))).cell? ⟨w.heap.size, i, none⟩ = some v := by
  rw [cell_of_row _ _ _ _ _ _ (heap_alloc_new w _)]; exact h
theorem alloc_kept (w : World) (o : Obj) : Kept [] w (w.alloc o) := (Kept.refl [] w).alloc o
/-- A shape lies there. -/
structure Sat (w : World) (b : Nat) (W H D : Int) (A : Bool) : Prop where
  c0 : w.cell? ⟨b, 0, none⟩ = some (.int .i64 W)
  c1 : w.cell? ⟨b, 1, none⟩ = some (.int .i64 H)
  c2 : w.cell? ⟨b, 2, none⟩ = some (.int .i64 D)
  c3 : w.cell? ⟨b, 3, none⟩ = some (.bool A)
theorem Sat.new (w : World) (W H D : Int) (A : Bool) (t : Nat) : Sat (w.alloc (.cells #[.int .i64 W, .int .i64 H, .int .i64 D, .bool A] t (0, 0))) w.heap.size W H D A :=
  ⟨alloc_cell _ _ _ _ _ rfl, alloc_cell _ _ _ _ _ rfl, alloc_cell _ _ _ _ _ rfl, alloc_cell _ _ _ _ _ rfl⟩
theorem cell_keep {w w' : World} {ks : List Nat} (hk : Kept ks w w') {g o : Nat} {v : Value} (h : w.cell? ⟨g, o, none⟩ = some v) (hn : g ∉ ks) : w'.cell? ⟨g, o, none⟩ = some v :=
  (World.cell?_of_block (a := ⟨g, o, none⟩) (hk.block g (World.block_lt_of_cell? w _ h) hn)).trans h
theorem Sat.keep {w w' : World} {b : Nat} {W H D : Int} {A : Bool} {ks : List Nat} (h : Sat w b W H D A) (hk : Kept ks w w') (hn : b ∉ ks) : Sat w' b W H D A :=
  ⟨cell_keep hk h.c0 hn, cell_keep hk h.c1 hn, cell_keep hk h.c2 hn, cell_keep hk h.c3 hn⟩

/-- The samples of the first planes. -/
def sT (W H : Int) : Nat → Int
  | 0 => 0
  | p + 1 => sT W H p + wp W p * H
theorem sT_np (W H : Int) (A : Bool) : sT W H (np A) = tot W H A := by
  cases A
  · show 0 + W * H + hf W * H + hf W * H = W * H + hf W * H + hf W * H + 0
    omega
  · show 0 + W * H + hf W * H + hf W * H + W * H = W * H + hf W * H + hf W * H + W * H
    omega
theorem wpH {W H : Int} (p : Int) (h0 : 1 ≤ W) (h1 : W ≤ 4096) (h2 : 1 ≤ H) (h3 : H ≤ 4096) : 1 ≤ wp W p * H ∧ wp W p * H ≤ 16777216 := by
  have a := wp_lo p h0
  have b := wp_hi p h0
  constructor
  · have := Int.mul_le_mul a h2 (by omega) (by omega)
    omega
  · have := Int.mul_le_mul (show wp W p ≤ 4096 by omega) h3 (by omega) (by omega)
    omega
theorem sT_lo {W H : Int} (h0 : 1 ≤ W) (h1 : W ≤ 4096) (h2 : 1 ≤ H) (h3 : H ≤ 4096) (p : Nat) : 0 ≤ sT W H p ∧ sT W H p ≤ 16777216 * p := by
  induction p with
  | zero => simp [sT]
  | succ p ih =>
    have := wpH (p : Int) h0 h1 h2 h3
    have e : sT W H (p + 1) = sT W H p + wp W p * H := rfl
    rw [e]
    omega

set_option maxHeartbeats 4000000 in
set_option maxRecDepth 1000000 in
theorem total_any (W H D : Int) (A : Bool) (w : World) (h0 : 1 ≤ W) (h1 : W ≤ 4096) (h2 : 1 ≤ H) (h3 : H ≤ 4096) : Calls Tryz.prog 75 #[shv W H D A] w fun e w' => e = .returned (.int .i64 (tot W H A)) ∧ Kept [] w w' := by
  have C := Hid.mk (fun u => planes_any W H D A u)
  have C2 := Hid.mk (fun u (p : Nat) => sides_any W H D p A u (by omega) h1)
  have hn : np A ≤ 4 := by cases A <;> decide
  have E := Hid.mk (sT_np W H A)
  obtain ⟨n, en⟩ : ∃ n : Nat, n = np A := ⟨_, rfl⟩
  rw [← en] at C hn E
  clear en
  have HB := Hid.mk (sT_lo h0 h1 h2 h3)
  have HP := Hid.mk (fun p => wpH p h0 h1 h2 h3)
  go_enter Tryz.func75, Tryz.ntmps75
  go_wp2_with (go_at_call 76; refine (C.out _).mono ?_; rintro e w1 ⟨rfl, hk1⟩)
  have hk0 := Hid.mk (((Kept.refl [] w).alloc (.cells #[.int .i64 W, .int .i64 H, .int .i64 D, .bool A] 26)).trans hk1)
  have hcs := (Sat.new w W H D A 26).keep hk1 (by simp)
  obtain ⟨b, eb⟩ : ∃ b, b = w.heap.size := ⟨_, rfl⟩
  rw [← eb] at hcs ⊢
  clear eb hk1
  go_loopw [3, 9] (fun s i wr => ∃ k : Nat, k ≤ n ∧ i = .int .i64 (k : Int) ∧ s = .int .i64 (sT W H k) ∧ Kept [] w1 wr) (fun _ i _ => n - (intOf i).toNat)
  case atStart => exact ⟨0, by omega, rfl, rfl, Kept.refl _ _⟩
  case round =>
    obtain ⟨k, hk, rfl, rfl, hkr⟩ := hrel
    have Hkr := Hid.mk hkr
    obtain ⟨q0, q1, q2, q3⟩ := hcs.keep hkr (by simp)
    by_cases hlt : k < n
    · have b1 := HP.out (k : Int)
      have b2 := HB.out k
      have ES := Hid.mk (show sT W H (k + 1) = sT W H k + wp W k * H from rfl)
      have D2 := Hid.mk (fun u => C2.out u k)
      obtain ⟨x, ex⟩ : ∃ x, x = wp W k := ⟨_, rfl⟩
      rw [← ex] at b1 ES D2
      clear ex
      go_wp2_with (go_at_call 48; refine (D2.out _).mono ?_; rintro e w2 ⟨rfl, hk2⟩)
      have K := Hid.mk (Hkr.out.trans hk2)
      go_wp2
      exact ⟨⟨k + 1, by omega, by go_num, by rw [ES.out], K.out⟩, by simp [intOf]; omega⟩
    · obtain rfl : n = k := by omega
      go_wp2
      go_ret
      exact ⟨ret_int E.out, hk0.out.trans Hkr.out⟩

set_option maxHeartbeats 4000000 in
set_option maxRecDepth 1000000 in
theorem shaped_any (W H D : Int) (A : Bool) (w : World) : Calls Tryz.prog 46 #[shv W H D A] w fun e w' => e = .returned (.int .i64 (shE W H D A)) ∧ Kept [] w w' := by
  have C := Hid.mk sided_any
  have hk0 := Hid.mk ((Kept.refl [] w).alloc (.cells #[.int .i64 W, .int .i64 H, .int .i64 D, .bool A] 26))
  by_cases hW : 1 ≤ W ∧ W ≤ 4096
  · have DW := Hid.mk (fun u => (sided_any W u))
    rw [decide_eq_true hW] at DW
    by_cases hH : 1 ≤ H ∧ H ≤ 4096
    · have DH := Hid.mk (fun u => (sided_any H u))
      rw [decide_eq_true hH] at DH
      by_cases hD : D = 10 ∨ D = 12
      · have C3 := Hid.mk (fun u => total_any W H D A u hW.1 hW.2 hH.1 hH.2)
        by_cases hT : tot W H A ≤ 4194304
        · have E := Hid.mk (shE_ok (W := W) (H := H) (D := D) (A := A) ⟨hW, hH, hD, hT⟩)
          obtain ⟨T, eT⟩ : ∃ T, T = tot W H A := ⟨_, rfl⟩
          rw [← eT] at hT C3
          clear eT hW hH
          rcases hD with rfl | rfl
          · go_enter Tryz.func46, Tryz.ntmps46
            go_wp2_with (first | (go_at_call_of 74 W; refine (DW.out _).mono ?_; rintro e w1 ⟨rfl, hw⟩; obtain rfl := hw.symm) | (go_at_call_of 74 H; refine (DH.out _).mono ?_; rintro e w1 ⟨rfl, hw⟩; obtain rfl := hw.symm) | (go_at_call 75; refine (C3.out _).mono ?_; rintro e w2 ⟨rfl, hk2⟩))
            go_ret
            exact ⟨ret_int E.out.symm, hk0.out.trans hk2⟩
          · go_enter Tryz.func46, Tryz.ntmps46
            go_wp2_with (first | (go_at_call_of 74 W; refine (DW.out _).mono ?_; rintro e w1 ⟨rfl, hw⟩; obtain rfl := hw.symm) | (go_at_call_of 74 H; refine (DH.out _).mono ?_; rintro e w1 ⟨rfl, hw⟩; obtain rfl := hw.symm) | (go_at_call 75; refine (C3.out _).mono ?_; rintro e w2 ⟨rfl, hk2⟩))
            go_ret
            exact ⟨ret_int E.out.symm, hk0.out.trans hk2⟩
        · have E := Hid.mk (shE_no (W := W) (H := H) (D := D) (A := A) (fun h => hT h.2.2.2))
          obtain ⟨T, eT⟩ : ∃ T, T = tot W H A := ⟨_, rfl⟩
          rw [← eT] at hT C3
          clear eT hW hH
          rcases hD with rfl | rfl
          · go_enter Tryz.func46, Tryz.ntmps46
            go_wp2_with (first | (go_at_call_of 74 W; refine (DW.out _).mono ?_; rintro e w1 ⟨rfl, hw⟩; obtain rfl := hw.symm) | (go_at_call_of 74 H; refine (DH.out _).mono ?_; rintro e w1 ⟨rfl, hw⟩; obtain rfl := hw.symm) | (go_at_call 75; refine (C3.out _).mono ?_; rintro e w2 ⟨rfl, hk2⟩))
            go_ret
            exact ⟨ret_int E.out.symm, hk0.out.trans hk2⟩
          · go_enter Tryz.func46, Tryz.ntmps46
            go_wp2_with (first | (go_at_call_of 74 W; refine (DW.out _).mono ?_; rintro e w1 ⟨rfl, hw⟩; obtain rfl := hw.symm) | (go_at_call_of 74 H; refine (DH.out _).mono ?_; rintro e w1 ⟨rfl, hw⟩; obtain rfl := hw.symm) | (go_at_call 75; refine (C3.out _).mono ?_; rintro e w2 ⟨rfl, hk2⟩))
            go_ret
            exact ⟨ret_int E.out.symm, hk0.out.trans hk2⟩
      · have E := Hid.mk (shE_no (W := W) (H := H) (D := D) (A := A) (fun h => hD h.2.2.1))
        have d1 : (D != 10) = true := by simp; omega
        have d2 : (D != 12) = true := by simp; omega
        clear hW hH hD
        go_enter Tryz.func46, Tryz.ntmps46
        go_wp2_with (first | (go_at_call_of 74 W; refine (DW.out _).mono ?_; rintro e w1 ⟨rfl, hw⟩; obtain rfl := hw.symm) | (go_at_call_of 74 H; refine (DH.out _).mono ?_; rintro e w1 ⟨rfl, hw⟩; obtain rfl := hw.symm))
        go_ret
        exact ⟨ret_int E.out.symm, hk0.out⟩
    · have DH := Hid.mk (fun u => (sided_any H u))
      rw [decide_eq_false hH] at DH
      have E := Hid.mk (shE_no (W := W) (H := H) (D := D) (A := A) (fun h => hH h.2.1))
      clear hW hH
      go_enter Tryz.func46, Tryz.ntmps46
      go_wp2_with (first | (go_at_call_of 74 W; refine (DW.out _).mono ?_; rintro e w1 ⟨rfl, hw⟩; obtain rfl := hw.symm) | (go_at_call_of 74 H; refine (DH.out _).mono ?_; rintro e w1 ⟨rfl, hw⟩; obtain rfl := hw.symm))
      go_ret
      exact ⟨ret_int E.out.symm, hk0.out⟩
  · have DW := Hid.mk (fun u => (sided_any W u))
    rw [decide_eq_false hW] at DW
    have E := Hid.mk (shE_no (W := W) (H := H) (D := D) (A := A) (fun h => hW h.1))
    clear hW
    go_enter Tryz.func46, Tryz.ntmps46
    go_wp2_with (first | (go_at_call_of 74 W; refine (DW.out _).mono ?_; rintro e w1 ⟨rfl, hw⟩; obtain rfl := hw.symm))
    go_ret
    exact ⟨ret_int E.out.symm, hk0.out⟩

/-- Size's error. -/
def szE (W H D p : Int) (A : Bool) : Int := if shE W H D A = 0 then (if 0 ≤ p ∧ p < (np A : Int) then 0 else 65) else 61
theorem shE_two (W H D : Int) (A : Bool) : (shE W H D A = 0 ∧ Shp W H D A) ∨ (shE W H D A = 61 ∧ ¬ Shp W H D A) := by
  by_cases h : Shp W H D A
  · exact .inl ⟨shE_ok h, h⟩
  · exact .inr ⟨shE_no h, h⟩

set_option maxHeartbeats 4000000 in
set_option maxRecDepth 1000000 in
theorem size_any (W H D p : Int) (A : Bool) (w : World) : Calls Tryz.prog 22 #[shv W H D A, .int .i64 p] w fun e w' => e = .returned (.tuple #[.int .i64 (if szE W H D p A = 0 then wp W p else 0), .int .i64 (if szE W H D p A = 0 then H else 0), .int .i64 (szE W H D p A)]) ∧ Kept [] w w' := by
  have C := Hid.mk (fun u => shaped_any W H D A u)
  have hk0 := Hid.mk ((Kept.refl [] w).alloc (.cells #[.int .i64 W, .int .i64 H, .int .i64 D, .bool A] 26))
  have S0 := Sat.new w W H D A 26
  rcases shE_two W H D A with ⟨e1, h1⟩ | ⟨e1, h1⟩
  · rw [e1] at C
    by_cases hp : 0 ≤ p ∧ p < (np A : Int)
    · rw [show szE W H D p A = 0 by unfold szE; rw [if_pos e1, if_pos hp]]
      have C2 := Hid.mk (fun u => there_any W H D p A u)
      rw [decide_eq_true hp] at C2
      have C3 := Hid.mk (fun u => sides_any W H D p A u (by have := h1.1; omega) h1.1.2)
      clear hp h1 e1
      go_enter Tryz.func22, Tryz.ntmps22
      go_wp2_with (first | (go_at_call 46; refine (C.out _).mono ?_; rintro e w1 ⟨rfl, hk1⟩; obtain ⟨q0, q1, q2, q3⟩ := S0.keep hk1 (by simp)) | (go_at_call 47; refine (C2.out _).mono ?_; rintro e w2 ⟨rfl, hk2⟩; have r0 := cell_keep hk2 q0 (by simp); have r1 := cell_keep hk2 q1 (by simp); have r2 := cell_keep hk2 q2 (by simp); have r3 := cell_keep hk2 q3 (by simp)) | (go_at_call 48; refine (C3.out _).mono ?_; rintro e w3 ⟨rfl, hk3⟩))
      go_ret3
      exact ⟨rfl, ((hk0.out.trans hk1).trans hk2).trans hk3⟩
    · rw [show szE W H D p A = 65 by unfold szE; rw [if_pos e1, if_neg hp]]
      have C2 := Hid.mk (fun u => there_any W H D p A u)
      rw [decide_eq_false hp] at C2
      clear hp h1 e1
      go_enter Tryz.func22, Tryz.ntmps22
      go_wp2_with (first | (go_at_call 46; refine (C.out _).mono ?_; rintro e w1 ⟨rfl, hk1⟩; obtain ⟨q0, q1, q2, q3⟩ := S0.keep hk1 (by simp)) | (go_at_call 47; refine (C2.out _).mono ?_; rintro e w2 ⟨rfl, hk2⟩))
      go_ret3
      exact ⟨rfl, (hk0.out.trans hk1).trans hk2⟩
  · rw [e1] at C
    rw [show szE W H D p A = 61 by unfold szE; rw [e1]; rfl]
    clear h1 e1
    go_enter Tryz.func22, Tryz.ntmps22
    go_wp2_with (first | (go_at_call 46; refine (C.out _).mono ?_; rintro e w1 ⟨rfl, hk1⟩))
    go_ret3
    exact ⟨rfl, hk0.out.trans hk1⟩

end Go.Proofs.YthkpligodbkofaaGreatDoor.Tl

namespace Go.Proofs.YthkpligodbkofaaGreatDoor.Pc
open Go.RowKit

/-- append of bytes that are read onto a row of one's own. -/
theorem wpList_appR (B : Nat) (w : World) {ops : Array Oper} {rest : List Oper} {o : Oper} {a : Act} {Q : Exit → Act → World → Prop} (hgd : o.guard = none) (s x : Operand)
    (ho : o.op = .call { callee := .builtin .append, args := #[s, x], argTypes := #[41, 41] })
    (v : Value) (n : Nat) (xs : List Value) (hs : a.eval s = v) (hown : w.ownsRow B 5 1 v n xs) (so : Option Addr) (m c : Nat) (l : List Nat) (hx : a.eval x = .slice so m c) (hr : Reads w so l) (hm : l.length = m) (hc : so = none → c = 0) (hB : B ≤ w.heap.size)
    (hb : n + m ≤ 140737488355328)
    (h : ∀ v' w', w'.ownsRow B 5 1 v' (n + m) (xs ++ l.map byt) → Kept v.ownBlock.toList w w' → Lies w v v' → wpList Tryz.prog ops Q rest (a.put o.dst v') w') :
    wpList Tryz.prog ops Q (o :: rest) a w := by
  obtain ⟨i0, hi, hz0, hz1, hz2⟩ := info_parts Tryz.info5
  cases so with
  | none =>
    have hl : l = [] := by
      rcases hr with h | ⟨g, off, h, _⟩
      · exact h
      · cases h
    subst hl
    obtain rfl : c = 0 := hc rfl
    obtain rfl : m = 0 := hm.symm
    refine wpList_plain hgd fun K hK => ?_
    have hrun := run_append_owned_none (P := Tryz.prog) (w := w) B 41 o.type 5 i0 1 Tryz.underlying41 hi v n xs hown
    unfold Oper.wp execOp
    simp only [ho, resolve, invoke, builtin, Sem.run_bind, Sem.run_pure, Result.andThen_ok, List.map_toArray, List.map_cons, List.map_nil, hs, hx, hrun]
    exact hK _ _ (h v w (by simpa using hown) (Kept.refl _ _) (Lies.refl _ _))
  | some ad =>
    refine wpList_append_own_at w hgd s x 41 ho B 5 i0 (.int .u8 0) 1 1 Tryz.underlying41 hi hz0 hz1 hz2 rfl (by decide) v n xs hs hown ad m c (l.map byt) hx (by simp [hm]) (fun j u hj => ?_) (fun u hu => by simp only [List.mem_map] at hu; obtain ⟨b, _, rfl⟩ := hu; rfl) (by unfold maxLen; omega) (by omega) hB ?_
    · rcases hr with h | ⟨g, off, h, hcc⟩
      · subst h; simp at hj
      · cases h
        rw [List.getElem?_map] at hj
        cases e : l[j]? with
        | none => rw [e] at hj; cases hj
        | some b =>
          rw [e] at hj
          have hj2 : byt b = u := by simpa using hj
          have hlt : j < l.length := by
            rcases Nat.lt_or_ge j l.length with h | h
            · exact h
            · rw [List.getElem?_eq_none h] at e; cases e
          have h1 := hcc j hlt
          rw [List.getD_eq_getElem?_getD, e] at h1
          rw [← hj2]
          by_cases j0 : j = 0
          · subst j0; simpa [Addr.add] using h1
          · simpa [Addr.add, j0] using h1
    intro v' w' h2 h3 _ h5
    refine h v' w' h2 (Kept.of_grown h3) ?_
    rcases h5 with h | h
    · exact .inl h
    · exact .inr ⟨_, h, Nat.le_refl _⟩

/-- Fields: numbers and how many bytes each takes. -/
def fds : List (Nat × Nat) → List Nat
  | [] => []
  | p :: t => big p.2 p.1 ++ fds t
theorem fds_app (a b : List (Nat × Nat)) : fds (a ++ b) = fds a ++ fds b := by
  induction a with
  | nil => rfl
  | cons p t ih => simp only [List.cons_append, fds, ih, List.append_assoc]
theorem fds_take (fs : List (Nat × Nat)) (k : Nat) (h : k < fs.length) : fds (fs.take (k + 1)) = fds (fs.take k) ++ big (fs.getD k (0, 0)).2 (fs.getD k (0, 0)).1 := by
  rw [List.take_add_one, fds_app, List.getElem?_eq_getElem h, List.getD_eq_getElem?_getD, List.getElem?_eq_getElem h]
  simp [fds]
/-- Fields that are read. -/
def Fds (w : World) (fo : Option Addr) (fs : List (Nat × Nat)) : Prop := ∃ g off, fo = some ⟨g, off, none⟩ ∧ ∀ i, i < fs.length → w.cell? ⟨g, off + i * 2, none⟩ = some (.int .i64 ((fs.getD i (0, 0)).1 : Int)) ∧ w.cell? ⟨g, off + i * 2 + 1, none⟩ = some (.int .i64 ((fs.getD i (0, 0)).2 : Int))
theorem Fds.keep {w w' : World} {fo : Option Addr} {fs : List (Nat × Nat)} {ks : List Nat} (h : Fds w fo fs) (hk : Kept ks w w') (hn : ∀ g off, fo = some ⟨g, off, none⟩ → g ∉ ks) : Fds w' fo fs := by
  obtain ⟨g, off, e, hc⟩ := h
  exact ⟨g, off, e, fun i hi => ⟨Tl.cell_keep hk (hc i hi).1 (hn g off e), Tl.cell_keep hk (hc i hi).2 (hn g off e)⟩⟩
/-- They fit. -/
def Fit8 (fs : List (Nat × Nat)) : Prop := ∀ i, i < fs.length → 1 ≤ (fs.getD i (0, 0)).2 ∧ (fs.getD i (0, 0)).2 ≤ 8 ∧ (fs.getD i (0, 0)).1 < 256 ^ (fs.getD i (0, 0)).2
theorem fit_hv {x m : Nat} (h : x < 256 ^ m) : (((x : Nat) : Int) / 2 ^ (8 * m) == 0) = true := by
  rw [fits_lt _ _ (by omega), decide_eq_true_iff, pow_two_int]
  rw [pow256] at h
  omega
theorem own_app {w : World} {B e n m : Nat} {v : Value} {xs ys : List Value} (h : w.ownsRow B e 1 v n xs) (hn : n = m) (hx : xs = ys) : w.ownsRow B e 1 v m ys := by subst hn hx; exact h

set_option maxHeartbeats 8000000 in
set_option maxRecDepth 1000000 in
theorem lay_any (B : Nat) (V : Value) (n : Nat) (xs : List Value) (fo : Option Addr) (fc F : Nat) (fs : List (Nat × Nat)) (w : World) (hown : w.ownsRow B 5 1 V n xs) (hB : B ≤ w.heap.size) (hf : Fds w fo fs) (hF : fs.length = F) (hfit : Fit8 fs) (hlt : F ≤ 1000) (hn : n ≤ 1000000000) (hne : ∀ g off, fo = some ⟨g, off, none⟩ → V.ownBlock ≠ some g) :
    Calls Tryz.prog 82 #[V, .slice fo F fc] w fun e w' => ∃ V', e = .returned V' ∧ w'.ownsRow B 5 1 V' (n + (fds fs).length) (xs ++ (fds fs).map byt) ∧ Kept V.ownBlock.toList w w' ∧ Lies w V V' := by
  obtain ⟨ao, cap, rfl⟩ := row_form hown
  obtain ⟨g, off, rfl, hc⟩ := hf
  have HC := Hid.mk hc
  have HO := Hid.mk hown
  have HF := Hid.mk hF
  have HT := Hid.mk hfit
  have HNE := Hid.mk (hne g off rfl)
  have HBB := Hid.mk hB
  have HN := Hid.mk hn
  have HFT := Hid.mk (fun k h => fds_take fs k h)
  have HFA : Hid (fds (fs.take F) = fds fs) := Hid.mk (by rw [← hF, List.take_length])
  clear hc hown hF hfit hne hB hn
  go_enter Tryz.func82, Tryz.ntmps82
  go_wp2
  go_loopw [0, 11] (fun t i wr => ∃ (k M c : Nat) (bo : Option Addr), k ≤ F ∧ i = .int .i64 (k : Int) ∧ t = .slice bo M c ∧ Hid (wr.ownsRow B 5 1 (.slice bo M c) M (xs ++ (fds (fs.take k)).map byt) ∧ M = n + (fds (fs.take k)).length ∧ M ≤ n + 8 * k ∧ Kept (Value.slice ao n cap).ownBlock.toList w wr ∧ Lies w (.slice ao n cap) (.slice bo M c))) (fun _ i _ => F - (intOf i).toNat)
  case atStart => exact ⟨0, n, cap, ao, Nat.zero_le _, rfl, rfl, Hid.mk ⟨by simpa [fds] using HO.out, by simp [fds], by omega, Kept.refl _ _, Lies.refl _ _⟩⟩
  case round =>
    obtain ⟨k, M, c, bo, hk, rfl, rfl, HI⟩ := hrel
    by_cases hkF : k < F
    · obtain ⟨c0, c1⟩ := HC.out k (by rw [HF.out]; exact hkF)
      obtain ⟨t1, t2, t3⟩ := HT.out k (by rw [HF.out]; exact hkF)
      have hft := HFT.out k (by rw [HF.out]; exact hkF)
      obtain ⟨x, ex⟩ : ∃ x, x = (fs.getD k (0, 0)).1 := ⟨_, rfl⟩
      obtain ⟨m, em⟩ : ∃ m, m = (fs.getD k (0, 0)).2 := ⟨_, rfl⟩
      simp only [← ex, ← em] at c0 c1 t1 t2 t3 hft
      have HFTk := Hid.mk hft
      have ix : (k : Int) < (F : Int) := by omega
      have hgn : g ∉ (Value.slice ao n cap).ownBlock.toList := by
        have h9 := HNE.out
        intro h8; exact h9 (by simpa using h8)
      replace c0 := Tl.cell_keep HI.out.2.2.2.1 c0 hgn
      replace c1 := Tl.cell_keep HI.out.2.2.2.1 c1 hgn
      obtain ⟨w3, e3⟩ : ∃ w3, wr.alloc (.cells #[.int .i64 (x : Int), .int .i64 (m : Int)] 136 (0, 0)) = w3 := ⟨_, rfl⟩
      have K3 : Hid (Kept [] wr w3) := Hid.mk (by rw [← e3]; exact (Kept.refl [] wr).alloc _)
      obtain ⟨v0, v1⟩ : w3.cell? ⟨wr.heap.size, 0, none⟩ = some (.int .i64 (x : Int)) ∧ w3.cell? ⟨wr.heap.size, 1, none⟩ = some (.int .i64 (m : Int)) := by
        subst e3; refine ⟨?_, ?_⟩ <;> go_simp
      have C := Hid.mk (fun u => big_at (x : Int) (m : Int) m u rfl t1 t2 (by omega) (fit_hv t3))
      have HT2 := Hid.mk t2
      have hx64 : x < 18446744073709551616 := Nat.lt_of_lt_of_le t3 (Nat.pow_le_pow_right (by decide) t2 : 256 ^ m ≤ 256 ^ 8)
      have ux : IntKind.u64.wrap (x : Int) = (x : Int) := by rw [IntKind.wrap_u64]; omega
      clear hx64
      clear ex em t1 t2 t3 hft hgn
      go_wp2_with (fail)
      refine (C.out _).mono ?_
      rintro e w4 ⟨g4, cp4, rfl, hg4, ho4, K4⟩
      have K4 := Hid.mk K4
      have HR4 : Hid (Reads w4 (some ⟨g4, 0, none⟩) (big m x)) := Hid.mk (by
        rw [Int.toNat_natCast] at ho4
        exact reads_row ho4)
      have HL4 := Hid.mk (big_length m x)
      have HO4 : Hid (w4.ownsRow B 5 1 (.slice bo M c) M (xs ++ (fds (fs.take k)).map byt)) := Hid.mk (by
        exact K4.out.row (K3.out.row HI.out.1 (by simp)) (by simp))
      have HS4 : Hid (w.heap.size ≤ w4.heap.size ∧ wr.heap.size ≤ w4.heap.size) := Hid.mk (by have := K4.out.size; have := K3.out.size; have := HI.out.2.2.2.1.size; omega)
      have HM : Hid (M + m ≤ 140737488355328) := Hid.mk (by have := HI.out.2.2.1; have := HN.out; have := HT2.out; omega)
      clear v0 v1 c0 c1 hg4 ho4 e3
      go_wp2_with (at_builtin; refine wpList_appR B w4 rfl _ _ rfl (.slice bo M c) M _ rfl HO4.out (some ⟨g4, 0, none⟩) m cp4 (big m x) rfl HR4.out HL4.out (by simp) (by have := HBB.out; have := HS4.out; omega) HM.out ?_; intro V5 w5 ho5 K5 L5; obtain ⟨b5, c5, rfl⟩ := row_form ho5)
      have HO5 := Hid.mk ho5
      have K5 := Hid.mk K5
      have L5 := Hid.mk L5
      clear ho5
      go_wp2
      go_roundw
      case rel => exact ⟨k + 1, M + m, c5, b5, by omega, by go_num, rfl, Hid.mk (by
        have hI := HI.out
        have e1 := HFTk.out
        refine ⟨?_, ?_, ?_, ?_, ?_⟩
        · rw [e1, List.map_append, ← List.append_assoc]; exact HO5.out
        · rw [e1, List.length_append, HL4.out]; omega
        · have := HT2.out; omega
        · have k1 := hI.2.2.2.1.trans ((K3.out.trans K4.out).mono (by simp))
          refine k1.step K5.out (fun z hz => ?_)
          rcases hI.2.2.2.2 with h | ⟨q, h, hq⟩
          · rw [h] at hz; exact .inl hz
          · rw [h] at hz; simp at hz; subst hz; exact .inr hq
        · exact hI.2.2.2.2.trans L5.out (by have := HS4.out; omega))⟩
      case measure => simp [intOf]; omega
    · obtain rfl : F = k := by omega
      have HE := Hid.mk HI.out
      clear HI
      rw [HFA.out] at HE
      go_wp2
      go_ret
      obtain ⟨h1, h2, h3, h4, h5⟩ := HE.out
      exact ⟨_, rfl, own_app h1 h2 rfl, h4, h5⟩
end Go.Proofs.YthkpligodbkofaaGreatDoor.Pc
