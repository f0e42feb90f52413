import Derived.Test.YthhegomjipbdbaaGreatDoorLZ
import Derived.Test.YthhegomjipbdbaaGreatDoorNZ
import Derived.Laws.OwnMore
namespace Go.Proofs.YthhegomjipbdbaaGreatDoor.Tl
open Go.RowKit

/-- Half as many, rounded up. -/
def hf (n : Int) : Int := n / 2 + n % 2
/-- How wide a plane is. -/
def wp (W : Int) (p : Int) : Int := if p = 1 ∨ p = 2 then hf W else W
/-- How many planes there are. -/
def np (A : Bool) : Nat := if A then 4 else 3
/-- How many samples all planes have. -/
def tot (W H : Int) (A : Bool) : Int := W * H + hf W * H + hf W * H + (if A then W * H else 0)
/-- A shape may be. -/
def Shp (W H D : Int) (A : Bool) : Prop := (1 ≤ W ∧ W ≤ 4096) ∧ (1 ≤ H ∧ H ≤ 4096) ∧ (D = 10 ∨ D = 12) ∧ tot W H A ≤ 4194304
/-- Shaped's answer. -/
def shE (W H D : Int) (A : Bool) : Int := if (1 ≤ W ∧ W ≤ 4096) ∧ (1 ≤ H ∧ H ≤ 4096) ∧ (D = 10 ∨ D = 12) ∧ tot W H A ≤ 4194304 then 0 else 61
theorem shE_ok {W H D : Int} {A : Bool} (h : Shp W H D A) : shE W H D A = 0 := if_pos h
theorem shE_no {W H D : Int} {A : Bool} (h : ¬ Shp W H D A) : shE W H D A = 61 := if_neg h

theorem hf_lo {n : Int} (h : 1 ≤ n) : 1 ≤ hf n := by unfold hf; omega
theorem hf_hi {n : Int} (h : 0 ≤ n) : hf n ≤ n := by unfold hf; omega
theorem wp_lo {W : Int} (p : Int) (h : 1 ≤ W) : 1 ≤ wp W p := by unfold wp; split; exact hf_lo h; exact h
theorem wp_hi {W : Int} (p : Int) (h : 1 ≤ W) : wp W p ≤ W := by unfold wp; split; exact hf_hi (by omega); exact Int.le_refl _

/-- A shape as a value. -/
abbrev shv (W H D : Int) (A : Bool) : Value := .agg #[.int .i64 W, .int .i64 H, .int .i64 D, .bool A]
/-- A rectangle as a value. -/
abbrev rcv (X Y W H : Int) : Value := .agg #[.int .i64 X, .int .i64 Y, .int .i64 W, .int .i64 H]

set_option maxHeartbeats 1000000 in
set_option maxRecDepth 1000000 in
theorem sided_any (x : Int) (w : World) : Calls Tryz.prog 78 #[.int .i64 x] w fun e w' => e = .returned (.bool (decide (1 ≤ x ∧ x ≤ 4096))) ∧ w' = w := by
  by_cases h1 : 1 ≤ x
  · by_cases h2 : x ≤ 4096
    · go_enter Tryz.func78, Tryz.ntmps78
      go_wp2
      go_ret
      exact ⟨ret_bool (by simp [h1, h2]), rfl⟩
    · go_enter Tryz.func78, Tryz.ntmps78
      go_wp2
      go_ret
      exact ⟨ret_bool (by symm; rw [decide_eq_false_iff_not]; omega), rfl⟩
  · go_enter Tryz.func78, Tryz.ntmps78
    go_wp2
    go_ret
    exact ⟨ret_bool (by rw [decide_eq_false (show ¬ 1 ≤ x by omega)]; rfl), rfl⟩

set_option maxHeartbeats 1000000 in
set_option maxRecDepth 1000000 in
theorem chroma_any (p : Int) (w : World) : Calls Tryz.prog 102 #[.int .i64 p] w fun e w' => e = .returned (.bool (decide (p = 1 ∨ p = 2))) ∧ w' = w := by
  by_cases h1 : p = 1
  · subst h1
    go_enter Tryz.func102, Tryz.ntmps102
    go_wp2
    go_ret
    exact ⟨rfl, rfl⟩
  · have h1' : (p == 1) = false := by simpa using h1
    go_enter Tryz.func102, Tryz.ntmps102
    go_wp2
    go_ret
    exact ⟨ret_bool (by simp only [h1, false_or]; rfl), rfl⟩

set_option maxHeartbeats 1000000 in
set_option maxRecDepth 1000000 in
theorem half_any (n : Int) (w : World) (h0 : 0 ≤ n) (h1 : n ≤ 9223372036854775807) : Calls Tryz.prog 103 #[.int .i64 n] w fun e w' => e = .returned (.int .i64 (hf n)) ∧ w' = w := by
  go_enter Tryz.func103, Tryz.ntmps103
  go_wp2
  go_ret
  exact ⟨rfl, rfl⟩

set_option maxHeartbeats 1000000 in
set_option maxRecDepth 1000000 in
theorem planes_any (W H D : Int) (A : Bool) (w : World) : Calls Tryz.prog 80 #[shv W H D A] w fun e w' => e = .returned (.int .i64 (np A : Int)) ∧ Kept [] w w' := by
  cases A
  · go_enter Tryz.func80, Tryz.ntmps80
    go_wp2
    go_ret
    exact ⟨rfl, (Kept.refl _ _).alloc _⟩
  · go_enter Tryz.func80, Tryz.ntmps80
    go_wp2
    go_ret
    exact ⟨rfl, (Kept.refl _ _).alloc _⟩


set_option maxHeartbeats 1000000 in
set_option maxRecDepth 1000000 in
theorem there_any (W H D p : Int) (A : Bool) (w : World) : Calls Tryz.prog 114 #[shv W H D A, .int .i64 p] w fun e w' => e = .returned (.bool (decide (0 ≤ p ∧ p < (np A : Int)))) ∧ Kept [] w w' := by
  have C := Hid.mk (fun u => planes_any W H D A u)
  have hn : (np A : Int) ≤ 4 ∧ 0 ≤ (np A : Int) := by cases A <;> decide
  obtain ⟨n, en⟩ : ∃ n : Nat, n = np A := ⟨_, rfl⟩
  rw [← en] at C hn ⊢
  clear en
  by_cases h1 : 0 ≤ p
  · go_enter Tryz.func114, Tryz.ntmps114
    go_wp2_with (go_at_call 80; refine (C.out _).mono ?_; rintro e w1 ⟨rfl, hk1⟩)
    go_ret
    exact ⟨ret_bool (by simp [h1]), ((Kept.refl _ _).alloc _).trans hk1⟩
  · go_enter Tryz.func114, Tryz.ntmps114
    go_wp2
    go_ret
    exact ⟨ret_bool (by rw [decide_eq_false (show ¬ 0 ≤ p by omega)]; rfl), (Kept.refl _ _).alloc _⟩

set_option maxHeartbeats 1000000 in
set_option maxRecDepth 1000000 in
theorem sides_any (W H D p : Int) (A : Bool) (w : World) (h0 : 0 ≤ W) (h1 : W ≤ 4096) : Calls Tryz.prog 81 #[shv W H D A, .int .i64 p] w fun e w' => e = .returned (.tuple #[.int .i64 (wp W p), .int .i64 H]) ∧ Kept [] w w' := by
  have C := Hid.mk (fun u => chroma_any p u)
  have C2 := Hid.mk (fun u => half_any W u h0 (by omega))
  by_cases hp : p = 1 ∨ p = 2
  · rw [decide_eq_true hp] at C
    have E := Hid.mk (show wp W p = hf W from if_pos hp)
    clear hp
    go_enter Tryz.func81, Tryz.ntmps81
    go_wp2_with (first | (go_at_call 102; refine (C.out _).mono ?_; rintro e w1 ⟨rfl, hw⟩; obtain rfl := hw.symm))
    go_quiet ((go_at_call 103; refine Calls.quiet_of_same (C2.out _)))
    go_wp2
    go_ret2
    rw [E.out]
    exact ⟨rfl, ((Kept.refl _ _).alloc _).drewN _⟩
  · rw [decide_eq_false hp] at C
    have E := Hid.mk (show wp W p = W from if_neg hp)
    clear hp
    go_enter Tryz.func81, Tryz.ntmps81
    go_wp2_with (first | (go_at_call 102; refine (C.out _).mono ?_; rintro e w1 ⟨rfl, hw⟩; obtain rfl := hw.symm))
    go_quiet (fail)
    go_wp2
    go_ret2
    rw [E.out]
    exact ⟨rfl, ((Kept.refl _ _).alloc _).drewN _⟩

theorem alloc_cell (w : World) (cs : Array Value) (t i : Nat) (v : Value) (h : cs[i]? = some v) : (w.alloc (.cells cs t (0, 0))).cell? ⟨w.heap.size, i, none⟩ = some v := by
  rw [cell_of_row _ _ _ _ _ _ (heap_alloc_new w _)]; exact h
theorem alloc_kept (w : World) (o : Obj) : Kept [] w (w.alloc o) := (Kept.refl [] w).alloc o
/-- A shape lies there. -/
structure Sat (w : World) (b : Nat) (W H D : Int) (A : Bool) : Prop where
  c0 : w.cell? ⟨b, 0, none⟩ = some (.int .i64 W)
  c1 : w.cell? ⟨b, 1, none⟩ = some (.int .i64 H)
  c2 : w.cell? ⟨b, 2, none⟩ = some (.int .i64 D)
  c3 : w.cell? ⟨b, 3, none⟩ = some (.bool A)
theorem Sat.new (w : World) (W H D : Int) (A : Bool) (t : Nat) : Sat (w.alloc (.cells #[.int .i64 W, .int .i64 H, .int .i64 D, .bool A] t (0, 0))) w.heap.size W H D A :=
  ⟨alloc_cell _ _ _ _ _ rfl, alloc_cell _ _ _ _ _ rfl, alloc_cell _ _ _ _ _ rfl, alloc_cell _ _ _ _ _ rfl⟩
theorem cell_keep {w w' : World} {ks : List Nat} (hk : Kept ks w w') {g o : Nat} {v : Value} (h : w.cell? ⟨g, o, none⟩ = some v) (hn : g ∉ ks) : w'.cell? ⟨g, o, none⟩ = some v :=
  (World.cell?_of_block (a := ⟨g, o, none⟩) (hk.block g (World.block_lt_of_cell? w _ h) hn)).trans h
theorem Sat.keep {w w' : World} {b : Nat} {W H D : Int} {A : Bool} {ks : List Nat} (h : Sat w b W H D A) (hk : Kept ks w w') (hn : b ∉ ks) : Sat w' b W H D A :=
  ⟨cell_keep hk h.c0 hn, cell_keep hk h.c1 hn, cell_keep hk h.c2 hn, cell_keep hk h.c3 hn⟩

/-- The samples of the first planes. -/
def sT (W H : Int) : Nat → Int
  | 0 => 0
  | p + 1 => sT W H p + wp W p * H
theorem sT_np (W H : Int) (A : Bool) : sT W H (np A) = tot W H A := by
  cases A
  · show 0 + W * H + hf W * H + hf W * H = W * H + hf W * H + hf W * H + 0
    omega
  · show 0 + W * H + hf W * H + hf W * H + W * H = W * H + hf W * H + hf W * H + W * H
    omega
theorem wpH {W H : Int} (p : Int) (h0 : 1 ≤ W) (h1 : W ≤ 4096) (h2 : 1 ≤ H) (h3 : H ≤ 4096) : 1 ≤ wp W p * H ∧ wp W p * H ≤ 16777216 := by
  have a := wp_lo p h0
  have b := wp_hi p h0
  constructor
  · have := Int.mul_le_mul a h2 (by omega) (by omega)
    omega
  · have := Int.mul_le_mul (show wp W p ≤ 4096 by omega) h3 (by omega) (by omega)
    omega
theorem sT_lo {W H : Int} (h0 : 1 ≤ W) (h1 : W ≤ 4096) (h2 : 1 ≤ H) (h3 : H ≤ 4096) (p : Nat) : 0 ≤ sT W H p ∧ sT W H p ≤ 16777216 * p := by
  induction p with
  | zero => simp [sT]
  | succ p ih =>
    have := wpH (p : Int) h0 h1 h2 h3
    have e : sT W H (p + 1) = sT W H p + wp W p * H := rfl
    rw [e]
    omega

set_option maxHeartbeats 4000000 in
set_option maxRecDepth 1000000 in
theorem total_any (W H D : Int) (A : Bool) (w : World) (h0 : 1 ≤ W) (h1 : W ≤ 4096) (h2 : 1 ≤ H) (h3 : H ≤ 4096) : Calls Tryz.prog 79 #[shv W H D A] w fun e w' => e = .returned (.int .i64 (tot W H A)) ∧ Kept [] w w' := by
  have C := Hid.mk (fun u => planes_any W H D A u)
  have C2 := Hid.mk (fun u (p : Nat) => sides_any W H D p A u (by omega) h1)
  have hn : np A ≤ 4 := by cases A <;> decide
  have E := Hid.mk (sT_np W H A)
  obtain ⟨n, en⟩ : ∃ n : Nat, n = np A := ⟨_, rfl⟩
  rw [← en] at C hn E
  clear en
  have HB := Hid.mk (sT_lo h0 h1 h2 h3)
  have HP := Hid.mk (fun p => wpH p h0 h1 h2 h3)
  go_enter Tryz.func79, Tryz.ntmps79
  go_wp2_with (go_at_call 80; refine (C.out _).mono ?_; rintro e w1 ⟨rfl, hk1⟩)
  have hk0 := Hid.mk (((Kept.refl [] w).alloc (.cells #[.int .i64 W, .int .i64 H, .int .i64 D, .bool A] 23)).trans hk1)
  have hcs := (Sat.new w W H D A 23).keep hk1 (by simp)
  obtain ⟨b, eb⟩ : ∃ b, b = w.heap.size := ⟨_, rfl⟩
  rw [← eb] at hcs ⊢
  clear eb hk1
  go_loopw [3, 9] (fun s i wr => ∃ k : Nat, k ≤ n ∧ i = .int .i64 (k : Int) ∧ s = .int .i64 (sT W H k) ∧ Kept [] w1 wr) (fun _ i _ => n - (intOf i).toNat)
  case atStart => exact ⟨0, by omega, rfl, rfl, Kept.refl _ _⟩
  case round =>
    obtain ⟨k, hk, rfl, rfl, hkr⟩ := hrel
    have Hkr := Hid.mk hkr
    obtain ⟨q0, q1, q2, q3⟩ := hcs.keep hkr (by simp)
    by_cases hlt : k < n
    · have b1 := HP.out (k : Int)
      have b2 := HB.out k
      have ES := Hid.mk (show sT W H (k + 1) = sT W H k + wp W k * H from rfl)
      have D2 := Hid.mk (fun u => C2.out u k)
      obtain ⟨x, ex⟩ : ∃ x, x = wp W k := ⟨_, rfl⟩
      rw [← ex] at b1 ES D2
      clear ex
      go_wp2_with (go_at_call 81; refine (D2.out _).mono ?_; rintro e w2 ⟨rfl, hk2⟩)
      have K := Hid.mk (Hkr.out.trans hk2)
      go_wp2
      exact ⟨⟨k + 1, by omega, by go_num, by rw [ES.out], K.out⟩, by simp [intOf]; omega⟩
    · obtain rfl : n = k := by omega
      go_wp2
      go_ret
      exact ⟨ret_int E.out, hk0.out.trans Hkr.out⟩

set_option maxHeartbeats 4000000 in
set_option maxRecDepth 1000000 in
theorem shaped_any (W H D : Int) (A : Bool) (w : World) : Calls Tryz.prog 49 #[shv W H D A] w fun e w' => e = .returned (.int .i64 (shE W H D A)) ∧ Kept [] w w' := by
  have C := Hid.mk sided_any
  have hk0 := Hid.mk ((Kept.refl [] w).alloc (.cells #[.int .i64 W, .int .i64 H, .int .i64 D, .bool A] 23))
  by_cases hW : 1 ≤ W ∧ W ≤ 4096
  · have DW := Hid.mk (fun u => (sided_any W u))
    rw [decide_eq_true hW] at DW
    by_cases hH : 1 ≤ H ∧ H ≤ 4096
    · have DH := Hid.mk (fun u => (sided_any H u))
      rw [decide_eq_true hH] at DH
      by_cases hD : D = 10 ∨ D = 12
      · have C3 := Hid.mk (fun u => total_any W H D A u hW.1 hW.2 hH.1 hH.2)
        by_cases hT : tot W H A ≤ 4194304
        · have E := Hid.mk (shE_ok (W := W) (H := H) (D := D) (A := A) ⟨hW, hH, hD, hT⟩)
          obtain ⟨T, eT⟩ : ∃ T, T = tot W H A := ⟨_, rfl⟩
          rw [← eT] at hT C3
          clear eT hW hH
          rcases hD with rfl | rfl
          · go_enter Tryz.func49, Tryz.ntmps49
            go_wp2_with (first | (go_at_call_of 78 W; refine (DW.out _).mono ?_; rintro e w1 ⟨rfl, hw⟩; obtain rfl := hw.symm) | (go_at_call_of 78 H; refine (DH.out _).mono ?_; rintro e w1 ⟨rfl, hw⟩; obtain rfl := hw.symm) | (go_at_call 79; refine (C3.out _).mono ?_; rintro e w2 ⟨rfl, hk2⟩))
            go_ret
            exact ⟨ret_int E.out.symm, hk0.out.trans hk2⟩
          · go_enter Tryz.func49, Tryz.ntmps49
            go_wp2_with (first | (go_at_call_of 78 W; refine (DW.out _).mono ?_; rintro e w1 ⟨rfl, hw⟩; obtain rfl := hw.symm) | (go_at_call_of 78 H; refine (DH.out _).mono ?_; rintro e w1 ⟨rfl, hw⟩; obtain rfl := hw.symm) | (go_at_call 79; refine (C3.out _).mono ?_; rintro e w2 ⟨rfl, hk2⟩))
            go_ret
            exact ⟨ret_int E.out.symm, hk0.out.trans hk2⟩
        · have E := Hid.mk (shE_no (W := W) (H := H) (D := D) (A := A) (fun h => hT h.2.2.2))
          obtain ⟨T, eT⟩ : ∃ T, T = tot W H A := ⟨_, rfl⟩
          rw [← eT] at hT C3
          clear eT hW hH
          rcases hD with rfl | rfl
          · go_enter Tryz.func49, Tryz.ntmps49
            go_wp2_with (first | (go_at_call_of 78 W; refine (DW.out _).mono ?_; rintro e w1 ⟨rfl, hw⟩; obtain rfl := hw.symm) | (go_at_call_of 78 H; refine (DH.out _).mono ?_; rintro e w1 ⟨rfl, hw⟩; obtain rfl := hw.symm) | (go_at_call 79; refine (C3.out _).mono ?_; rintro e w2 ⟨rfl, hk2⟩))
            go_ret
            exact ⟨ret_int E.out.symm, hk0.out.trans hk2⟩
          · go_enter Tryz.func49, Tryz.ntmps49
            go_wp2_with (first | (go_at_call_of 78 W; refine (DW.out _).mono ?_; rintro e w1 ⟨rfl, hw⟩; obtain rfl := hw.symm) | (go_at_call_of 78 H; refine (DH.out _).mono ?_; rintro e w1 ⟨rfl, hw⟩; obtain rfl := hw.symm) | (go_at_call 79; refine (C3.out _).mono ?_; rintro e w2 ⟨rfl, hk2⟩))
            go_ret
            exact ⟨ret_int E.out.symm, hk0.out.trans hk2⟩
      · have E := Hid.mk (shE_no (W := W) (H := H) (D := D) (A := A) (fun h => hD h.2.2.1))
        have d1 : (D != 10) = true := by simp; omega
        have d2 : (D != 12) = true := by simp; omega
        clear hW hH hD
        go_enter Tryz.func49, Tryz.ntmps49
        go_wp2_with (first | (go_at_call_of 78 W; refine (DW.out _).mono ?_; rintro e w1 ⟨rfl, hw⟩; obtain rfl := hw.symm) | (go_at_call_of 78 H; refine (DH.out _).mono ?_; rintro e w1 ⟨rfl, hw⟩; obtain rfl := hw.symm))
        go_ret
        exact ⟨ret_int E.out.symm, hk0.out⟩
    · have DH := Hid.mk (fun u => (sided_any H u))
      rw [decide_eq_false hH] at DH
      have E := Hid.mk (shE_no (W := W) (H := H) (D := D) (A := A) (fun h => hH h.2.1))
      clear hW hH
      go_enter Tryz.func49, Tryz.ntmps49
      go_wp2_with (first | (go_at_call_of 78 W; refine (DW.out _).mono ?_; rintro e w1 ⟨rfl, hw⟩; obtain rfl := hw.symm) | (go_at_call_of 78 H; refine (DH.out _).mono ?_; rintro e w1 ⟨rfl, hw⟩; obtain rfl := hw.symm))
      go_ret
      exact ⟨ret_int E.out.symm, hk0.out⟩
  · have DW := Hid.mk (fun u => (sided_any W u))
    rw [decide_eq_false hW] at DW
    have E := Hid.mk (shE_no (W := W) (H := H) (D := D) (A := A) (fun h => hW h.1))
    clear hW
    go_enter Tryz.func49, Tryz.ntmps49
    go_wp2_with (first | (go_at_call_of 78 W; refine (DW.out _).mono ?_; rintro e w1 ⟨rfl, hw⟩; obtain rfl := hw.symm))
    go_ret
    exact ⟨ret_int E.out.symm, hk0.out⟩

/-- Size's error. -/
def szE (W H D p : Int) (A : Bool) : Int := if shE W H D A = 0 then (if 0 ≤ p ∧ p < (np A : Int) then 0 else 65) else 61
theorem shE_two (W H D : Int) (A : Bool) : (shE W H D A = 0 ∧ Shp W H D A) ∨ (shE W H D A = 61 ∧ ¬ Shp W H D A) := by
  by_cases h : Shp W H D A
  · exact .inl ⟨shE_ok h, h⟩
  · exact .inr ⟨shE_no h, h⟩

set_option maxHeartbeats 4000000 in
set_option maxRecDepth 1000000 in
theorem size_any (W H D p : Int) (A : Bool) (w : World) : Calls Tryz.prog 93 #[shv W H D A, .int .i64 p] w fun e w' => e = .returned (.tuple #[.int .i64 (if szE W H D p A = 0 then wp W p else 0), .int .i64 (if szE W H D p A = 0 then H else 0), .int .i64 (szE W H D p A)]) ∧ Kept [] w w' := by
  have C := Hid.mk (fun u => shaped_any W H D A u)
  have hk0 := Hid.mk ((Kept.refl [] w).alloc (.cells #[.int .i64 W, .int .i64 H, .int .i64 D, .bool A] 23))
  have S0 := Sat.new w W H D A 23
  rcases shE_two W H D A with ⟨e1, h1⟩ | ⟨e1, h1⟩
  · rw [e1] at C
    by_cases hp : 0 ≤ p ∧ p < (np A : Int)
    · rw [show szE W H D p A = 0 by unfold szE; rw [if_pos e1, if_pos hp]]
      have C2 := Hid.mk (fun u => there_any W H D p A u)
      rw [decide_eq_true hp] at C2
      have C3 := Hid.mk (fun u => sides_any W H D p A u (by have := h1.1; omega) h1.1.2)
      clear hp h1 e1
      go_enter Tryz.func93, Tryz.ntmps93
      go_wp2_with (first | (go_at_call 49; refine (C.out _).mono ?_; rintro e w1 ⟨rfl, hk1⟩; obtain ⟨q0, q1, q2, q3⟩ := S0.keep hk1 (by simp)) | (go_at_call 114; refine (C2.out _).mono ?_; rintro e w2 ⟨rfl, hk2⟩; have r0 := cell_keep hk2 q0 (by simp); have r1 := cell_keep hk2 q1 (by simp); have r2 := cell_keep hk2 q2 (by simp); have r3 := cell_keep hk2 q3 (by simp)) | (go_at_call 81; refine (C3.out _).mono ?_; rintro e w3 ⟨rfl, hk3⟩))
      go_ret3
      exact ⟨rfl, ((hk0.out.trans hk1).trans hk2).trans hk3⟩
    · rw [show szE W H D p A = 65 by unfold szE; rw [if_pos e1, if_neg hp]]
      have C2 := Hid.mk (fun u => there_any W H D p A u)
      rw [decide_eq_false hp] at C2
      clear hp h1 e1
      go_enter Tryz.func93, Tryz.ntmps93
      go_wp2_with (first | (go_at_call 49; refine (C.out _).mono ?_; rintro e w1 ⟨rfl, hk1⟩; obtain ⟨q0, q1, q2, q3⟩ := S0.keep hk1 (by simp)) | (go_at_call 114; refine (C2.out _).mono ?_; rintro e w2 ⟨rfl, hk2⟩))
      go_ret3
      exact ⟨rfl, (hk0.out.trans hk1).trans hk2⟩
  · rw [e1] at C
    rw [show szE W H D p A = 61 by unfold szE; rw [e1]; rfl]
    clear h1 e1
    go_enter Tryz.func93, Tryz.ntmps93
    go_wp2_with (first | (go_at_call 49; refine (C.out _).mono ?_; rintro e w1 ⟨rfl, hk1⟩))
    go_ret3
    exact ⟨rfl, hk0.out.trans hk1⟩

end Go.Proofs.YthhegomjipbdbaaGreatDoor.Tl

namespace Go.Proofs.YthhegomjipbdbaaGreatDoor.Tl
open Go.RowKit

/-- A list whose samples are read. -/
def Rd (w : World) (ao : Option Addr) (n : Nat) (f : Nat → Nat) : Prop := n = 0 ∨ ∃ g off, ao = some ⟨g, off, none⟩ ∧ ∀ i, i < n → w.cell? ⟨g, off + i, none⟩ = some (.int .u16 (f i : Int))
theorem Rd.kept {w w' : World} {ao : Option Addr} {n : Nat} {f : Nat → Nat} {ks : List Nat} (h : Rd w ao n f) (hk : Kept ks w w') (hn : ∀ g off, ao = some ⟨g, off, none⟩ → g ∉ ks) : Rd w' ao n f := by
  rcases h with h | ⟨g, off, e, hc⟩
  · exact .inl h
  · exact .inr ⟨g, off, e, fun i hi => cell_keep hk (hc i hi) (hn g off e)⟩
theorem Rd.keep {w w' : World} {ao : Option Addr} {n : Nat} {f : Nat → Nat} (h : Rd w ao n f) (hk : Kept [] w w') : Rd w' ao n f := h.kept hk (by simp)
theorem Rd.at {w : World} {ao : Option Addr} {n : Nat} {f : Nat → Nat} (h : Rd w ao n f) {i : Nat} (hi : i < n) : ∃ g off, ao = some ⟨g, off, none⟩ ∧ w.cell? ⟨g, off + i, none⟩ = some (.int .u16 (f i : Int)) := by
  rcases h with h | ⟨g, off, e, hc⟩
  · omega
  · exact ⟨g, off, e, hc i hi⟩
theorem Rd.congr {w : World} {ao : Option Addr} {n : Nat} {f f' : Nat → Nat} (h : Rd w ao n f) (hf : ∀ i, i < n → f i = f' i) : Rd w ao n f' := by
  rcases h with h | ⟨g, off, e, hc⟩
  · exact .inl h
  · exact .inr ⟨g, off, e, fun i hi => by rw [hc i hi, hf i hi]⟩
/-- Planes that are read. -/
def Pl (w : World) (po : Option Addr) (n : Nat) (ln : Nat → Nat) (F : Nat → Nat → Nat) : Prop := n = 0 ∨ ∃ g off, po = some ⟨g, off, none⟩ ∧ ∀ i, i < n → ∃ bo c, w.cell? ⟨g, off + i, none⟩ = some (.slice bo (ln i) c) ∧ Rd w bo (ln i) (F i)
theorem Pl.keep {w w' : World} {po : Option Addr} {n : Nat} {ln : Nat → Nat} {F : Nat → Nat → Nat} (h : Pl w po n ln F) (hk : Kept [] w w') : Pl w' po n ln F := by
  rcases h with h | ⟨g, off, e, hc⟩
  · exact .inl h
  · refine .inr ⟨g, off, e, fun i hi => ?_⟩
    obtain ⟨bo, c, h1, h2⟩ := hc i hi
    exact ⟨bo, c, cell_keep hk h1 (by simp), h2.keep hk⟩
theorem Pl.at {w : World} {po : Option Addr} {n : Nat} {ln : Nat → Nat} {F : Nat → Nat → Nat} (h : Pl w po n ln F) {i : Nat} (hi : i < n) : ∃ g off bo c, po = some ⟨g, off, none⟩ ∧ w.cell? ⟨g, off + i, none⟩ = some (.slice bo (ln i) c) ∧ Rd w bo (ln i) (F i) := by
  rcases h with h | ⟨g, off, e, hc⟩
  · omega
  · obtain ⟨bo, c, h1, h2⟩ := hc i hi
    exact ⟨g, off, bo, c, e, h1, h2⟩

/-- The greatest sample of a depth. -/
def mx (D : Int) : Nat := if D = 10 then 1023 else 4095
/-- A sample is above. -/
def abv (f : Nat → Nat) (n M : Nat) : Bool := (List.range n).any fun i => decide (M < f i)
theorem abv_no {f : Nat → Nat} {n M : Nat} : abv f n M = false ↔ ∀ i, i < n → f i ≤ M := by
  unfold abv
  rw [List.any_eq_false]
  constructor
  · intro h i hi
    have := h i (by simpa using hi)
    simpa using this
  · intro h i hi
    have := h i (by simpa using hi)
    simpa using this
theorem abv_yes {f : Nat → Nat} {n M i : Nat} (hi : i < n) (h : M < f i) : abv f n M = true := by
  cases e : abv f n M
  · have := abv_no.1 e i hi; omega
  · rfl

set_option maxHeartbeats 4000000 in
set_option maxRecDepth 1000000 in
theorem above_any (ao : Option Addr) (n c : Nat) (f : Nat → Nat) (D : Int) (w : World) (hr : Rd w ao n f) (hD : D = 10 ∨ D = 12) (hn : n ≤ 9223372036854775807) :
    Calls Tryz.prog 91 #[.slice ao n c, .int .i64 D] w fun e w' => e = .returned (.bool (abv f n (mx D))) ∧ w' = w := by
  have Hr := Hid.mk hr
  clear hr
  rcases hD with rfl | rfl
  · go_enter Tryz.func91, Tryz.ntmps91
    go_wp2
    go_loop [13] (fun i => ∃ k : Nat, k ≤ n ∧ i = .int .i64 (k : Int) ∧ ∀ j, j < k → f j ≤ 1023) (fun i => n - (intOf i).toNat)
    case atStart => exact ⟨0, Nat.zero_le _, rfl, fun j hj => by omega⟩
    case round =>
      obtain ⟨k, hk, rfl, hall⟩ := hrel
      have Hall := Hid.mk hall
      clear hall
      by_cases hlt : k < n
      · obtain ⟨g, off, rfl, hc⟩ := Hr.out.at hlt
        have ix : (k : Int) < (n : Int) := by omega
        have HY := Hid.mk (fun h => abv_yes (f := f) (M := 1023) hlt h)
        have HN : Hid (f k ≤ 1023 → ∀ j, j < k + 1 → f j ≤ 1023) := Hid.mk (fun h j hj => by
          by_cases e : j = k
          · subst e; exact h
          · exact Hall.out j (by omega))
        obtain ⟨x, ex⟩ : ∃ x, x = f k := ⟨_, rfl⟩
        rw [← ex] at hc HY HN
        clear ex
        by_cases hx : (1023 : Int) < (x : Int)
        · go_wp2
          go_ret
          exact ⟨ret_bool (HY.out (by omega)).symm, rfl⟩
        · go_wp2
          go_round
          case rel => exact ⟨k + 1, by omega, by go_num, HN.out (by omega)⟩
          case measure => simp [intOf]; omega
      · obtain rfl : n = k := by omega
        have H := Hid.mk (abv_no.2 Hall.out)
        go_wp2
        go_ret
        exact ⟨ret_bool H.out.symm, rfl⟩
  · go_enter Tryz.func91, Tryz.ntmps91
    go_wp2
    go_loop [13] (fun i => ∃ k : Nat, k ≤ n ∧ i = .int .i64 (k : Int) ∧ ∀ j, j < k → f j ≤ 4095) (fun i => n - (intOf i).toNat)
    case atStart => exact ⟨0, Nat.zero_le _, rfl, fun j hj => by omega⟩
    case round =>
      obtain ⟨k, hk, rfl, hall⟩ := hrel
      have Hall := Hid.mk hall
      clear hall
      by_cases hlt : k < n
      · obtain ⟨g, off, rfl, hc⟩ := Hr.out.at hlt
        have ix : (k : Int) < (n : Int) := by omega
        have HY := Hid.mk (fun h => abv_yes (f := f) (M := 4095) hlt h)
        have HN : Hid (f k ≤ 4095 → ∀ j, j < k + 1 → f j ≤ 4095) := Hid.mk (fun h j hj => by
          by_cases e : j = k
          · subst e; exact h
          · exact Hall.out j (by omega))
        obtain ⟨x, ex⟩ : ∃ x, x = f k := ⟨_, rfl⟩
        rw [← ex] at hc HY HN
        clear ex
        by_cases hx : (4095 : Int) < (x : Int)
        · go_wp2
          go_ret
          exact ⟨ret_bool (HY.out (by omega)).symm, rfl⟩
        · go_wp2
          go_round
          case rel => exact ⟨k + 1, by omega, by go_num, HN.out (by omega)⟩
          case measure => simp [intOf]; omega
      · obtain rfl : n = k := by omega
        have H := Hid.mk (abv_no.2 Hall.out)
        go_wp2
        go_ret
        exact ⟨ret_bool H.out.symm, rfl⟩

/-- A frame as a value. -/
abbrev frv (W H D : Int) (A : Bool) (po : Option Addr) (n c : Nat) : Value := .agg #[.int .i64 W, .int .i64 H, .int .i64 D, .bool A, .slice po n c]
/-- All planes are as long as they must be. -/
def lnO (W H : Int) (n : Nat) (ln : Nat → Nat) : Bool := (List.range n).all fun i => decide ((ln i : Int) = wp W (i : Int) * H)
theorem lnO_yes {W H : Int} {n : Nat} {ln : Nat → Nat} : lnO W H n ln = true ↔ ∀ i, i < n → (ln i : Int) = wp W (i : Int) * H := by
  unfold lnO
  rw [List.all_eq_true]
  constructor
  · intro h i hi
    have := h i (by simpa using hi)
    simpa using this
  · intro h i hi
    have := h i (by simpa using hi)
    simpa using this
theorem lnO_no {W H : Int} {n i : Nat} {ln : Nat → Nat} (hi : i < n) (h : (ln i : Int) ≠ wp W (i : Int) * H) : lnO W H n ln = false := by
  cases e : lnO W H n ln
  · rfl
  · exact absurd (lnO_yes.1 e i hi) h
/-- A plane has a sample that is above. -/
def smB (n : Nat) (ln : Nat → Nat) (F : Nat → Nat → Nat) (M : Nat) : Bool := (List.range n).any fun i => abv (F i) (ln i) M
theorem smB_no {n : Nat} {ln : Nat → Nat} {F : Nat → Nat → Nat} {M : Nat} : smB n ln F M = false ↔ ∀ i, i < n → abv (F i) (ln i) M = false := by
  unfold smB
  rw [List.any_eq_false]
  constructor
  · intro h i hi
    have := h i (by simpa using hi)
    simpa using this
  · intro h i hi
    have := h i (by simpa using hi)
    simpa using this
theorem smB_yes {n : Nat} {ln : Nat → Nat} {F : Nat → Nat → Nat} {M i : Nat} (hi : i < n) (h : abv (F i) (ln i) M = true) : smB n ln F M = true := by
  cases e : smB n ln F M
  · have := smB_no.1 e i hi; rw [this] at h; cases h
  · rfl
/-- Valid's answer. -/
def vE (W H D : Int) (A : Bool) (n : Nat) (ln : Nat → Nat) (F : Nat → Nat → Nat) : Int :=
  if shE W H D A = 0 then (if n = np A then (if lnO W H n ln = true then (if smB n ln F (mx D) = true then 64 else 0) else 63) else 62) else 61
/-- A frame may be. -/
structure Vld (W H D : Int) (A : Bool) (n : Nat) (ln : Nat → Nat) (F : Nat → Nat → Nat) : Prop where
  shp : Shp W H D A
  num : n = np A
  len : ∀ i, i < n → (ln i : Int) = wp W (i : Int) * H
  top : ∀ i, i < n → ∀ j, j < ln i → F i j ≤ mx D
theorem vE_zero {W H D : Int} {A : Bool} {n : Nat} {ln : Nat → Nat} {F : Nat → Nat → Nat} : vE W H D A n ln F = 0 ↔ Vld W H D A n ln F := by
  unfold vE
  constructor
  · intro h
    split at h
    · split at h
      · split at h
        · split at h
          · cases h
          · rename_i h1 h2 h3 h4
            rcases shE_two W H D A with ⟨_, h5⟩ | ⟨h5, _⟩
            · exact ⟨h5, h2, lnO_yes.1 h3, fun i hi => abv_no.1 (smB_no.1 (by simpa using h4) i hi)⟩
            · rw [h5] at h1; cases h1
        · cases h
      · cases h
    · cases h
  · intro h
    rw [if_pos (shE_ok h.shp), if_pos h.num, if_pos (lnO_yes.2 h.len), if_neg]
    rw [smB_no.2 (fun i hi => abv_no.2 (h.top i hi))]
    decide
theorem np_lo (A : Bool) : 3 ≤ np A := by cases A <;> decide
theorem np_hi (A : Bool) : np A ≤ 4 := by cases A <;> decide

set_option maxHeartbeats 8000000 in
set_option maxRecDepth 1000000 in
theorem valid_any (W H D : Int) (A : Bool) (po : Option Addr) (n c : Nat) (ln : Nat → Nat) (F : Nat → Nat → Nat) (w : World) (hr : Pl w po n ln F) (hn : n ≤ 9223372036854775807) (hln : ∀ i, i < n → ln i ≤ 9223372036854775807) :
    Calls Tryz.prog 68 #[frv W H D A po n c] w fun e w' => e = .returned (.int .i64 (vE W H D A n ln F)) ∧ Kept [] w w' := by
  have Hr := Hid.mk hr
  have Hln := Hid.mk hln
  clear hr hln
  have C := Hid.mk (fun u => shaped_any W H D A u)
  have CP := Hid.mk (fun u => planes_any W H D A u)
  have hk0 := Hid.mk (alloc_kept w (.cells #[.int .i64 W, .int .i64 H, .int .i64 D, .bool A, .slice po n c] 42))
  have q0 := Hid.mk (alloc_cell w #[.int .i64 W, .int .i64 H, .int .i64 D, .bool A, .slice po n c] 42 0 _ rfl)
  have q1 := Hid.mk (alloc_cell w #[.int .i64 W, .int .i64 H, .int .i64 D, .bool A, .slice po n c] 42 1 _ rfl)
  have q2 := Hid.mk (alloc_cell w #[.int .i64 W, .int .i64 H, .int .i64 D, .bool A, .slice po n c] 42 2 _ rfl)
  have q3 := Hid.mk (alloc_cell w #[.int .i64 W, .int .i64 H, .int .i64 D, .bool A, .slice po n c] 42 3 _ rfl)
  have q4 := Hid.mk (alloc_cell w #[.int .i64 W, .int .i64 H, .int .i64 D, .bool A, .slice po n c] 42 4 _ rfl)
  rcases shE_two W H D A with ⟨e1, h1⟩ | ⟨e1, h1⟩
  · rw [e1] at C
    obtain ⟨N, eN⟩ : ∃ N : Nat, N = np A := ⟨_, rfl⟩
    rw [← eN] at CP
    have C3 := Hid.mk (fun u (p : Nat) => sides_any W H D p A u (by have := h1.1; omega) h1.1.2)
    have HP := Hid.mk (fun p => wpH p h1.1.1 h1.1.2 h1.2.1.1 h1.2.1.2)
    have EQ : Hid (n = N → vE W H D A n ln F = if lnO W H n ln = true then (if smB n ln F (mx D) = true then 64 else 0) else 63) := Hid.mk (fun hN => by unfold vE; rw [if_pos e1, if_pos (hN.trans eN)])
    have E2 : Hid (n ≠ N → vE W H D A n ln F = 62) := Hid.mk (fun hN => by unfold vE; rw [if_pos e1, if_neg (fun h => hN (h.trans eN.symm))])
    have CA := Hid.mk (fun u (i : Nat) (hi : i < n) bo cc (hrd : Rd u bo (ln i) (F i)) => above_any bo (ln i) cc (F i) D u hrd h1.2.2.1 (Hln.out i hi))
    have hn4 : N ≤ 4 := by rw [eN]; exact np_hi A
    clear e1 h1 eN
    go_enter Tryz.func68, Tryz.ntmps68
    go_wp2_with (first | (go_at_call 49; refine (C.out _).mono ?_; rintro e w1 ⟨rfl, hk1⟩; have r0 := cell_keep hk1 q0.out (by simp); have r1 := cell_keep hk1 q1.out (by simp); have r2 := cell_keep hk1 q2.out (by simp); have r3 := cell_keep hk1 q3.out (by simp); have r4 := cell_keep hk1 q4.out (by simp)))
    have hk01 := Hid.mk (hk0.out.trans hk1)
    obtain ⟨b, eb⟩ : ∃ b, b = w.heap.size := ⟨_, rfl⟩
    rw [← eb] at r0 r1 r2 r3 r4 ⊢
    clear eb hk1 C q0 q1 q2 q3 q4 hk0
    go_cut [22] (fun s wc => s = .bool ((n : Int) != (N : Int)) ∧ Kept [] w1 wc)
    case first =>
      go_region_law (first | (go_simp; go_at_call 80; refine (CP.out _).mono ?_; rintro e w2 ⟨rfl, hk2⟩; have s4 := cell_keep hk2 (show w1.drew.cell? _ = _ from r4) (by simp)))
      all_goals go_wp2
      all_goals go_meet
      all_goals exact ⟨rfl, hk2.undrew⟩
    case rest =>
      obtain ⟨rfl, hkc⟩ := hcut
      have hk0c := Hid.mk (hk01.out.trans hkc)
      have s0 := cell_keep hkc r0 (by simp)
      have s1 := cell_keep hkc r1 (by simp)
      have s2 := cell_keep hkc r2 (by simp)
      have s3 := cell_keep hkc r3 (by simp)
      have s4 := cell_keep hkc r4 (by simp)
      clear hkc r0 r1 r2 r3 r4 hk01 CP
      by_cases hN : n = N
      · subst hN
        have EV := Hid.mk (EQ.out rfl)
        clear EQ E2
        rw [show ((n : Int) != (n : Int)) = false by simp]
        go_wp2
        go_loopw [26] (fun i wr => ∃ k : Nat, k ≤ n ∧ i = .int .i64 (k : Int) ∧ (∀ j, j < k → (ln j : Int) = wp W (j : Int) * H) ∧ Kept [] wc wr) (fun i _ => n - (intOf i).toNat)
        case atStart => exact ⟨0, by omega, rfl, fun j hj => by omega, Kept.refl _ _⟩
        case round =>
          obtain ⟨k, hk, rfl, hall, hkr⟩ := hrel
          have Hall := Hid.mk hall
          have Hkr := Hid.mk hkr
          have t0 := cell_keep hkr s0 (by simp)
          have t1 := cell_keep hkr s1 (by simp)
          have t2 := cell_keep hkr s2 (by simp)
          have t3 := cell_keep hkr s3 (by simp)
          have t4 := cell_keep hkr s4 (by simp)
          clear s0 s1 s2 s3 s4 hall
          by_cases hlt : k < n
          · obtain ⟨g, off, bo, cc, rfl, hc, _⟩ := (Hr.out.keep (hk0c.out.trans hkr)).at hlt
            have ix : (k : Int) < (n : Int) := by omega
            have b1 := HP.out (k : Int)
            have D2 := Hid.mk (fun u => C3.out u k)
            have HN := Hid.mk (fun h => lnO_no (W := W) (H := H) (ln := ln) hlt h)
            have HY : Hid ((ln k : Int) = wp W (k : Int) * H → ∀ j, j < k + 1 → (ln j : Int) = wp W (j : Int) * H) := Hid.mk (fun h j hj => by
              by_cases e : j = k
              · subst e; exact h
              · exact Hall.out j (by omega))
            obtain ⟨x, ex⟩ : ∃ x, x = wp W k := ⟨_, rfl⟩
            rw [← ex] at b1 HN HY D2
            obtain ⟨y, ey⟩ : ∃ y, y = ln k := ⟨_, rfl⟩
            rw [← ey] at hc HN HY
            clear ex ey hkr
            by_cases hy : (y : Int) = x * H
            · have hy' : ((y : Int) != x * H) = false := by simpa using hy
              have HY2 := Hid.mk (HY.out hy)
              clear hy HY HN
              go_wp2_with (go_at_call 81; refine (D2.out _).mono ?_; rintro e w2 ⟨rfl, hk2⟩)
              go_roundw
              case rel => exact ⟨k + 1, by omega, by go_num, HY2.out, Hkr.out.trans hk2⟩
              case measure => simp [intOf]; omega
            · have hy' : ((y : Int) != x * H) = true := by simpa using hy
              have HN2 := Hid.mk (HN.out hy)
              clear hy HY HN
              go_wp2_with (go_at_call 81; refine (D2.out _).mono ?_; rintro e w2 ⟨rfl, hk2⟩)
              go_ret
              rw [HN2.out] at EV
              exact ⟨ret_int EV.out.symm, (hk0c.out.trans Hkr.out).trans hk2⟩
          · obtain rfl : n = k := by omega
            have E3 := Hid.mk (EV.out.trans (if_pos (lnO_yes.2 Hall.out)))
            have K := Hid.mk (hk0c.out.trans hkr)
            clear EV Hall HP hkr Hkr hk0c C3
            go_wp2
            go_loopw [48] (fun i wz => ∃ k : Nat, k ≤ n ∧ i = .int .i64 (k : Int) ∧ (∀ j, j < k → abv (F j) (ln j) (mx D) = false) ∧ Kept [] wr wz) (fun i _ => n - (intOf i).toNat)
            case atStart => exact ⟨0, by omega, rfl, fun j hj => by omega, Kept.refl _ _⟩
            case round =>
              obtain ⟨k, hk2, rfl, hall, hkz⟩ := hrel
              have Hall := Hid.mk hall
              have Hkz := Hid.mk (K.out.trans hkz)
              have Hkz2 := Hid.mk hkz
              have z2 := cell_keep hkz t2 (by simp)
              clear t0 t1 t2 t3 t4 hall
              by_cases hlt : k < n
              · obtain ⟨g, off, bo, cc, rfl, hc, hrd⟩ := (Hr.out.keep Hkz.out).at hlt
                have ix : (k : Int) < (n : Int) := by omega
                have D2 := Hid.mk (CA.out wr k hlt bo cc hrd)
                have HN := Hid.mk (fun h => smB_yes (F := F) (ln := ln) (M := mx D) hlt h)
                have HY : Hid (abv (F k) (ln k) (mx D) = false → ∀ j, j < k + 1 → abv (F j) (ln j) (mx D) = false) := Hid.mk (fun h j hj => by
                  by_cases e : j = k
                  · subst e; exact h
                  · exact Hall.out j (by omega))
                obtain ⟨x, ex⟩ : ∃ x, x = abv (F k) (ln k) (mx D) := ⟨_, rfl⟩
                rw [← ex] at D2 HN HY
                obtain ⟨y, ey⟩ : ∃ y, y = ln k := ⟨_, rfl⟩
                rw [← ey] at hc D2
                clear ex ey hkz hrd
                cases x
                · have HY2 := Hid.mk (HY.out rfl)
                  clear HY HN
                  go_wp2_with (go_at_call 91; refine D2.out.mono ?_; rintro e w2 ⟨rfl, hw⟩; obtain rfl := hw.symm)
                  go_roundw
                  case rel => exact ⟨k + 1, by omega, by go_num, HY2.out, Hkz2.out⟩
                  case measure => simp [intOf]; omega
                · have HN2 := Hid.mk (HN.out rfl)
                  clear HY HN
                  go_wp2_with (go_at_call 91; refine D2.out.mono ?_; rintro e w2 ⟨rfl, hw⟩; obtain rfl := hw.symm)
                  go_ret
                  rw [HN2.out] at E3
                  exact ⟨ret_int E3.out.symm, Hkz.out⟩
              · obtain rfl : n = k := by omega
                have HN2 := Hid.mk (smB_no.2 Hall.out)
                clear Hall
                go_wp2
                go_ret
                rw [HN2.out] at E3
                exact ⟨ret_int E3.out.symm, Hkz.out⟩
      · have EV := Hid.mk (E2.out hN)
        have hN' : ((n : Int) != (N : Int)) = true := by simp; omega
        clear EQ E2
        go_wp2
        go_ret
        exact ⟨ret_int EV.out.symm, hk0c.out⟩
  · rw [e1] at C
    have E : Hid (vE W H D A n ln F = 61) := Hid.mk (by unfold vE; rw [e1]; rfl)
    clear e1 h1
    go_enter Tryz.func68, Tryz.ntmps68
    go_wp2_with (first | (go_at_call 49; refine (C.out _).mono ?_; rintro e w1 ⟨rfl, hk1⟩))
    go_ret
    exact ⟨ret_int E.out.symm, hk0.out.trans hk1⟩
end Go.Proofs.YthhegomjipbdbaaGreatDoor.Tl

namespace Go.Proofs.YthhegomjipbdbaaGreatDoor.Pc
open Go.RowKit

/-- append of bytes that are read onto a row of one's own. -/
theorem wpList_appR (B : Nat) (w : World) {ops : Array Oper} {rest : List Oper} {o : Oper} {a : Act} {Q : Exit → Act → World → Prop} (hgd : o.guard = none) (s x : Operand)
    (ho : o.op = .call { callee := .builtin .append, args := #[s, x], argTypes := #[28, 28] })
    (v : Value) (n : Nat) (xs : List Value) (hs : a.eval s = v) (hown : w.ownsRow B 5 1 v n xs) (so : Option Addr) (m c : Nat) (l : List Nat) (hx : a.eval x = .slice so m c) (hr : Reads w so l) (hm : l.length = m) (hc : so = none → c = 0) (hB : B ≤ w.heap.size)
    (hb : n + m ≤ 140737488355328)
    (h : ∀ v' w', w'.ownsRow B 5 1 v' (n + m) (xs ++ l.map byt) → Kept v.ownBlock.toList w w' → Lies w v v' → wpList Tryz.prog ops Q rest (a.put o.dst v') w') :
    wpList Tryz.prog ops Q (o :: rest) a w := by
  obtain ⟨i0, hi, hz0, hz1, hz2⟩ := info_parts Tryz.info5
  cases so with
  | none =>
    have hl : l = [] := by
      rcases hr with h | ⟨g, off, h, _⟩
      · exact h
      · cases h
    subst hl
    obtain rfl : c = 0 := hc rfl
    obtain rfl : m = 0 := hm.symm
    refine wpList_plain hgd fun K hK => ?_
    have hrun := run_append_owned_none (P := Tryz.prog) (w := w) B 28 o.type 5 i0 1 Tryz.underlying28 hi v n xs hown
    unfold Oper.wp execOp
    simp only [ho, resolve, invoke, builtin, Sem.run_bind, Sem.run_pure, Result.andThen_ok, List.map_toArray, List.map_cons, List.map_nil, hs, hx, hrun]
    exact hK _ _ (h v w (by simpa using hown) (Kept.refl _ _) (Lies.refl _ _))
  | some ad =>
    refine wpList_append_own_at w hgd s x 28 ho B 5 i0 (.int .u8 0) 1 1 Tryz.underlying28 hi hz0 hz1 hz2 rfl (by decide) v n xs hs hown ad m c (l.map byt) hx (by simp [hm]) (fun j u hj => ?_) (fun u hu => by simp only [List.mem_map] at hu; obtain ⟨b, _, rfl⟩ := hu; rfl) (by unfold maxLen; omega) (by omega) hB ?_
    · rcases hr with h | ⟨g, off, h, hcc⟩
      · subst h; simp at hj
      · cases h
        rw [List.getElem?_map] at hj
        cases e : l[j]? with
        | none => rw [e] at hj; cases hj
        | some b =>
          rw [e] at hj
          have hj2 : byt b = u := by simpa using hj
          have hlt : j < l.length := by
            rcases Nat.lt_or_ge j l.length with h | h
            · exact h
            · rw [List.getElem?_eq_none h] at e; cases e
          have h1 := hcc j hlt
          rw [List.getD_eq_getElem?_getD, e] at h1
          rw [← hj2]
          by_cases j0 : j = 0
          · subst j0; simpa [Addr.add] using h1
          · simpa [Addr.add, j0] using h1
    intro v' w' h2 h3 _ h5
    refine h v' w' h2 (Kept.of_grown h3) ?_
    rcases h5 with h | h
    · exact .inl h
    · exact .inr ⟨_, h, Nat.le_refl _⟩

/-- Fields: numbers and how many bytes each takes. -/
def fds : List (Nat × Nat) → List Nat
  | [] => []
  | p :: t => big p.2 p.1 ++ fds t
theorem fds_app (a b : List (Nat × Nat)) : fds (a ++ b) = fds a ++ fds b := by
  induction a with
  | nil => rfl
  | cons p t ih => simp only [List.cons_append, fds, ih, List.append_assoc]
theorem fds_take (fs : List (Nat × Nat)) (k : Nat) (h : k < fs.length) : fds (fs.take (k + 1)) = fds (fs.take k) ++ big (fs.getD k (0, 0)).2 (fs.getD k (0, 0)).1 := by
  rw [List.take_add_one, fds_app, List.getElem?_eq_getElem h, List.getD_eq_getElem?_getD, List.getElem?_eq_getElem h]
  simp [fds]
/-- Fields that are read. -/
def Fds (w : World) (fo : Option Addr) (fs : List (Nat × Nat)) : Prop := ∃ g off, fo = some ⟨g, off, none⟩ ∧ ∀ i, i < fs.length → w.cell? ⟨g, off + i * 2, none⟩ = some (.int .i64 ((fs.getD i (0, 0)).1 : Int)) ∧ w.cell? ⟨g, off + i * 2 + 1, none⟩ = some (.int .i64 ((fs.getD i (0, 0)).2 : Int))
theorem Fds.keep {w w' : World} {fo : Option Addr} {fs : List (Nat × Nat)} {ks : List Nat} (h : Fds w fo fs) (hk : Kept ks w w') (hn : ∀ g off, fo = some ⟨g, off, none⟩ → g ∉ ks) : Fds w' fo fs := by
  obtain ⟨g, off, e, hc⟩ := h
  exact ⟨g, off, e, fun i hi => ⟨Tl.cell_keep hk (hc i hi).1 (hn g off e), Tl.cell_keep hk (hc i hi).2 (hn g off e)⟩⟩
/-- They fit. -/
def Fit8 (fs : List (Nat × Nat)) : Prop := ∀ i, i < fs.length → 1 ≤ (fs.getD i (0, 0)).2 ∧ (fs.getD i (0, 0)).2 ≤ 8 ∧ (fs.getD i (0, 0)).1 < 256 ^ (fs.getD i (0, 0)).2
theorem fit_hv {x m : Nat} (h : x < 256 ^ m) : (((x : Nat) : Int) / 2 ^ (8 * m) == 0) = true := by
  rw [fits_lt _ _ (by omega), decide_eq_true_iff, pow_two_int]
  rw [pow256] at h
  omega
theorem own_app {w : World} {B e n m : Nat} {v : Value} {xs ys : List Value} (h : w.ownsRow B e 1 v n xs) (hn : n = m) (hx : xs = ys) : w.ownsRow B e 1 v m ys := by subst hn hx; exact h

set_option maxHeartbeats 8000000 in
set_option maxRecDepth 1000000 in
theorem lay_any (B : Nat) (V : Value) (n : Nat) (xs : List Value) (fo : Option Addr) (fc F : Nat) (fs : List (Nat × Nat)) (w : World) (hown : w.ownsRow B 5 1 V n xs) (hB : B ≤ w.heap.size) (hf : Fds w fo fs) (hF : fs.length = F) (hfit : Fit8 fs) (hlt : F ≤ 1000) (hn : n ≤ 1000000000) (hne : ∀ g off, fo = some ⟨g, off, none⟩ → V.ownBlock ≠ some g) :
    Calls Tryz.prog 71 #[V, .slice fo F fc] w fun e w' => ∃ V', e = .returned V' ∧ w'.ownsRow B 5 1 V' (n + (fds fs).length) (xs ++ (fds fs).map byt) ∧ Kept V.ownBlock.toList w w' ∧ Lies w V V' := by
  obtain ⟨ao, cap, rfl⟩ := row_form hown
  obtain ⟨g, off, rfl, hc⟩ := hf
  have HC := Hid.mk hc
  have HO := Hid.mk hown
  have HF := Hid.mk hF
  have HT := Hid.mk hfit
  have HNE := Hid.mk (hne g off rfl)
  have HBB := Hid.mk hB
  have HN := Hid.mk hn
  have HFT := Hid.mk (fun k h => fds_take fs k h)
  have HFA : Hid (fds (fs.take F) = fds fs) := Hid.mk (by rw [← hF, List.take_length])
  clear hc hown hF hfit hne hB hn
  go_enter Tryz.func71, Tryz.ntmps71
  go_wp2
  go_loopw [0, 11] (fun t i wr => ∃ (k M c : Nat) (bo : Option Addr), k ≤ F ∧ i = .int .i64 (k : Int) ∧ t = .slice bo M c ∧ Hid (wr.ownsRow B 5 1 (.slice bo M c) M (xs ++ (fds (fs.take k)).map byt) ∧ M = n + (fds (fs.take k)).length ∧ M ≤ n + 8 * k ∧ Kept (Value.slice ao n cap).ownBlock.toList w wr ∧ Lies w (.slice ao n cap) (.slice bo M c))) (fun _ i _ => F - (intOf i).toNat)
  case atStart => exact ⟨0, n, cap, ao, Nat.zero_le _, rfl, rfl, Hid.mk ⟨by simpa [fds] using HO.out, by simp [fds], by omega, Kept.refl _ _, Lies.refl _ _⟩⟩
  case round =>
    obtain ⟨k, M, c, bo, hk, rfl, rfl, HI⟩ := hrel
    by_cases hkF : k < F
    · obtain ⟨c0, c1⟩ := HC.out k (by rw [HF.out]; exact hkF)
      obtain ⟨t1, t2, t3⟩ := HT.out k (by rw [HF.out]; exact hkF)
      have hft := HFT.out k (by rw [HF.out]; exact hkF)
      obtain ⟨x, ex⟩ : ∃ x, x = (fs.getD k (0, 0)).1 := ⟨_, rfl⟩
      obtain ⟨m, em⟩ : ∃ m, m = (fs.getD k (0, 0)).2 := ⟨_, rfl⟩
      simp only [← ex, ← em] at c0 c1 t1 t2 t3 hft
      have HFTk := Hid.mk hft
      have ix : (k : Int) < (F : Int) := by omega
      have hgn : g ∉ (Value.slice ao n cap).ownBlock.toList := by
        have h9 := HNE.out
        intro h8; exact h9 (by simpa using h8)
      replace c0 := Tl.cell_keep HI.out.2.2.2.1 c0 hgn
      replace c1 := Tl.cell_keep HI.out.2.2.2.1 c1 hgn
      obtain ⟨w3, e3⟩ : ∃ w3, wr.alloc (.cells #[.int .i64 (x : Int), .int .i64 (m : Int)] 75 (0, 0)) = w3 := ⟨_, rfl⟩
      have K3 : Hid (Kept [] wr w3) := Hid.mk (by rw [← e3]; exact (Kept.refl [] wr).alloc _)
      obtain ⟨v0, v1⟩ : w3.cell? ⟨wr.heap.size, 0, none⟩ = some (.int .i64 (x : Int)) ∧ w3.cell? ⟨wr.heap.size, 1, none⟩ = some (.int .i64 (m : Int)) := by
        subst e3; refine ⟨?_, ?_⟩ <;> go_simp
      have C := Hid.mk (fun u => big_at (x : Int) (m : Int) m u rfl t1 t2 (by omega) (fit_hv t3))
      have HT2 := Hid.mk t2
      have hx64 : x < 18446744073709551616 := Nat.lt_of_lt_of_le t3 (Nat.pow_le_pow_right (by decide) t2 : 256 ^ m ≤ 256 ^ 8)
      have ux : IntKind.u64.wrap (x : Int) = (x : Int) := by rw [IntKind.wrap_u64]; omega
      clear hx64
      clear ex em t1 t2 t3 hft hgn
      go_wp2_with (fail)
      refine (C.out _).mono ?_
      rintro e w4 ⟨g4, cp4, rfl, hg4, ho4, K4⟩
      have K4 := Hid.mk K4
      have HR4 : Hid (Reads w4 (some ⟨g4, 0, none⟩) (big m x)) := Hid.mk (by
        rw [Int.toNat_natCast] at ho4
        exact reads_row ho4)
      have HL4 := Hid.mk (big_length m x)
      have HO4 : Hid (w4.ownsRow B 5 1 (.slice bo M c) M (xs ++ (fds (fs.take k)).map byt)) := Hid.mk (by
        exact K4.out.row (K3.out.row HI.out.1 (by simp)) (by simp))
      have HS4 : Hid (w.heap.size ≤ w4.heap.size ∧ wr.heap.size ≤ w4.heap.size) := Hid.mk (by have := K4.out.size; have := K3.out.size; have := HI.out.2.2.2.1.size; omega)
      have HM : Hid (M + m ≤ 140737488355328) := Hid.mk (by have := HI.out.2.2.1; have := HN.out; have := HT2.out; omega)
      clear v0 v1 c0 c1 hg4 ho4 e3
      go_wp2_with (at_builtin; refine wpList_appR B w4 rfl _ _ rfl (.slice bo M c) M _ rfl HO4.out (some ⟨g4, 0, none⟩) m cp4 (big m x) rfl HR4.out HL4.out (by simp) (by have := HBB.out; have := HS4.out; omega) HM.out ?_; intro V5 w5 ho5 K5 L5; obtain ⟨b5, c5, rfl⟩ := row_form ho5)
      have HO5 := Hid.mk ho5
      have K5 := Hid.mk K5
      have L5 := Hid.mk L5
      clear ho5
      go_wp2
      go_roundw
      case rel => exact ⟨k + 1, M + m, c5, b5, by omega, by go_num, rfl, Hid.mk (by
        have hI := HI.out
        have e1 := HFTk.out
        refine ⟨?_, ?_, ?_, ?_, ?_⟩
        · rw [e1, List.map_append, ← List.append_assoc]; exact HO5.out
        · rw [e1, List.length_append, HL4.out]; omega
        · have := HT2.out; omega
        · have k1 := hI.2.2.2.1.trans ((K3.out.trans K4.out).mono (by simp))
          refine k1.step K5.out (fun z hz => ?_)
          rcases hI.2.2.2.2 with h | ⟨q, h, hq⟩
          · rw [h] at hz; exact .inl hz
          · rw [h] at hz; simp at hz; subst hz; exact .inr hq
        · exact hI.2.2.2.2.trans L5.out (by have := HS4.out; omega))⟩
      case measure => simp [intOf]; omega
    · obtain rfl : F = k := by omega
      have HE := Hid.mk HI.out
      clear HI
      rw [HFA.out] at HE
      go_wp2
      go_ret
      obtain ⟨h1, h2, h3, h4, h5⟩ := HE.out
      exact ⟨_, rfl, own_app h1 h2 rfl, h4, h5⟩
end Go.Proofs.YthhegomjipbdbaaGreatDoor.Pc
