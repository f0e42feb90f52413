import Derived.Test.YtodlkpcbkilglaaDoorK0
namespace Go.Proofs.YtodlkpcbkilglaaDoor
open Go.RowKit

/-- Half as many, rounded up. -/
def hf (n : Int) : Int := n / 2 + n % 2
/-- How wide a plane is. -/
def wp (W : Int) (p : Int) : Int := if p = 1 ∨ p = 2 then hf W else W
/-- How many planes there are. -/
def np (A : Bool) : Nat := if A then 4 else 3
/-- How many samples all planes have. -/
def tot (W H : Int) (A : Bool) : Int := W * H + hf W * H + hf W * H + (if A then W * H else 0)
/-- A shape may be. -/
def Shp (W H D : Int) (A : Bool) : Prop := (1 ≤ W ∧ W ≤ 4096) ∧ (1 ≤ H ∧ H ≤ 4096) ∧ (D = 10 ∨ D = 12) ∧ tot W H A ≤ 4194304
/-- Shaped's answer. -/
def shE (W H D : Int) (A : Bool) : Int := if (1 ≤ W ∧ W ≤ 4096) ∧ (1 ≤ H ∧ H ≤ 4096) ∧ (D = 10 ∨ D = 12) ∧ tot W H A ≤ 4194304 then 0 else 61
theorem shE_ok {W H D : Int} {A : Bool} (h : Shp W H D A) : shE W H D A = 0 := if_pos h
theorem shE_no {W H D : Int} {A : Bool} (h : ¬ Shp W H D A) : shE W H D A = 61 := if_neg h

theorem hf_lo {n : Int} (h : 1 ≤ n) : 1 ≤ hf n := by unfold hf; omega
theorem hf_hi {n : Int} (h : 0 ≤ n) : hf n ≤ n := by unfold hf; omega
theorem wp_lo {W : Int} (p : Int) (h : 1 ≤ W) : 1 ≤ wp W p := by unfold wp; split; exact hf_lo h; exact h
theorem wp_hi {W : Int} (p : Int) (h : 1 ≤ W) : wp W p ≤ W := by unfold wp; split; exact hf_hi (by omega); exact Int.le_refl _

/-- A shape as a value. -/
abbrev shv (W H D : Int) (A : Bool) : Value := .agg #[.int .i64 W, .int .i64 H, .int .i64 D, .bool A]
/-- A rectangle as a value. -/
abbrev rcv (X Y W H : Int) : Value := .agg #[.int .i64 X, .int .i64 Y, .int .i64 W, .int .i64 H]

set_option maxHeartbeats 1000000 in
set_option maxRecDepth 1000000 in
theorem sided_any (x : Int) (w : World) : Calls Tryd.prog 86 #[.int .i64 x] w fun e w' => e = .returned (.bool (decide (1 ≤ x ∧ x ≤ 4096))) ∧ w' = w := by
  by_cases h1 : 1 ≤ x
  · by_cases h2 : x ≤ 4096
    · go_enter Tryd.func86, Tryd.ntmps86
      go_wp2
      go_ret
      exact ⟨ret_bool (by simp [h1, h2]), rfl⟩
    · go_enter Tryd.func86, Tryd.ntmps86
      go_wp2
      go_ret
      exact ⟨ret_bool (by symm; rw [decide_eq_false_iff_not]; omega), rfl⟩
  · go_enter Tryd.func86, Tryd.ntmps86
    go_wp2
    go_ret
    exact ⟨ret_bool (by rw [decide_eq_false (show ¬ 1 ≤ x by omega)]; rfl), rfl⟩

set_option maxHeartbeats 1000000 in
set_option maxRecDepth 1000000 in
theorem chroma_any (p : Int) (w : World) : Calls Tryd.prog 105 #[.int .i64 p] w fun e w' => e = .returned (.bool (decide (p = 1 ∨ p = 2))) ∧ w' = w := by
  by_cases h1 : p = 1
  · subst h1
    go_enter Tryd.func105, Tryd.ntmps105
    go_wp2
    go_ret
    exact ⟨rfl, rfl⟩
  · have h1' : (p == 1) = false := by simpa using h1
    go_enter Tryd.func105, Tryd.ntmps105
    go_wp2
    go_ret
    exact ⟨ret_bool (by simp only [h1, false_or]; rfl), rfl⟩

set_option maxHeartbeats 1000000 in
set_option maxRecDepth 1000000 in
theorem half_any (n : Int) (w : World) (h0 : 0 ≤ n) (h1 : n ≤ 9223372036854775807) : Calls Tryd.prog 106 #[.int .i64 n] w fun e w' => e = .returned (.int .i64 (hf n)) ∧ w' = w := by
  go_enter Tryd.func106, Tryd.ntmps106
  go_wp2
  go_ret
  exact ⟨rfl, rfl⟩

set_option maxHeartbeats 1000000 in
set_option maxRecDepth 1000000 in
theorem planes_any (W H D : Int) (A : Bool) (w : World) : Calls Tryd.prog 91 #[shv W H D A] w fun e w' => e = .returned (.int .i64 (np A : Int)) ∧ Kept [] w w' := by
  cases A
  · go_enter Tryd.func91, Tryd.ntmps91
    go_wp2
    go_ret
    exact ⟨rfl, (Kept.refl _ _).alloc _⟩
  · go_enter Tryd.func91, Tryd.ntmps91
    go_wp2
    go_ret
    exact ⟨rfl, (Kept.refl _ _).alloc _⟩


set_option maxHeartbeats 1000000 in
set_option maxRecDepth 1000000 in
theorem there_any (W H D p : Int) (A : Bool) (w : World) : Calls Tryd.prog 88 #[shv W H D A, .int .i64 p] w fun e w' => e = .returned (.bool (decide (0 ≤ p ∧ p < (np A : Int)))) ∧ Kept [] w w' := by
  have C := Hid.mk (fun u => planes_any W H D A u)
  have hn : (np A : Int) ≤ 4 ∧ 0 ≤ (np A : Int) := by cases A <;> decide
  obtain ⟨n, en⟩ : ∃ n : Nat, n = np A := ⟨_, rfl⟩
  rw [← en] at C hn ⊢
  clear en
  by_cases h1 : 0 ≤ p
  · go_enter Tryd.func88, Tryd.ntmps88
    go_wp2_with (go_at_call 91; refine (C.out _).mono ?_; rintro e w1 ⟨rfl, hk1⟩)
    go_ret
    exact ⟨ret_bool (by simp [h1]), ((Kept.refl _ _).alloc _).trans hk1⟩
  · go_enter Tryd.func88, Tryd.ntmps88
    go_wp2
    go_ret
    exact ⟨ret_bool (by rw [decide_eq_false (show ¬ 0 ≤ p by omega)]; rfl), (Kept.refl _ _).alloc _⟩

set_option maxHeartbeats 1000000 in
set_option maxRecDepth 1000000 in
theorem sides_any (W H D p : Int) (A : Bool) (w : World) (h0 : 0 ≤ W) (h1 : W ≤ 4096) : Calls Tryd.prog 89 #[shv W H D A, .int .i64 p] w fun e w' => e = .returned (.tuple #[.int .i64 (wp W p), .int .i64 H]) ∧ Kept [] w w' := by
  have C := Hid.mk (fun u => chroma_any p u)
  have C2 := Hid.mk (fun u => half_any W u h0 (by omega))
  by_cases hp : p = 1 ∨ p = 2
  · rw [decide_eq_true hp] at C
    have E := Hid.mk (show wp W p = hf W from if_pos hp)
    clear hp
    go_enter Tryd.func89, Tryd.ntmps89
    go_wp2_with (first | (go_at_call 105; refine (C.out _).mono ?_; rintro e w1 ⟨rfl, hw⟩; obtain rfl := hw.symm))
    go_quiet ((go_at_call 106; refine Calls.quiet_of_same (C2.out _)))
    go_wp2
    go_ret2
    rw [E.out]
    exact ⟨rfl, ((Kept.refl _ _).alloc _).drewN _⟩
  · rw [decide_eq_false hp] at C
    have E := Hid.mk (show wp W p = W from if_neg hp)
    clear hp
    go_enter Tryd.func89, Tryd.ntmps89
    go_wp2_with (first | (go_at_call 105; refine (C.out _).mono ?_; rintro e w1 ⟨rfl, hw⟩; obtain rfl := hw.symm))
    go_quiet (fail)
    go_wp2
    go_ret2
    rw [E.out]
    exact ⟨rfl, ((Kept.refl _ _).alloc _).drewN _⟩

theorem alloc_cell (w : World) (cs : Array Value) (t i : Nat) (v : Value) (h : cs[i]? = some v) : (w.alloc (.cells cs t (0, 0))).cell? ⟨w.heap.size, i, none⟩ = some v := by
  rw [cell_of_row _ _ _ _ _ _ (heap_alloc_new w _)]; exact h
theorem alloc_kept (w : World) (o : Obj) : Kept [] w (w.alloc o) := (Kept.refl [] w).alloc o
/-- A shape lies there. -/
structure Sat (w : World) (b : Nat) (W H D : Int) (A : Bool) : Prop where
  c0 : w.cell? ⟨b, 0, none⟩ = some (.int .i64 W)
  c1 : w.cell? ⟨b, 1, none⟩ = some (.int .i64 H)
  c2 : w.cell? ⟨b, 2, none⟩ = some (.int .i64 D)
  c3 : w.cell? ⟨b, 3, none⟩ = some (.bool A)
theorem Sat.new (w : World) (W H D : Int) (A : Bool) (t : Nat) : Sat (w.alloc (.cells #[.int .i64 W, .int .i64 H, .int .i64 D, .bool A] t (0, 0))) w.heap.size W H D A :=
  ⟨alloc_cell _ _ _ _ _ rfl, alloc_cell _ _ _ _ _ rfl, alloc_cell _ _ _ _ _ rfl, alloc_cell _ _ _ _ _ rfl⟩
theorem cell_keep {w w' : World} {ks : List Nat} (hk : Kept ks w w') {g o : Nat} {v : Value} (h : w.cell? ⟨g, o, none⟩ = some v) (hn : g ∉ ks) : w'.cell? ⟨g, o, none⟩ = some v :=
  (World.cell?_of_block (a := ⟨g, o, none⟩) (hk.block g (World.block_lt_of_cell? w _ h) hn)).trans h
theorem Sat.keep {w w' : World} {b : Nat} {W H D : Int} {A : Bool} {ks : List Nat} (h : Sat w b W H D A) (hk : Kept ks w w') (hn : b ∉ ks) : Sat w' b W H D A :=
  ⟨cell_keep hk h.c0 hn, cell_keep hk h.c1 hn, cell_keep hk h.c2 hn, cell_keep hk h.c3 hn⟩

/-- The samples of the first planes. -/
def sT (W H : Int) : Nat → Int
  | 0 => 0
  | p + 1 => sT W H p + wp W p * H
theorem sT_np (W H : Int) (A : Bool) : sT W H (np A) = tot W H A := by
  cases A
  · show 0 + W * H + hf W * H + hf W * H = W * H + hf W * H + hf W * H + 0
    omega
  · show 0 + W * H + hf W * H + hf W * H + W * H = W * H + hf W * H + hf W * H + W * H
    omega
theorem wpH {W H : Int} (p : Int) (h0 : 1 ≤ W) (h1 : W ≤ 4096) (h2 : 1 ≤ H) (h3 : H ≤ 4096) : 1 ≤ wp W p * H ∧ wp W p * H ≤ 16777216 := by
  have a := wp_lo p h0
  have b := wp_hi p h0
  constructor
  · have := Int.mul_le_mul a h2 (by omega) (by omega)
    omega
  · have := Int.mul_le_mul (show wp W p ≤ 4096 by omega) h3 (by omega) (by omega)
    omega
theorem sT_lo {W H : Int} (h0 : 1 ≤ W) (h1 : W ≤ 4096) (h2 : 1 ≤ H) (h3 : H ≤ 4096) (p : Nat) : 0 ≤ sT W H p ∧ sT W H p ≤ 16777216 * p := by
  induction p with
  | zero => simp [sT]
  | succ p ih =>
    have := wpH (p : Int) h0 h1 h2 h3
    have e : sT W H (p + 1) = sT W H p + wp W p * H := rfl
    rw [e]
    omega

set_option maxHeartbeats 4000000 in
set_option maxRecDepth 1000000 in
theorem total_any (W H D : Int) (A : Bool) (w : World) (h0 : 1 ≤ W) (h1 : W ≤ 4096) (h2 : 1 ≤ H) (h3 : H ≤ 4096) : Calls Tryd.prog 87 #[shv W H D A] w fun e w' => e = .returned (.int .i64 (tot W H A)) ∧ Kept [] w w' := by
  have C := Hid.mk (fun u => planes_any W H D A u)
  have C2 := Hid.mk (fun u (p : Nat) => sides_any W H D p A u (by omega) h1)
  have hn : np A ≤ 4 := by cases A <;> decide
  have E := Hid.mk (sT_np W H A)
  obtain ⟨n, en⟩ : ∃ n : Nat, n = np A := ⟨_, rfl⟩
  rw [← en] at C hn E
  clear en
  have HB := Hid.mk (sT_lo h0 h1 h2 h3)
  have HP := Hid.mk (fun p => wpH p h0 h1 h2 h3)
  go_enter Tryd.func87, Tryd.ntmps87
  go_wp2_with (go_at_call 91; refine (C.out _).mono ?_; rintro e w1 ⟨rfl, hk1⟩)
  have hk0 := Hid.mk (((Kept.refl [] w).alloc (.cells #[.int .i64 W, .int .i64 H, .int .i64 D, .bool A] 24)).trans hk1)
  have hcs := (Sat.new w W H D A 24).keep hk1 (by simp)
  obtain ⟨b, eb⟩ : ∃ b, b = w.heap.size := ⟨_, rfl⟩
  rw [← eb] at hcs ⊢
  clear eb hk1
  go_loopw [3, 9] (fun s i wr => ∃ k : Nat, k ≤ n ∧ i = .int .i64 (k : Int) ∧ s = .int .i64 (sT W H k) ∧ Kept [] w1 wr) (fun _ i _ => n - (intOf i).toNat)
  case atStart => exact ⟨0, by omega, rfl, rfl, Kept.refl _ _⟩
  case round =>
    obtain ⟨k, hk, rfl, rfl, hkr⟩ := hrel
    have Hkr := Hid.mk hkr
    obtain ⟨q0, q1, q2, q3⟩ := hcs.keep hkr (by simp)
    by_cases hlt : k < n
    · have b1 := HP.out (k : Int)
      have b2 := HB.out k
      have ES := Hid.mk (show sT W H (k + 1) = sT W H k + wp W k * H from rfl)
      have D2 := Hid.mk (fun u => C2.out u k)
      obtain ⟨x, ex⟩ : ∃ x, x = wp W k := ⟨_, rfl⟩
      rw [← ex] at b1 ES D2
      clear ex
      go_wp2_with (go_at_call 89; refine (D2.out _).mono ?_; rintro e w2 ⟨rfl, hk2⟩)
      have K := Hid.mk (Hkr.out.trans hk2)
      go_wp2
      exact ⟨⟨k + 1, by omega, by go_num, by rw [ES.out], K.out⟩, by simp [intOf]; omega⟩
    · obtain rfl : n = k := by omega
      go_wp2
      go_ret
      exact ⟨ret_int E.out, hk0.out.trans Hkr.out⟩

set_option maxHeartbeats 4000000 in
set_option maxRecDepth 1000000 in
theorem shaped_any (W H D : Int) (A : Bool) (w : World) : Calls Tryd.prog 63 #[shv W H D A] w fun e w' => e = .returned (.int .i64 (shE W H D A)) ∧ Kept [] w w' := by
  have C := Hid.mk sided_any
  have hk0 := Hid.mk ((Kept.refl [] w).alloc (.cells #[.int .i64 W, .int .i64 H, .int .i64 D, .bool A] 24))
  by_cases hW : 1 ≤ W ∧ W ≤ 4096
  · have DW := Hid.mk (fun u => (sided_any W u))
    rw [decide_eq_true hW] at DW
    by_cases hH : 1 ≤ H ∧ H ≤ 4096
    · have DH := Hid.mk (fun u => (sided_any H u))
      rw [decide_eq_true hH] at DH
      by_cases hD : D = 10 ∨ D = 12
      · have C3 := Hid.mk (fun u => total_any W H D A u hW.1 hW.2 hH.1 hH.2)
        by_cases hT : tot W H A ≤ 4194304
        · have E := Hid.mk (shE_ok (W := W) (H := H) (D := D) (A := A) ⟨hW, hH, hD, hT⟩)
          obtain ⟨T, eT⟩ : ∃ T, T = tot W H A := ⟨_, rfl⟩
          rw [← eT] at hT C3
          clear eT hW hH
          rcases hD with rfl | rfl
          · go_enter Tryd.func63, Tryd.ntmps63
            go_wp2_with (first | (go_at_call_of 86 W; refine (DW.out _).mono ?_; rintro e w1 ⟨rfl, hw⟩; obtain rfl := hw.symm) | (go_at_call_of 86 H; refine (DH.out _).mono ?_; rintro e w1 ⟨rfl, hw⟩; obtain rfl := hw.symm) | (go_at_call 87; refine (C3.out _).mono ?_; rintro e w2 ⟨rfl, hk2⟩))
            go_ret
            exact ⟨ret_int E.out.symm, hk0.out.trans hk2⟩
          · go_enter Tryd.func63, Tryd.ntmps63
            go_wp2_with (first | (go_at_call_of 86 W; refine (DW.out _).mono ?_; rintro e w1 ⟨rfl, hw⟩; obtain rfl := hw.symm) | (go_at_call_of 86 H; refine (DH.out _).mono ?_; rintro e w1 ⟨rfl, hw⟩; obtain rfl := hw.symm) | (go_at_call 87; refine (C3.out _).mono ?_; rintro e w2 ⟨rfl, hk2⟩))
            go_ret
            exact ⟨ret_int E.out.symm, hk0.out.trans hk2⟩
        · have E := Hid.mk (shE_no (W := W) (H := H) (D := D) (A := A) (fun h => hT h.2.2.2))
          obtain ⟨T, eT⟩ : ∃ T, T = tot W H A := ⟨_, rfl⟩
          rw [← eT] at hT C3
          clear eT hW hH
          rcases hD with rfl | rfl
          · go_enter Tryd.func63, Tryd.ntmps63
            go_wp2_with (first | (go_at_call_of 86 W; refine (DW.out _).mono ?_; rintro e w1 ⟨rfl, hw⟩; obtain rfl := hw.symm) | (go_at_call_of 86 H; refine (DH.out _).mono ?_; rintro e w1 ⟨rfl, hw⟩; obtain rfl := hw.symm) | (go_at_call 87; refine (C3.out _).mono ?_; rintro e w2 ⟨rfl, hk2⟩))
            go_ret
            exact ⟨ret_int E.out.symm, hk0.out.trans hk2⟩
          · go_enter Tryd.func63, Tryd.ntmps63
            go_wp2_with (first | (go_at_call_of 86 W; refine (DW.out _).mono ?_; rintro e w1 ⟨rfl, hw⟩; obtain rfl := hw.symm) | (go_at_call_of 86 H; refine (DH.out _).mono ?_; rintro e w1 ⟨rfl, hw⟩; obtain rfl := hw.symm) | (go_at_call 87; refine (C3.out _).mono ?_; rintro e w2 ⟨rfl, hk2⟩))
            go_ret
            exact ⟨ret_int E.out.symm, hk0.out.trans hk2⟩
      · have E := Hid.mk (shE_no (W := W) (H := H) (D := D) (A := A) (fun h => hD h.2.2.1))
        have d1 : (D != 10) = true := by simp; omega
        have d2 : (D != 12) = true := by simp; omega
        clear hW hH hD
        go_enter Tryd.func63, Tryd.ntmps63
        go_wp2_with (first | (go_at_call_of 86 W; refine (DW.out _).mono ?_; rintro e w1 ⟨rfl, hw⟩; obtain rfl := hw.symm) | (go_at_call_of 86 H; refine (DH.out _).mono ?_; rintro e w1 ⟨rfl, hw⟩; obtain rfl := hw.symm))
        go_ret
        exact ⟨ret_int E.out.symm, hk0.out⟩
    · have DH := Hid.mk (fun u => (sided_any H u))
      rw [decide_eq_false hH] at DH
      have E := Hid.mk (shE_no (W := W) (H := H) (D := D) (A := A) (fun h => hH h.2.1))
      clear hW hH
      go_enter Tryd.func63, Tryd.ntmps63
      go_wp2_with (first | (go_at_call_of 86 W; refine (DW.out _).mono ?_; rintro e w1 ⟨rfl, hw⟩; obtain rfl := hw.symm) | (go_at_call_of 86 H; refine (DH.out _).mono ?_; rintro e w1 ⟨rfl, hw⟩; obtain rfl := hw.symm))
      go_ret
      exact ⟨ret_int E.out.symm, hk0.out⟩
  · have DW := Hid.mk (fun u => (sided_any W u))
    rw [decide_eq_false hW] at DW
    have E := Hid.mk (shE_no (W := W) (H := H) (D := D) (A := A) (fun h => hW h.1))
    clear hW
    go_enter Tryd.func63, Tryd.ntmps63
    go_wp2_with (first | (go_at_call_of 86 W; refine (DW.out _).mono ?_; rintro e w1 ⟨rfl, hw⟩; obtain rfl := hw.symm))
    go_ret
    exact ⟨ret_int E.out.symm, hk0.out⟩

/-- Size's error. -/
def szE (W H D p : Int) (A : Bool) : Int := if shE W H D A = 0 then (if 0 ≤ p ∧ p < (np A : Int) then 0 else 65) else 61
theorem shE_two (W H D : Int) (A : Bool) : (shE W H D A = 0 ∧ Shp W H D A) ∨ (shE W H D A = 61 ∧ ¬ Shp W H D A) := by
  by_cases h : Shp W H D A
  · exact .inl ⟨shE_ok h, h⟩
  · exact .inr ⟨shE_no h, h⟩

set_option maxHeartbeats 4000000 in
set_option maxRecDepth 1000000 in
theorem size_any (W H D p : Int) (A : Bool) (w : World) : Calls Tryd.prog 64 #[shv W H D A, .int .i64 p] w fun e w' => e = .returned (.tuple #[.int .i64 (if szE W H D p A = 0 then wp W p else 0), .int .i64 (if szE W H D p A = 0 then H else 0), .int .i64 (szE W H D p A)]) ∧ Kept [] w w' := by
  have C := Hid.mk (fun u => shaped_any W H D A u)
  have hk0 := Hid.mk ((Kept.refl [] w).alloc (.cells #[.int .i64 W, .int .i64 H, .int .i64 D, .bool A] 24))
  have S0 := Sat.new w W H D A 24
  rcases shE_two W H D A with ⟨e1, h1⟩ | ⟨e1, h1⟩
  · rw [e1] at C
    by_cases hp : 0 ≤ p ∧ p < (np A : Int)
    · rw [show szE W H D p A = 0 by unfold szE; rw [if_pos e1, if_pos hp]]
      have C2 := Hid.mk (fun u => there_any W H D p A u)
      rw [decide_eq_true hp] at C2
      have C3 := Hid.mk (fun u => sides_any W H D p A u (by have := h1.1; omega) h1.1.2)
      clear hp h1 e1
      go_enter Tryd.func64, Tryd.ntmps64
      go_wp2_with (first | (go_at_call 63; refine (C.out _).mono ?_; rintro e w1 ⟨rfl, hk1⟩; obtain ⟨q0, q1, q2, q3⟩ := S0.keep hk1 (by simp)) | (go_at_call 88; refine (C2.out _).mono ?_; rintro e w2 ⟨rfl, hk2⟩; have r0 := cell_keep hk2 q0 (by simp); have r1 := cell_keep hk2 q1 (by simp); have r2 := cell_keep hk2 q2 (by simp); have r3 := cell_keep hk2 q3 (by simp)) | (go_at_call 89; refine (C3.out _).mono ?_; rintro e w3 ⟨rfl, hk3⟩))
      go_ret3
      exact ⟨rfl, ((hk0.out.trans hk1).trans hk2).trans hk3⟩
    · rw [show szE W H D p A = 65 by unfold szE; rw [if_pos e1, if_neg hp]]
      have C2 := Hid.mk (fun u => there_any W H D p A u)
      rw [decide_eq_false hp] at C2
      clear hp h1 e1
      go_enter Tryd.func64, Tryd.ntmps64
      go_wp2_with (first | (go_at_call 63; refine (C.out _).mono ?_; rintro e w1 ⟨rfl, hk1⟩; obtain ⟨q0, q1, q2, q3⟩ := S0.keep hk1 (by simp)) | (go_at_call 88; refine (C2.out _).mono ?_; rintro e w2 ⟨rfl, hk2⟩))
      go_ret3
      exact ⟨rfl, (hk0.out.trans hk1).trans hk2⟩
  · rw [e1] at C
    rw [show szE W H D p A = 61 by unfold szE; rw [e1]; rfl]
    clear h1 e1
    go_enter Tryd.func64, Tryd.ntmps64
    go_wp2_with (first | (go_at_call 63; refine (C.out _).mono ?_; rintro e w1 ⟨rfl, hk1⟩))
    go_ret3
    exact ⟨rfl, hk0.out.trans hk1⟩

end Go.Proofs.YtodlkpcbkilglaaDoor
