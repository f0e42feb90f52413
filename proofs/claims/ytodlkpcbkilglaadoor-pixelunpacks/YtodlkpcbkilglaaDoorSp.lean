import Derived.Test.YtodlkpcbkilglaaDoorRq
namespace Go.Proofs.YtodlkpcbkilglaaDoor
open Go.RowKit Go.Shelf

theorem alloc3_first (w : World) (a b c : Obj) : (((w.alloc a).alloc b).alloc c).heap[w.heap.size]? = some a ∧ Kept [] w (((w.alloc a).alloc b).alloc c) := by
  have k1 := alloc_kept w a
  have k2 := (alloc_kept (w.alloc a) b).trans (alloc_kept _ c)
  exact ⟨k2.heap (heap_alloc_new w a) (by simp), k1.trans k2⟩
theorem alloc4_first (w : World) (a b c d : Obj) : ((((w.alloc a).alloc b).alloc c).alloc d).heap[w.heap.size]? = some a ∧ Kept [] w ((((w.alloc a).alloc b).alloc c).alloc d) := by
  have k1 := alloc_kept w a
  have k2 := ((alloc_kept (w.alloc a) b).trans (alloc_kept _ c)).trans (alloc_kept _ d)
  exact ⟨k2.heap (heap_alloc_new w a) (by simp), k1.trans k2⟩
theorem Tryd.infoSp : (Tryd.prog.info? 74).map (·.size) = some 2 := by kernel_rfl
set_option maxHeartbeats 4000000 in
set_option maxRecDepth 1000000 in
theorem spot_0_0 (x : Nat) (w : World) (hx : x ≤ 4096) (hr : x % 6 = 0) :
    Calls Tryd.prog 44 #[.int .i64 0, .int .i64 (x : Int)] w fun e w' => e = .returned (.agg #[.int .i64 ((slt 0 x / 3 : Nat) : Int), .int .i64 ((slt 0 x % 3 : Nat) : Int)]) ∧ Kept [] w w' := by
  have f1 : (x : Int) % 6 = 0 := by omega
  have f2 : ((x : Int)).tmod 6 = 0 := by rw [Int.tmod_eq_emod_of_nonneg (by omega)]; omega
  obtain ⟨q, eq⟩ : ∃ q : Nat, x / 6 = q := ⟨_, rfl⟩
  have f3 : (x : Int) / 6 = (q : Int) := by omega
  have f4 : ((x : Int)).tdiv 6 = (q : Int) := by rw [Int.tdiv_eq_ediv_of_nonneg (by omega)]; omega
  have e1 : slt 0 x / 3 = q * 4 + 0 := by unfold slt; simp only [Nat.reduceEqDiff, if_true, if_false]; omega
  have e2 : slt 0 x % 3 = 1 := by unfold slt; simp only [Nat.reduceEqDiff, if_true, if_false]; omega
  rw [e1, e2]
  have hq : q ≤ 4096 := by omega
  clear e1 e2 eq hr
  go_enter Tryd.func44, Tryd.ntmps44
  go_wp2
  exact bodyPost_ret (results_cell_row rfl _ _ w.heap.size 74 _ (0, 0) _ rfl (alloc3_first w _ _ _).1 Tryd.underlying74 rfl Tryd.infoSp) rfl ⟨by simp, (alloc3_first w _ _ _).2⟩
set_option maxHeartbeats 4000000 in
set_option maxRecDepth 1000000 in
theorem spot_0_1 (x : Nat) (w : World) (hx : x ≤ 4096) (hr : x % 6 = 1) :
    Calls Tryd.prog 44 #[.int .i64 0, .int .i64 (x : Int)] w fun e w' => e = .returned (.agg #[.int .i64 ((slt 0 x / 3 : Nat) : Int), .int .i64 ((slt 0 x % 3 : Nat) : Int)]) ∧ Kept [] w w' := by
  have f1 : (x : Int) % 6 = 1 := by omega
  have f2 : ((x : Int)).tmod 6 = 1 := by rw [Int.tmod_eq_emod_of_nonneg (by omega)]; omega
  obtain ⟨q, eq⟩ : ∃ q : Nat, x / 6 = q := ⟨_, rfl⟩
  have f3 : (x : Int) / 6 = (q : Int) := by omega
  have f4 : ((x : Int)).tdiv 6 = (q : Int) := by rw [Int.tdiv_eq_ediv_of_nonneg (by omega)]; omega
  have e1 : slt 0 x / 3 = q * 4 + 1 := by unfold slt; simp only [Nat.reduceEqDiff, if_true, if_false]; omega
  have e2 : slt 0 x % 3 = 0 := by unfold slt; simp only [Nat.reduceEqDiff, if_true, if_false]; omega
  rw [e1, e2]
  have hq : q ≤ 4096 := by omega
  clear e1 e2 eq hr
  go_enter Tryd.func44, Tryd.ntmps44
  go_wp2
  exact bodyPost_ret (results_cell_row rfl _ _ w.heap.size 74 _ (0, 0) _ rfl (alloc3_first w _ _ _).1 Tryd.underlying74 rfl Tryd.infoSp) rfl ⟨by simp, (alloc3_first w _ _ _).2⟩
set_option maxHeartbeats 4000000 in
set_option maxRecDepth 1000000 in
theorem spot_0_2 (x : Nat) (w : World) (hx : x ≤ 4096) (hr : x % 6 = 2) :
    Calls Tryd.prog 44 #[.int .i64 0, .int .i64 (x : Int)] w fun e w' => e = .returned (.agg #[.int .i64 ((slt 0 x / 3 : Nat) : Int), .int .i64 ((slt 0 x % 3 : Nat) : Int)]) ∧ Kept [] w w' := by
  have f1 : (x : Int) % 6 = 2 := by omega
  have f2 : ((x : Int)).tmod 6 = 2 := by rw [Int.tmod_eq_emod_of_nonneg (by omega)]; omega
  obtain ⟨q, eq⟩ : ∃ q : Nat, x / 6 = q := ⟨_, rfl⟩
  have f3 : (x : Int) / 6 = (q : Int) := by omega
  have f4 : ((x : Int)).tdiv 6 = (q : Int) := by rw [Int.tdiv_eq_ediv_of_nonneg (by omega)]; omega
  have e1 : slt 0 x / 3 = q * 4 + 1 := by unfold slt; simp only [Nat.reduceEqDiff, if_true, if_false]; omega
  have e2 : slt 0 x % 3 = 2 := by unfold slt; simp only [Nat.reduceEqDiff, if_true, if_false]; omega
  rw [e1, e2]
  have hq : q ≤ 4096 := by omega
  clear e1 e2 eq hr
  go_enter Tryd.func44, Tryd.ntmps44
  go_wp2
  exact bodyPost_ret (results_cell_row rfl _ _ w.heap.size 74 _ (0, 0) _ rfl (alloc3_first w _ _ _).1 Tryd.underlying74 rfl Tryd.infoSp) rfl ⟨by simp, (alloc3_first w _ _ _).2⟩
set_option maxHeartbeats 4000000 in
set_option maxRecDepth 1000000 in
theorem spot_0_3 (x : Nat) (w : World) (hx : x ≤ 4096) (hr : x % 6 = 3) :
    Calls Tryd.prog 44 #[.int .i64 0, .int .i64 (x : Int)] w fun e w' => e = .returned (.agg #[.int .i64 ((slt 0 x / 3 : Nat) : Int), .int .i64 ((slt 0 x % 3 : Nat) : Int)]) ∧ Kept [] w w' := by
  have f1 : (x : Int) % 6 = 3 := by omega
  have f2 : ((x : Int)).tmod 6 = 3 := by rw [Int.tmod_eq_emod_of_nonneg (by omega)]; omega
  obtain ⟨q, eq⟩ : ∃ q : Nat, x / 6 = q := ⟨_, rfl⟩
  have f3 : (x : Int) / 6 = (q : Int) := by omega
  have f4 : ((x : Int)).tdiv 6 = (q : Int) := by rw [Int.tdiv_eq_ediv_of_nonneg (by omega)]; omega
  have e1 : slt 0 x / 3 = q * 4 + 2 := by unfold slt; simp only [Nat.reduceEqDiff, if_true, if_false]; omega
  have e2 : slt 0 x % 3 = 1 := by unfold slt; simp only [Nat.reduceEqDiff, if_true, if_false]; omega
  rw [e1, e2]
  have hq : q ≤ 4096 := by omega
  clear e1 e2 eq hr
  go_enter Tryd.func44, Tryd.ntmps44
  go_wp2
  exact bodyPost_ret (results_cell_row rfl _ _ w.heap.size 74 _ (0, 0) _ rfl (alloc3_first w _ _ _).1 Tryd.underlying74 rfl Tryd.infoSp) rfl ⟨by simp, (alloc3_first w _ _ _).2⟩
set_option maxHeartbeats 4000000 in
set_option maxRecDepth 1000000 in
theorem spot_0_4 (x : Nat) (w : World) (hx : x ≤ 4096) (hr : x % 6 = 4) :
    Calls Tryd.prog 44 #[.int .i64 0, .int .i64 (x : Int)] w fun e w' => e = .returned (.agg #[.int .i64 ((slt 0 x / 3 : Nat) : Int), .int .i64 ((slt 0 x % 3 : Nat) : Int)]) ∧ Kept [] w w' := by
  have f1 : (x : Int) % 6 = 4 := by omega
  have f2 : ((x : Int)).tmod 6 = 4 := by rw [Int.tmod_eq_emod_of_nonneg (by omega)]; omega
  obtain ⟨q, eq⟩ : ∃ q : Nat, x / 6 = q := ⟨_, rfl⟩
  have f3 : (x : Int) / 6 = (q : Int) := by omega
  have f4 : ((x : Int)).tdiv 6 = (q : Int) := by rw [Int.tdiv_eq_ediv_of_nonneg (by omega)]; omega
  have e1 : slt 0 x / 3 = q * 4 + 3 := by unfold slt; simp only [Nat.reduceEqDiff, if_true, if_false]; omega
  have e2 : slt 0 x % 3 = 0 := by unfold slt; simp only [Nat.reduceEqDiff, if_true, if_false]; omega
  rw [e1, e2]
  have hq : q ≤ 4096 := by omega
  clear e1 e2 eq hr
  go_enter Tryd.func44, Tryd.ntmps44
  go_wp2
  exact bodyPost_ret (results_cell_row rfl _ _ w.heap.size 74 _ (0, 0) _ rfl (alloc3_first w _ _ _).1 Tryd.underlying74 rfl Tryd.infoSp) rfl ⟨by simp, (alloc3_first w _ _ _).2⟩
set_option maxHeartbeats 4000000 in
set_option maxRecDepth 1000000 in
theorem spot_0_5 (x : Nat) (w : World) (hx : x ≤ 4096) (hr : x % 6 = 5) :
    Calls Tryd.prog 44 #[.int .i64 0, .int .i64 (x : Int)] w fun e w' => e = .returned (.agg #[.int .i64 ((slt 0 x / 3 : Nat) : Int), .int .i64 ((slt 0 x % 3 : Nat) : Int)]) ∧ Kept [] w w' := by
  have f1 : (x : Int) % 6 = 5 := by omega
  have f2 : ((x : Int)).tmod 6 = 5 := by rw [Int.tmod_eq_emod_of_nonneg (by omega)]; omega
  obtain ⟨q, eq⟩ : ∃ q : Nat, x / 6 = q := ⟨_, rfl⟩
  have f3 : (x : Int) / 6 = (q : Int) := by omega
  have f4 : ((x : Int)).tdiv 6 = (q : Int) := by rw [Int.tdiv_eq_ediv_of_nonneg (by omega)]; omega
  have e1 : slt 0 x / 3 = q * 4 + 3 := by unfold slt; simp only [Nat.reduceEqDiff, if_true, if_false]; omega
  have e2 : slt 0 x % 3 = 2 := by unfold slt; simp only [Nat.reduceEqDiff, if_true, if_false]; omega
  rw [e1, e2]
  have hq : q ≤ 4096 := by omega
  clear e1 e2 eq hr
  go_enter Tryd.func44, Tryd.ntmps44
  go_wp2
  exact bodyPost_ret (results_cell_row rfl _ _ w.heap.size 74 _ (0, 0) _ rfl (alloc3_first w _ _ _).1 Tryd.underlying74 rfl Tryd.infoSp) rfl ⟨by simp, (alloc3_first w _ _ _).2⟩
set_option maxHeartbeats 4000000 in
set_option maxRecDepth 1000000 in
theorem spot_1_0 (x : Nat) (w : World) (hx : x ≤ 4096) (hr : x % 3 = 0) :
    Calls Tryd.prog 44 #[.int .i64 1, .int .i64 (x : Int)] w fun e w' => e = .returned (.agg #[.int .i64 ((slt 1 x / 3 : Nat) : Int), .int .i64 ((slt 1 x % 3 : Nat) : Int)]) ∧ Kept [] w w' := by
  have f1 : (x : Int) % 3 = 0 := by omega
  have f2 : ((x : Int)).tmod 3 = 0 := by rw [Int.tmod_eq_emod_of_nonneg (by omega)]; omega
  obtain ⟨q, eq⟩ : ∃ q : Nat, x / 3 = q := ⟨_, rfl⟩
  have f3 : (x : Int) / 3 = (q : Int) := by omega
  have f4 : ((x : Int)).tdiv 3 = (q : Int) := by rw [Int.tdiv_eq_ediv_of_nonneg (by omega)]; omega
  have e1 : slt 1 x / 3 = q * 4 + 0 := by unfold slt; simp only [Nat.reduceEqDiff, if_true, if_false]; omega
  have e2 : slt 1 x % 3 = 0 := by unfold slt; simp only [Nat.reduceEqDiff, if_true, if_false]; omega
  rw [e1, e2]
  have hq : q ≤ 4096 := by omega
  clear e1 e2 eq hr
  go_enter Tryd.func44, Tryd.ntmps44
  go_wp2
  exact bodyPost_ret (results_cell_row rfl _ _ w.heap.size 74 _ (0, 0) _ rfl (alloc3_first w _ _ _).1 Tryd.underlying74 rfl Tryd.infoSp) rfl ⟨by simp, (alloc3_first w _ _ _).2⟩
set_option maxHeartbeats 4000000 in
set_option maxRecDepth 1000000 in
theorem spot_1_1 (x : Nat) (w : World) (hx : x ≤ 4096) (hr : x % 3 = 1) :
    Calls Tryd.prog 44 #[.int .i64 1, .int .i64 (x : Int)] w fun e w' => e = .returned (.agg #[.int .i64 ((slt 1 x / 3 : Nat) : Int), .int .i64 ((slt 1 x % 3 : Nat) : Int)]) ∧ Kept [] w w' := by
  have f1 : (x : Int) % 3 = 1 := by omega
  have f2 : ((x : Int)).tmod 3 = 1 := by rw [Int.tmod_eq_emod_of_nonneg (by omega)]; omega
  obtain ⟨q, eq⟩ : ∃ q : Nat, x / 3 = q := ⟨_, rfl⟩
  have f3 : (x : Int) / 3 = (q : Int) := by omega
  have f4 : ((x : Int)).tdiv 3 = (q : Int) := by rw [Int.tdiv_eq_ediv_of_nonneg (by omega)]; omega
  have e1 : slt 1 x / 3 = q * 4 + 1 := by unfold slt; simp only [Nat.reduceEqDiff, if_true, if_false]; omega
  have e2 : slt 1 x % 3 = 1 := by unfold slt; simp only [Nat.reduceEqDiff, if_true, if_false]; omega
  rw [e1, e2]
  have hq : q ≤ 4096 := by omega
  clear e1 e2 eq hr
  go_enter Tryd.func44, Tryd.ntmps44
  go_wp2
  exact bodyPost_ret (results_cell_row rfl _ _ w.heap.size 74 _ (0, 0) _ rfl (alloc3_first w _ _ _).1 Tryd.underlying74 rfl Tryd.infoSp) rfl ⟨by simp, (alloc3_first w _ _ _).2⟩
set_option maxHeartbeats 4000000 in
set_option maxRecDepth 1000000 in
theorem spot_1_2 (x : Nat) (w : World) (hx : x ≤ 4096) (hr : x % 3 = 2) :
    Calls Tryd.prog 44 #[.int .i64 1, .int .i64 (x : Int)] w fun e w' => e = .returned (.agg #[.int .i64 ((slt 1 x / 3 : Nat) : Int), .int .i64 ((slt 1 x % 3 : Nat) : Int)]) ∧ Kept [] w w' := by
  have f1 : (x : Int) % 3 = 2 := by omega
  have f2 : ((x : Int)).tmod 3 = 2 := by rw [Int.tmod_eq_emod_of_nonneg (by omega)]; omega
  obtain ⟨q, eq⟩ : ∃ q : Nat, x / 3 = q := ⟨_, rfl⟩
  have f3 : (x : Int) / 3 = (q : Int) := by omega
  have f4 : ((x : Int)).tdiv 3 = (q : Int) := by rw [Int.tdiv_eq_ediv_of_nonneg (by omega)]; omega
  have e1 : slt 1 x / 3 = q * 4 + 2 := by unfold slt; simp only [Nat.reduceEqDiff, if_true, if_false]; omega
  have e2 : slt 1 x % 3 = 2 := by unfold slt; simp only [Nat.reduceEqDiff, if_true, if_false]; omega
  rw [e1, e2]
  have hq : q ≤ 4096 := by omega
  clear e1 e2 eq hr
  go_enter Tryd.func44, Tryd.ntmps44
  go_wp2
  exact bodyPost_ret (results_cell_row rfl _ _ w.heap.size 74 _ (0, 0) _ rfl (alloc3_first w _ _ _).1 Tryd.underlying74 rfl Tryd.infoSp) rfl ⟨by simp, (alloc3_first w _ _ _).2⟩
set_option maxHeartbeats 4000000 in
set_option maxRecDepth 1000000 in
theorem spot_2_0 (x : Nat) (w : World) (hx : x ≤ 4096) (hr : x % 3 = 0) :
    Calls Tryd.prog 44 #[.int .i64 2, .int .i64 (x : Int)] w fun e w' => e = .returned (.agg #[.int .i64 ((slt 2 x / 3 : Nat) : Int), .int .i64 ((slt 2 x % 3 : Nat) : Int)]) ∧ Kept [] w w' := by
  have f1 : (x : Int) % 3 = 0 := by omega
  have f2 : ((x : Int)).tmod 3 = 0 := by rw [Int.tmod_eq_emod_of_nonneg (by omega)]; omega
  obtain ⟨q, eq⟩ : ∃ q : Nat, x / 3 = q := ⟨_, rfl⟩
  have f3 : (x : Int) / 3 = (q : Int) := by omega
  have f4 : ((x : Int)).tdiv 3 = (q : Int) := by rw [Int.tdiv_eq_ediv_of_nonneg (by omega)]; omega
  have e1 : slt 2 x / 3 = q * 4 + 0 := by unfold slt; simp only [Nat.reduceEqDiff, if_false]; omega
  have e2 : slt 2 x % 3 = 2 := by unfold slt; simp only [Nat.reduceEqDiff, if_false]; omega
  rw [e1, e2]
  have hq : q ≤ 4096 := by omega
  clear e1 e2 eq hr
  go_enter Tryd.func44, Tryd.ntmps44
  go_wp2
  exact bodyPost_ret (results_cell_row rfl _ _ w.heap.size 74 _ (0, 0) _ rfl (alloc4_first w _ _ _ _).1 Tryd.underlying74 rfl Tryd.infoSp) rfl ⟨by simp, (alloc4_first w _ _ _ _).2⟩
set_option maxHeartbeats 4000000 in
set_option maxRecDepth 1000000 in
theorem spot_2_1 (x : Nat) (w : World) (hx : x ≤ 4096) (hr : x % 3 = 1) :
    Calls Tryd.prog 44 #[.int .i64 2, .int .i64 (x : Int)] w fun e w' => e = .returned (.agg #[.int .i64 ((slt 2 x / 3 : Nat) : Int), .int .i64 ((slt 2 x % 3 : Nat) : Int)]) ∧ Kept [] w w' := by
  have f1 : (x : Int) % 3 = 1 := by omega
  have f2 : ((x : Int)).tmod 3 = 1 := by rw [Int.tmod_eq_emod_of_nonneg (by omega)]; omega
  obtain ⟨q, eq⟩ : ∃ q : Nat, x / 3 = q := ⟨_, rfl⟩
  have f3 : (x : Int) / 3 = (q : Int) := by omega
  have f4 : ((x : Int)).tdiv 3 = (q : Int) := by rw [Int.tdiv_eq_ediv_of_nonneg (by omega)]; omega
  have e1 : slt 2 x / 3 = q * 4 + 2 := by unfold slt; simp only [Nat.reduceEqDiff, if_false]; omega
  have e2 : slt 2 x % 3 = 0 := by unfold slt; simp only [Nat.reduceEqDiff, if_false]; omega
  rw [e1, e2]
  have hq : q ≤ 4096 := by omega
  clear e1 e2 eq hr
  go_enter Tryd.func44, Tryd.ntmps44
  go_wp2
  exact bodyPost_ret (results_cell_row rfl _ _ w.heap.size 74 _ (0, 0) _ rfl (alloc4_first w _ _ _ _).1 Tryd.underlying74 rfl Tryd.infoSp) rfl ⟨by simp, (alloc4_first w _ _ _ _).2⟩
set_option maxHeartbeats 4000000 in
set_option maxRecDepth 1000000 in
theorem spot_2_2 (x : Nat) (w : World) (hx : x ≤ 4096) (hr : x % 3 = 2) :
    Calls Tryd.prog 44 #[.int .i64 2, .int .i64 (x : Int)] w fun e w' => e = .returned (.agg #[.int .i64 ((slt 2 x / 3 : Nat) : Int), .int .i64 ((slt 2 x % 3 : Nat) : Int)]) ∧ Kept [] w w' := by
  have f1 : (x : Int) % 3 = 2 := by omega
  have f2 : ((x : Int)).tmod 3 = 2 := by rw [Int.tmod_eq_emod_of_nonneg (by omega)]; omega
  obtain ⟨q, eq⟩ : ∃ q : Nat, x / 3 = q := ⟨_, rfl⟩
  have f3 : (x : Int) / 3 = (q : Int) := by omega
  have f4 : ((x : Int)).tdiv 3 = (q : Int) := by rw [Int.tdiv_eq_ediv_of_nonneg (by omega)]; omega
  have e1 : slt 2 x / 3 = q * 4 + 3 := by unfold slt; simp only [Nat.reduceEqDiff, if_false]; omega
  have e2 : slt 2 x % 3 = 1 := by unfold slt; simp only [Nat.reduceEqDiff, if_false]; omega
  rw [e1, e2]
  have hq : q ≤ 4096 := by omega
  clear e1 e2 eq hr
  go_enter Tryd.func44, Tryd.ntmps44
  go_wp2
  exact bodyPost_ret (results_cell_row rfl _ _ w.heap.size 74 _ (0, 0) _ rfl (alloc4_first w _ _ _ _).1 Tryd.underlying74 rfl Tryd.infoSp) rfl ⟨by simp, (alloc4_first w _ _ _ _).2⟩
theorem spot_any (p x : Nat) (w : World) (hp : p < 3) (hx : x ≤ 4096) :
    Calls Tryd.prog 44 #[.int .i64 (p : Int), .int .i64 (x : Int)] w fun e w' => e = .returned (.agg #[.int .i64 ((slt p x / 3 : Nat) : Int), .int .i64 ((slt p x % 3 : Nat) : Int)]) ∧ Kept [] w w' := by
  rcases (by omega : p = 0 ∨ p = 1 ∨ p = 2) with rfl | rfl | rfl
  · rcases (by omega : x % 6 = 0 ∨ x % 6 = 1 ∨ x % 6 = 2 ∨ x % 6 = 3 ∨ x % 6 = 4 ∨ x % 6 = 5) with h | h | h | h | h | h
    · exact spot_0_0 x w hx h
    · exact spot_0_1 x w hx h
    · exact spot_0_2 x w hx h
    · exact spot_0_3 x w hx h
    · exact spot_0_4 x w hx h
    · exact spot_0_5 x w hx h
  · rcases (by omega : x % 3 = 0 ∨ x % 3 = 1 ∨ x % 3 = 2) with h | h | h
    · exact spot_1_0 x w hx h
    · exact spot_1_1 x w hx h
    · exact spot_1_2 x w hx h
  · rcases (by omega : x % 3 = 0 ∨ x % 3 = 1 ∨ x % 3 = 2) with h | h | h
    · exact spot_2_0 x w hx h
    · exact spot_2_1 x w hx h
    · exact spot_2_2 x w hx h
end Go.Proofs.YtodlkpcbkilglaaDoor
