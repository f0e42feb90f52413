import Derived.Test.YtiganmmacmhndaaGreatDoorqE
import Derived.Test.YtiganmmacmhndaaGreatDoorwA
import Derived.Test.YtiganmmacmhndaaGreatDoorqPZ
import Derived.Test.YtiganmmacmhndaaGreatDoorpYZ
import Derived.Laws.StructEq
namespace Go.Proofs.YtiganmmacmhndaaGreatDoor.Pc
open Go.RowKit

theorem cl_lo {a b : Int} (h1 : 1 ≤ a) (h3 : 16 ≤ b) : 1 ≤ Tl.cl a b := by
  unfold Tl.cl
  exact Int.le_ediv_of_mul_le (by omega) (by omega)
theorem cl_hi {a b : Int} (h2 : a ≤ 4096) (h3 : 16 ≤ b) : Tl.cl a b ≤ 256 := by
  unfold Tl.cl
  have := Int.ediv_lt_of_lt_mul (a := a + b - 1) (b := 257) (c := b) (by omega) (by omega)
  omega
theorem rgt_num {W H D : Int} {A : Bool} {sw sh : Int} {r : Nat → Int} {N p ln : Int} (h : rgt W H D A sw sh r N p ln = true) : ∃ n q : Nat, N = (n : Int) ∧ p = (q : Int) ∧ n ≤ 70000 ∧ q ≤ 16 := by
  unfold rgt at h
  simp only [Bool.and_eq_true, decide_eq_true_eq] at h
  obtain ⟨⟨⟨⟨⟨h1, _⟩, h3⟩, h4⟩, _⟩, _⟩ := h
  obtain ⟨a, b⟩ := nwE_zero h1
  have l1 := cl_lo a.1.1 b.1.1
  have l2 := cl_lo a.2.1.1 b.2.2.1
  have u1 := cl_hi a.1.2 b.1.1
  have u2 := cl_hi a.2.1.2 b.2.2.1
  unfold pmb at h4
  simp only [decide_eq_true_eq] at h4
  obtain ⟨x, ex⟩ := Int.eq_ofNat_of_zero_le (by omega : 0 ≤ Tl.cl W sw)
  obtain ⟨y, ey⟩ := Int.eq_ofNat_of_zero_le (by omega : 0 ≤ Tl.cl H sh)
  obtain ⟨q, eq⟩ := Int.eq_ofNat_of_zero_le h4.1.1
  rw [ex] at u1 h3
  rw [ey] at u2 h3
  have hxy : x * y ≤ 256 * 256 := Nat.mul_le_mul (by omega) (by omega)
  exact ⟨x * y, q, by rw [h3]; simp, eq, by omega, by omega⟩

theorem Tryz.infoCn : (Tryz.prog.info? 38).map (·.size) = some 5 := by kernel_rfl
theorem rung_eq9 (a0 a1 a2 a3 : Int) (w : World) : (Op.equalIn 9999 26 (.agg #[.int .i64 a0, .int .i64 a1, .int .i64 a2, .int .i64 a3]) (.agg #[.int .i64 a0, .int .i64 a1, .int .i64 a2, .int .i64 a3])).run Tryz.prog w = .ok true w := by
  obtain ⟨i, hi⟩ := Option.isSome_iff_exists.1 Tryz.infoI3
  rw [run_equalIn_array w 9998 _ _ Tryz.underlying26 hi]
  have hp : ∀ (j : Nat) (x : Int), (#[.int .i64 a0, .int .i64 a1, .int .i64 a2, .int .i64 a3] : Array Value)[j]? = some (.int .i64 x) → (part 3 #[.int .i64 a0, .int .i64 a1, .int .i64 a2, .int .i64 a3] (j * Tryz.prog.cellsOf 3)).run Tryz.prog w = .ok (.int .i64 x) w := fun j x h => by
    rw [Tryz.cellsI, Nat.mul_one]
    simp [part, isAgg, run_underlying Tryz.underlying3, h]
  have he : ∀ x : Int, (Op.equalIn 9998 3 (.int .i64 x) (.int .i64 x)).run Tryz.prog w = .ok true w := fun x => by
    rw [run_equalIn_int w 9997 3 .i64 .i64 _ _ Tryz.underlying3]
    simp
  show (Op.eqItems 9998 3 (Tryz.prog.cellsOf 3) _ _ [0, 1, 2, 3]).run Tryz.prog w = _
  simp only [Op.eqItems, Sem.run_bind, hp 0 a0 rfl, hp 1 a1 rfl, hp 2 a2 rfl, hp 3 a3 rfl, he, Result.andThen_ok, Bool.not_true, Bool.false_eq_true, if_false]
  first | rfl | simp

set_option maxHeartbeats 4000000 in
set_option maxRecDepth 1000000 in
theorem pts_no (W H D : Int) (A : Bool) (sw sh : Int) (r : Nat → Int) (N p ln : Int) (w : World) (s0 : -9223372036854775808 ≤ sw) (s1 : sw ≤ 9223372036854775807) (hR : rgt W H D A sw sh r N p ln = false) :
    Calls Tryz.prog 10 #[hvv W H D A sw sh r N p ln] w fun e w' => e = .returned (.int .i64 0) ∧ Kept [] w w' := by
  have C1 := Hid.mk (fun u => pright_any W H D A sw sh r N p ln u s0 s1)
  rw [hR] at C1
  obtain ⟨r0, er0⟩ : ∃ x, r 0 = x := ⟨_, rfl⟩
  obtain ⟨r1, er1⟩ : ∃ x, r 1 = x := ⟨_, rfl⟩
  obtain ⟨r2, er2⟩ : ∃ x, r 2 = x := ⟨_, rfl⟩
  obtain ⟨r3, er3⟩ : ∃ x, r 3 = x := ⟨_, rfl⟩
  have e9 : hvv W H D A sw sh r N p ln = .agg #[.int .i64 W, .int .i64 H, .int .i64 D, .bool A, .int .i64 sw, .int .i64 sh, .int .i64 r0, .int .i64 r1, .int .i64 r2, .int .i64 r3, .int .i64 N, .int .i64 p, .int .i64 ln] := by unfold hvv; rw [er0, er1, er2, er3]
  rw [e9] at C1 ⊢
  obtain ⟨w1, e1⟩ : ∃ w1, w.alloc (.cells #[.int .i64 W, .int .i64 H, .int .i64 D, .bool A, .int .i64 sw, .int .i64 sh, .int .i64 r0, .int .i64 r1, .int .i64 r2, .int .i64 r3, .int .i64 N, .int .i64 p, .int .i64 ln] 28 (0, 0)) = w1 := ⟨_, rfl⟩
  obtain ⟨B, eB⟩ : ∃ B, w.heap.size = B := ⟨_, rfl⟩
  have K1 : Hid (Kept [] w w1) := Hid.mk (by rw [← e1]; exact (Kept.refl [] w).alloc _)
  have HB1 := Hid.mk (show w1.heap[B]? = some (.cells #[.int .i64 W, .int .i64 H, .int .i64 D, .bool A, .int .i64 sw, .int .i64 sh, .int .i64 r0, .int .i64 r1, .int .i64 r2, .int .i64 r3, .int .i64 N, .int .i64 p, .int .i64 ln] 28 (0, 0)) by rw [← e1, ← eB]; exact heap_alloc_new _ _)
  obtain ⟨h0, h1, h2, h3, h4, h5, h6, h7, h8, h9, h10, h11, h12⟩ := cel13 HB1.out
  clear hR er0 er1 er2 er3 e9 s0 s1
  go_enter Tryz.func10, Tryz.ntmps10
  go_wp2_with (fail)
  clear e1 eB
  refine (C1.out _).mono ?_
  rintro e w2 ⟨rfl, k2⟩
  have K2 := Hid.mk k2
  clear k2 h0 h1 h2 h3 h4 h5 h6 h7 h8 h9 h10 h11 h12
  go_wp2
  go_ret
  exact ⟨rfl, K1.out.trans K2.out⟩

set_option maxHeartbeats 4000000 in
set_option maxRecDepth 1000000 in
theorem rts_no (W H D : Int) (A : Bool) (sw sh : Int) (r : Nat → Int) (N p ln : Int) (w : World) (hR : rgt W H D A sw sh r N p ln = false) :
    Calls Tryz.prog 11 #[hvv W H D A sw sh r N p ln] w fun e w' => e = .returned (.int .i64 0) ∧ Kept [] w w' := by
  have C1 := Hid.mk (fun u => rRight_any W H D A sw sh r N p ln u)
  rw [hR] at C1
  obtain ⟨r0, er0⟩ : ∃ x, r 0 = x := ⟨_, rfl⟩
  obtain ⟨r1, er1⟩ : ∃ x, r 1 = x := ⟨_, rfl⟩
  obtain ⟨r2, er2⟩ : ∃ x, r 2 = x := ⟨_, rfl⟩
  obtain ⟨r3, er3⟩ : ∃ x, r 3 = x := ⟨_, rfl⟩
  have e9 : hvv W H D A sw sh r N p ln = .agg #[.int .i64 W, .int .i64 H, .int .i64 D, .bool A, .int .i64 sw, .int .i64 sh, .int .i64 r0, .int .i64 r1, .int .i64 r2, .int .i64 r3, .int .i64 N, .int .i64 p, .int .i64 ln] := by unfold hvv; rw [er0, er1, er2, er3]
  rw [e9] at C1 ⊢
  obtain ⟨w1, e1⟩ : ∃ w1, w.alloc (.cells #[.int .i64 W, .int .i64 H, .int .i64 D, .bool A, .int .i64 sw, .int .i64 sh, .int .i64 r0, .int .i64 r1, .int .i64 r2, .int .i64 r3, .int .i64 N, .int .i64 p, .int .i64 ln] 28 (0, 0)) = w1 := ⟨_, rfl⟩
  obtain ⟨B, eB⟩ : ∃ B, w.heap.size = B := ⟨_, rfl⟩
  have K1 : Hid (Kept [] w w1) := Hid.mk (by rw [← e1]; exact (Kept.refl [] w).alloc _)
  have HB1 := Hid.mk (show w1.heap[B]? = some (.cells #[.int .i64 W, .int .i64 H, .int .i64 D, .bool A, .int .i64 sw, .int .i64 sh, .int .i64 r0, .int .i64 r1, .int .i64 r2, .int .i64 r3, .int .i64 N, .int .i64 p, .int .i64 ln] 28 (0, 0)) by rw [← e1, ← eB]; exact heap_alloc_new _ _)
  obtain ⟨h0, h1, h2, h3, h4, h5, h6, h7, h8, h9, h10, h11, h12⟩ := cel13 HB1.out
  clear hR er0 er1 er2 er3 e9
  go_enter Tryz.func11, Tryz.ntmps11
  go_wp2_with (fail)
  clear e1 eB
  refine (C1.out _).mono ?_
  rintro e w2 ⟨rfl, k2⟩
  have K2 := Hid.mk k2
  clear k2 h0 h1 h2 h3 h4 h5 h6 h7 h8 h9 h10 h11 h12
  go_wp2
  go_ret
  exact ⟨rfl, K1.out.trans K2.out⟩

set_option maxHeartbeats 4000000 in
set_option maxRecDepth 1000000 in
theorem rts_yes (W H D : Int) (A : Bool) (sw sh : Int) (r : Nat → Int) (N p : Nat) (ln : Int) (w : World) (hR : rgt W H D A sw sh r (N : Int) (p : Int) ln = true) (hN : N ≤ 70000) (hp : p ≤ 16) :
    Calls Tryz.prog 11 #[hvv W H D A sw sh r (N : Int) (p : Int) ln] w fun e w' => e = .returned (.int .i64 ((8 * N + 4 * p + 4 : Nat) : Int)) ∧ Kept [] w w' := by
  have C1 := Hid.mk (fun u => rRight_any W H D A sw sh r (N : Int) (p : Int) ln u)
  rw [hR] at C1
  obtain ⟨a1, ea1⟩ : ∃ x, 8 * N = x := ⟨_, rfl⟩
  obtain ⟨a2, ea2⟩ : ∃ x, 4 * p = x := ⟨_, rfl⟩
  obtain ⟨a3, ea3⟩ : ∃ x, a1 + a2 = x := ⟨_, rfl⟩
  obtain ⟨T, eT⟩ : ∃ T, a3 + 4 = T := ⟨_, rfl⟩
  have q1 : 8 * (N : Int) = (a1 : Int) := by omega
  have q2 : 4 * (p : Int) = (a2 : Int) := by omega
  have q3 : (a1 : Int) + (a2 : Int) = (a3 : Int) := by omega
  have q4 : (a3 : Int) + 4 = (T : Int) := by omega
  have b1 : a1 ≤ 9000000000000000000 := by omega
  have b2 : a2 ≤ 9000000000000000000 := by omega
  have b3 : a3 ≤ 9000000000000000000 := by omega
  have b4 : T ≤ 9000000000000000000 := by omega
  rw [ea1, ea2, ea3, eT]
  have v1 : wrap64 (8 * (N : Int)) = (a1 : Int) := w64n q1 b1
  have v2 : wrap64 (4 * (p : Int)) = (a2 : Int) := w64n q2 b2
  have v3 : wrap64 ((a1 : Int) + (a2 : Int)) = (a3 : Int) := w64n q3 b3
  have v4 : wrap64 ((a3 : Int) + 4) = (T : Int) := w64n q4 b4
  have v5 : IntKind.i64.wrap (8 * (N : Int)) = (a1 : Int) := win q1 b1
  have v6 : IntKind.i64.wrap (4 * (p : Int)) = (a2 : Int) := win q2 b2
  have v7 : IntKind.i64.wrap ((a1 : Int) + (a2 : Int)) = (a3 : Int) := win q3 b3
  have v8 : IntKind.i64.wrap ((a3 : Int) + 4) = (T : Int) := win q4 b4
  obtain ⟨r0, er0⟩ : ∃ x, r 0 = x := ⟨_, rfl⟩
  obtain ⟨r1, er1⟩ : ∃ x, r 1 = x := ⟨_, rfl⟩
  obtain ⟨r2, er2⟩ : ∃ x, r 2 = x := ⟨_, rfl⟩
  obtain ⟨r3, er3⟩ : ∃ x, r 3 = x := ⟨_, rfl⟩
  have e9 : hvv W H D A sw sh r (N : Int) (p : Int) ln = .agg #[.int .i64 W, .int .i64 H, .int .i64 D, .bool A, .int .i64 sw, .int .i64 sh, .int .i64 r0, .int .i64 r1, .int .i64 r2, .int .i64 r3, .int .i64 (N : Int), .int .i64 (p : Int), .int .i64 ln] := by unfold hvv; rw [er0, er1, er2, er3]
  rw [e9] at C1 ⊢
  obtain ⟨w1, e1⟩ : ∃ w1, w.alloc (.cells #[.int .i64 W, .int .i64 H, .int .i64 D, .bool A, .int .i64 sw, .int .i64 sh, .int .i64 r0, .int .i64 r1, .int .i64 r2, .int .i64 r3, .int .i64 (N : Int), .int .i64 (p : Int), .int .i64 ln] 28 (0, 0)) = w1 := ⟨_, rfl⟩
  obtain ⟨B, eB⟩ : ∃ B, w.heap.size = B := ⟨_, rfl⟩
  have K1 : Hid (Kept [] w w1) := Hid.mk (by rw [← e1]; exact (Kept.refl [] w).alloc _)
  have HB1 := Hid.mk (show w1.heap[B]? = some (.cells #[.int .i64 W, .int .i64 H, .int .i64 D, .bool A, .int .i64 sw, .int .i64 sh, .int .i64 r0, .int .i64 r1, .int .i64 r2, .int .i64 r3, .int .i64 (N : Int), .int .i64 (p : Int), .int .i64 ln] 28 (0, 0)) by rw [← e1, ← eB]; exact heap_alloc_new _ _)
  obtain ⟨h0, h1, h2, h3, h4, h5, h6, h7, h8, h9, h10, h11, h12⟩ := cel13 HB1.out
  clear hR er0 er1 er2 er3 e9 ea1 ea2 ea3 eT q1 q2 q3 q4 b1 b2 b3 b4 hN hp
  go_enter Tryz.func11, Tryz.ntmps11
  go_wp2_with (fail)
  clear e1 eB
  refine (C1.out _).mono ?_
  rintro e w2 ⟨rfl, k2⟩
  have K2 := Hid.mk k2
  clear h0 h1 h2 h3 h4 h5 h6 h7 h8 h9 h10 h11 h12
  obtain ⟨h0, h1, h2, h3, h4, h5, h6, h7, h8, h9, h10, h11, h12⟩ := cel13 (k2.heap HB1.out (by simp))
  clear k2
  go_wp2
  go_ret
  exact ⟨rfl, K1.out.trans K2.out⟩

/-- TableSize of any head, both sides: one number. -/
theorem ts_both (W H D : Int) (A : Bool) (sw sh : Int) (r : Nat → Int) (N p ln : Int) (s0 : -9223372036854775808 ≤ sw) (s1 : sw ≤ 9223372036854775807) :
    ∃ T : Int, (∀ w, Calls Tryz.prog 10 #[hvv W H D A sw sh r N p ln] w fun e w' => e = .returned (.int .i64 T) ∧ Kept [] w w') ∧ (∀ w, Calls Tryz.prog 11 #[hvv W H D A sw sh r N p ln] w fun e w' => e = .returned (.int .i64 T) ∧ Kept [] w w') := by
  cases hR : rgt W H D A sw sh r N p ln with
  | false => exact ⟨0, fun w => pts_no W H D A sw sh r N p ln w s0 s1 hR, fun w => rts_no W H D A sw sh r N p ln w hR⟩
  | true =>
    obtain ⟨n, q, rfl, rfl, hn, hq⟩ := rgt_num hR
    exact ⟨_, fun w => tsize_ok W H D A sw sh r n q ln w s0 s1 hR hn hq, fun w => rts_yes W H D A sw sh r n q ln w hR hn hq⟩

set_option maxHeartbeats 8000000 in
set_option maxRecDepth 1000000 in
theorem ppin_no (W H D : Int) (A : Bool) (sw sh : Int) (r : Nat → Int) (N p ln : Int) (w : World) (s0 : -9223372036854775808 ≤ sw) (s1 : sw ≤ 9223372036854775807) (hR : rgt W H D A sw sh r N p ln = false) :
    Calls Tryz.prog 12 #[hvv W H D A sw sh r N p ln] w fun e w' => e = .returned (cfv 0 0 none 0 0 0 0) ∧ Kept [] w w' := by
  have C1 := Hid.mk (fun u => pright_any W H D A sw sh r N p ln u s0 s1)
  rw [hR] at C1
  obtain ⟨r0, er0⟩ : ∃ x, r 0 = x := ⟨_, rfl⟩
  obtain ⟨r1, er1⟩ : ∃ x, r 1 = x := ⟨_, rfl⟩
  obtain ⟨r2, er2⟩ : ∃ x, r 2 = x := ⟨_, rfl⟩
  obtain ⟨r3, er3⟩ : ∃ x, r 3 = x := ⟨_, rfl⟩
  have e9 : hvv W H D A sw sh r N p ln = .agg #[.int .i64 W, .int .i64 H, .int .i64 D, .bool A, .int .i64 sw, .int .i64 sh, .int .i64 r0, .int .i64 r1, .int .i64 r2, .int .i64 r3, .int .i64 N, .int .i64 p, .int .i64 ln] := by unfold hvv; rw [er0, er1, er2, er3]
  rw [e9] at C1 ⊢
  obtain ⟨w1, e1⟩ : ∃ w1, w.alloc (.cells #[.int .i64 W, .int .i64 H, .int .i64 D, .bool A, .int .i64 sw, .int .i64 sh, .int .i64 r0, .int .i64 r1, .int .i64 r2, .int .i64 r3, .int .i64 N, .int .i64 p, .int .i64 ln] 28 (0, 0)) = w1 := ⟨_, rfl⟩
  obtain ⟨B, eB⟩ : ∃ B, w.heap.size = B := ⟨_, rfl⟩
  have K1 : Hid (Kept [] w w1) := Hid.mk (by rw [← e1]; exact (Kept.refl [] w).alloc _)
  have HB1 := Hid.mk (show w1.heap[B]? = some (.cells #[.int .i64 W, .int .i64 H, .int .i64 D, .bool A, .int .i64 sw, .int .i64 sh, .int .i64 r0, .int .i64 r1, .int .i64 r2, .int .i64 r3, .int .i64 N, .int .i64 p, .int .i64 ln] 28 (0, 0)) by rw [← e1, ← eB]; exact heap_alloc_new _ _)
  obtain ⟨w2, e2⟩ : ∃ w2, w1.alloc (.cells #[.int .i64 0, .int .i64 0, .slice none 0 0, .int .i64 0, .int .i64 0] 38 (0, 0)) = w2 := ⟨_, rfl⟩
  have k2 : Kept [] w1 w2 := by rw [← e2]; exact (Kept.refl [] w1).alloc _
  have z1 : w1.heap.size = B + 1 := by rw [← e1, ← eB]; exact Array.size_push _
  have HB2 := Hid.mk (k2.heap HB1.out (by simp))
  have HR2 := Hid.mk (show w2.heap[B + 1]? = some (.cells #[.int .i64 0, .int .i64 0, .slice none 0 0, .int .i64 0, .int .i64 0] 38 (0, 0)) by rw [← e2, ← z1]; exact heap_alloc_new _ _)
  have K2 := Hid.mk (K1.out.trans k2)
  have HEB := Hid.mk eB
  obtain ⟨h0, h1, h2, h3, h4, h5, h6, h7, h8, h9, h10, h11, h12⟩ := cel13 HB2.out
  clear hR er0 er1 er2 er3 e9 s0 s1 k2
  go_enter Tryz.func12, Tryz.ntmps12
  go_wp2_with (fail)
  clear e1 eB e2 z1
  refine (C1.out _).mono ?_
  rintro e w3 ⟨rfl, k3⟩
  have K3 := Hid.mk k3
  clear h0 h1 h2 h3 h4 h5 h6 h7 h8 h9 h10 h11 h12
  have HR3 := Hid.mk (k3.heap HR2.out (by simp))
  obtain ⟨h0, h1, h2, h3, h4, h5, h6, h7, h8, h9, h10, h11, h12⟩ := cel13 (k3.heap HB2.out (by simp))
  clear k3
  obtain ⟨z0, z1, z2, z3, z4⟩ := cel5 HR3.out
  have zz := row_fz HR3.out
  have S9 := Hid.mk (setAll_row [.int .i64 0, .int .i64 0, .slice none 0 0, .int .i64 0, .int .i64 0] 0 w3 [] _ HR3.out rfl rfl)
  simp only [setAll] at S9
  go_wp2
  refine bodyPost_ret (v := cfv 0 0 none 0 0 0 0) ?_ rfl ⟨rfl, ?_⟩
  · exact results_cell_row rfl _ _ (B + 1) 38 _ (0, 0) _ rfl S9.out.1 Tryz.underlying38 rfl Tryz.infoCn
  · exact (K2.out.trans K3.out).step S9.out.2 (fun x hx => by simp at hx; subst hx; exact .inr (by rw [HEB.out]; exact Nat.le_succ _))

set_option maxHeartbeats 8000000 in
set_option maxRecDepth 1000000 in
theorem ppin_yes (W H D : Int) (A : Bool) (sw sh : Int) (r : Nat → Int) (N p ln : Int) (w : World) (s0 : -9223372036854775808 ≤ sw) (s1 : sw ≤ 9223372036854775807) (hR : rgt W H D A sw sh r N p ln = true) :
    Calls Tryz.prog 12 #[hvv W H D A sw sh r N p ln] w fun e w' => ∃ G, e = .returned (cfv sw sh (some ⟨G, 0, none⟩) 1 1 0 p) ∧ w.heap.size ≤ G ∧ w'.heap[G]? = some (.cells #[.int .i64 (r 0), .int .i64 (r 1), .int .i64 (r 2), .int .i64 (r 3)] 26 (0, 0)) ∧ Kept [] w w' := by
  have C1 := Hid.mk (fun u => pright_any W H D A sw sh r N p ln u s0 s1)
  rw [hR] at C1
  obtain ⟨r0, er0⟩ : ∃ x, r 0 = x := ⟨_, rfl⟩
  obtain ⟨r1, er1⟩ : ∃ x, r 1 = x := ⟨_, rfl⟩
  obtain ⟨r2, er2⟩ : ∃ x, r 2 = x := ⟨_, rfl⟩
  obtain ⟨r3, er3⟩ : ∃ x, r 3 = x := ⟨_, rfl⟩
  have e9 : hvv W H D A sw sh r N p ln = .agg #[.int .i64 W, .int .i64 H, .int .i64 D, .bool A, .int .i64 sw, .int .i64 sh, .int .i64 r0, .int .i64 r1, .int .i64 r2, .int .i64 r3, .int .i64 N, .int .i64 p, .int .i64 ln] := by unfold hvv; rw [er0, er1, er2, er3]
  rw [e9] at C1 ⊢
  obtain ⟨w1, e1⟩ : ∃ w1, w.alloc (.cells #[.int .i64 W, .int .i64 H, .int .i64 D, .bool A, .int .i64 sw, .int .i64 sh, .int .i64 r0, .int .i64 r1, .int .i64 r2, .int .i64 r3, .int .i64 N, .int .i64 p, .int .i64 ln] 28 (0, 0)) = w1 := ⟨_, rfl⟩
  obtain ⟨B, eB⟩ : ∃ B, w.heap.size = B := ⟨_, rfl⟩
  have K1 : Hid (Kept [] w w1) := Hid.mk (by rw [← e1]; exact (Kept.refl [] w).alloc _)
  have HB1 := Hid.mk (show w1.heap[B]? = some (.cells #[.int .i64 W, .int .i64 H, .int .i64 D, .bool A, .int .i64 sw, .int .i64 sh, .int .i64 r0, .int .i64 r1, .int .i64 r2, .int .i64 r3, .int .i64 N, .int .i64 p, .int .i64 ln] 28 (0, 0)) by rw [← e1, ← eB]; exact heap_alloc_new _ _)
  rw [er0, er1, er2, er3]
  obtain ⟨w2, e2⟩ : ∃ w2, w1.alloc (.cells #[.int .i64 0, .int .i64 0, .slice none 0 0, .int .i64 0, .int .i64 0] 38 (0, 0)) = w2 := ⟨_, rfl⟩
  have k2 : Kept [] w1 w2 := by rw [← e2]; exact (Kept.refl [] w1).alloc _
  have z1 : w1.heap.size = B + 1 := by rw [← e1, ← eB]; exact Array.size_push _
  have HB2 := Hid.mk (k2.heap HB1.out (by simp))
  have HR2 := Hid.mk (show w2.heap[B + 1]? = some (.cells #[.int .i64 0, .int .i64 0, .slice none 0 0, .int .i64 0, .int .i64 0] 38 (0, 0)) by rw [← e2, ← z1]; exact heap_alloc_new _ _)
  have K2 := Hid.mk (K1.out.trans k2)
  have HEB := Hid.mk eB
  obtain ⟨h0, h1, h2, h3, h4, h5, h6, h7, h8, h9, h10, h11, h12⟩ := cel13 HB2.out
  clear hR er0 er1 er2 er3 e9 s0 s1 k2
  go_enter Tryz.func12, Tryz.ntmps12
  go_wp2_with (fail)
  clear e1 eB e2 z1
  refine (C1.out _).mono ?_
  rintro e w3 ⟨rfl, k3⟩
  have K3 := Hid.mk k3
  clear h0 h1 h2 h3 h4 h5 h6 h7 h8 h9 h10 h11 h12
  have HR3 := Hid.mk (k3.heap HR2.out (by simp))
  obtain ⟨h0, h1, h2, h3, h4, h5, h6, h7, h8, h9, h10, h11, h12⟩ := cel13 (k3.heap HB2.out (by simp))
  clear k3
  obtain ⟨w4, e4⟩ : ∃ w4, w3.alloc (.cells #[.int .i64 r0, .int .i64 r1, .int .i64 r2, .int .i64 r3] 26 (0, 0)) = w4 := ⟨_, rfl⟩
  obtain ⟨G, eG⟩ : ∃ G, w3.heap.size = G := ⟨_, rfl⟩
  have k4 : Kept [] w3 w4 := by rw [← e4]; exact (Kept.refl [] w3).alloc _
  have HR4 := Hid.mk (k4.heap HR3.out (by simp))
  have HG4 := Hid.mk (show w4.heap[G]? = some (.cells #[.int .i64 r0, .int .i64 r1, .int .i64 r2, .int .i64 r3] 26 (0, 0)) by rw [← e4, ← eG]; exact heap_alloc_new _ _)
  have HGB : Hid (B + 1 < G) := Hid.mk (by rw [← eG]; exact lt_of_block HR3.out)
  have K4 := Hid.mk k4
  obtain ⟨y0, y1, y2, y3, y4, y5, y6, y7, y8, y9, y10, y11, y12⟩ := cel13 (k4.heap (K3.out.heap HB2.out (by simp)) (by simp))
  obtain ⟨z0, z1, z2, z3, z4⟩ := cel5 HR4.out
  have zz := row_fz HR4.out
  have S9 := Hid.mk (setAll_row [.int .i64 sw, .int .i64 sh, .slice (some ⟨G, 0, none⟩) 1 1, .int .i64 0, .int .i64 p] 0 w4 [] _ HR4.out rfl rfl)
  simp only [setAll] at S9
  have EG := Hid.mk eG
  clear k4
  go_wp2
  refine bodyPost_ret (v := cfv sw sh (some ⟨G, 0, none⟩) 1 1 0 p) ?_ rfl ⟨G, rfl, ?_, ?_, ?_⟩
  · exact results_cell_row rfl _ _ (B + 1) 38 _ (0, 0) _ rfl S9.out.1 Tryz.underlying38 rfl Tryz.infoCn
  · rw [HEB.out]; have := HGB.out; omega
  · exact S9.out.2.heap HG4.out (by have := HGB.out; simp; omega)
  · exact ((K2.out.trans K3.out).trans K4.out).step S9.out.2 (fun x hx => by simp at hx; subst hx; exact .inr (by rw [HEB.out]; exact Nat.le_succ _))

set_option maxHeartbeats 8000000 in
set_option maxRecDepth 1000000 in
theorem rpin_no (W H D : Int) (A : Bool) (sw sh : Int) (r : Nat → Int) (N p ln : Int) (w : World) (hR : rgt W H D A sw sh r N p ln = false) :
    Calls Tryz.prog 13 #[hvv W H D A sw sh r N p ln] w fun e w' => e = .returned (cfv 0 0 none 0 0 0 0) ∧ Kept [] w w' := by
  have C1 := Hid.mk (fun u => rRight_any W H D A sw sh r N p ln u)
  rw [hR] at C1
  obtain ⟨r0, er0⟩ : ∃ x, r 0 = x := ⟨_, rfl⟩
  obtain ⟨r1, er1⟩ : ∃ x, r 1 = x := ⟨_, rfl⟩
  obtain ⟨r2, er2⟩ : ∃ x, r 2 = x := ⟨_, rfl⟩
  obtain ⟨r3, er3⟩ : ∃ x, r 3 = x := ⟨_, rfl⟩
  have e9 : hvv W H D A sw sh r N p ln = .agg #[.int .i64 W, .int .i64 H, .int .i64 D, .bool A, .int .i64 sw, .int .i64 sh, .int .i64 r0, .int .i64 r1, .int .i64 r2, .int .i64 r3, .int .i64 N, .int .i64 p, .int .i64 ln] := by unfold hvv; rw [er0, er1, er2, er3]
  rw [e9] at C1 ⊢
  obtain ⟨w1, e1⟩ : ∃ w1, w.alloc (.cells #[.int .i64 W, .int .i64 H, .int .i64 D, .bool A, .int .i64 sw, .int .i64 sh, .int .i64 r0, .int .i64 r1, .int .i64 r2, .int .i64 r3, .int .i64 N, .int .i64 p, .int .i64 ln] 28 (0, 0)) = w1 := ⟨_, rfl⟩
  obtain ⟨B, eB⟩ : ∃ B, w.heap.size = B := ⟨_, rfl⟩
  have K1 : Hid (Kept [] w w1) := Hid.mk (by rw [← e1]; exact (Kept.refl [] w).alloc _)
  have HB1 := Hid.mk (show w1.heap[B]? = some (.cells #[.int .i64 W, .int .i64 H, .int .i64 D, .bool A, .int .i64 sw, .int .i64 sh, .int .i64 r0, .int .i64 r1, .int .i64 r2, .int .i64 r3, .int .i64 N, .int .i64 p, .int .i64 ln] 28 (0, 0)) by rw [← e1, ← eB]; exact heap_alloc_new _ _)
  obtain ⟨w2, e2⟩ : ∃ w2, w1.alloc (.cells #[.int .i64 0, .int .i64 0, .slice none 0 0, .int .i64 0, .int .i64 0] 38 (0, 0)) = w2 := ⟨_, rfl⟩
  have k2 : Kept [] w1 w2 := by rw [← e2]; exact (Kept.refl [] w1).alloc _
  have z1 : w1.heap.size = B + 1 := by rw [← e1, ← eB]; exact Array.size_push _
  have HB2 := Hid.mk (k2.heap HB1.out (by simp))
  have HR2 := Hid.mk (show w2.heap[B + 1]? = some (.cells #[.int .i64 0, .int .i64 0, .slice none 0 0, .int .i64 0, .int .i64 0] 38 (0, 0)) by rw [← e2, ← z1]; exact heap_alloc_new _ _)
  have K2 := Hid.mk (K1.out.trans k2)
  have HEB := Hid.mk eB
  obtain ⟨h0, h1, h2, h3, h4, h5, h6, h7, h8, h9, h10, h11, h12⟩ := cel13 HB2.out
  clear hR er0 er1 er2 er3 e9 k2
  go_enter Tryz.func13, Tryz.ntmps13
  go_wp2_with (fail)
  clear e1 eB e2 z1
  refine (C1.out _).mono ?_
  rintro e w3 ⟨rfl, k3⟩
  have K3 := Hid.mk k3
  clear h0 h1 h2 h3 h4 h5 h6 h7 h8 h9 h10 h11 h12
  have HR3 := Hid.mk (k3.heap HR2.out (by simp))
  obtain ⟨h0, h1, h2, h3, h4, h5, h6, h7, h8, h9, h10, h11, h12⟩ := cel13 (k3.heap HB2.out (by simp))
  clear k3
  obtain ⟨z0, z1, z2, z3, z4⟩ := cel5 HR3.out
  have zz := row_fz HR3.out
  have S9 := Hid.mk (setAll_row [.int .i64 0, .int .i64 0, .slice none 0 0, .int .i64 0, .int .i64 0] 0 w3 [] _ HR3.out rfl rfl)
  simp only [setAll] at S9
  go_wp2
  refine bodyPost_ret (v := cfv 0 0 none 0 0 0 0) ?_ rfl ⟨rfl, ?_⟩
  · exact results_cell_row rfl _ _ (B + 1) 38 _ (0, 0) _ rfl S9.out.1 Tryz.underlying38 rfl Tryz.infoCn
  · exact (K2.out.trans K3.out).step S9.out.2 (fun x hx => by simp at hx; subst hx; exact .inr (by rw [HEB.out]; exact Nat.le_succ _))

set_option maxHeartbeats 8000000 in
set_option maxRecDepth 1000000 in
theorem rpin_yes (W H D : Int) (A : Bool) (sw sh : Int) (r : Nat → Int) (N p ln : Int) (w : World) (hR : rgt W H D A sw sh r N p ln = true) :
    Calls Tryz.prog 13 #[hvv W H D A sw sh r N p ln] w fun e w' => ∃ G, e = .returned (cfv sw sh (some ⟨G, 0, none⟩) 1 1 0 p) ∧ w.heap.size ≤ G ∧ w'.heap[G]? = some (.cells #[.int .i64 (r 0), .int .i64 (r 1), .int .i64 (r 2), .int .i64 (r 3)] 26 (0, 0)) ∧ Kept [] w w' := by
  have C1 := Hid.mk (fun u => rRight_any W H D A sw sh r N p ln u)
  rw [hR] at C1
  obtain ⟨r0, er0⟩ : ∃ x, r 0 = x := ⟨_, rfl⟩
  obtain ⟨r1, er1⟩ : ∃ x, r 1 = x := ⟨_, rfl⟩
  obtain ⟨r2, er2⟩ : ∃ x, r 2 = x := ⟨_, rfl⟩
  obtain ⟨r3, er3⟩ : ∃ x, r 3 = x := ⟨_, rfl⟩
  have e9 : hvv W H D A sw sh r N p ln = .agg #[.int .i64 W, .int .i64 H, .int .i64 D, .bool A, .int .i64 sw, .int .i64 sh, .int .i64 r0, .int .i64 r1, .int .i64 r2, .int .i64 r3, .int .i64 N, .int .i64 p, .int .i64 ln] := by unfold hvv; rw [er0, er1, er2, er3]
  rw [e9] at C1 ⊢
  obtain ⟨w1, e1⟩ : ∃ w1, w.alloc (.cells #[.int .i64 W, .int .i64 H, .int .i64 D, .bool A, .int .i64 sw, .int .i64 sh, .int .i64 r0, .int .i64 r1, .int .i64 r2, .int .i64 r3, .int .i64 N, .int .i64 p, .int .i64 ln] 28 (0, 0)) = w1 := ⟨_, rfl⟩
  obtain ⟨B, eB⟩ : ∃ B, w.heap.size = B := ⟨_, rfl⟩
  have K1 : Hid (Kept [] w w1) := Hid.mk (by rw [← e1]; exact (Kept.refl [] w).alloc _)
  have HB1 := Hid.mk (show w1.heap[B]? = some (.cells #[.int .i64 W, .int .i64 H, .int .i64 D, .bool A, .int .i64 sw, .int .i64 sh, .int .i64 r0, .int .i64 r1, .int .i64 r2, .int .i64 r3, .int .i64 N, .int .i64 p, .int .i64 ln] 28 (0, 0)) by rw [← e1, ← eB]; exact heap_alloc_new _ _)
  rw [er0, er1, er2, er3]
  obtain ⟨w2, e2⟩ : ∃ w2, w1.alloc (.cells #[.int .i64 0, .int .i64 0, .slice none 0 0, .int .i64 0, .int .i64 0] 38 (0, 0)) = w2 := ⟨_, rfl⟩
  have k2 : Kept [] w1 w2 := by rw [← e2]; exact (Kept.refl [] w1).alloc _
  have z1 : w1.heap.size = B + 1 := by rw [← e1, ← eB]; exact Array.size_push _
  have HB2 := Hid.mk (k2.heap HB1.out (by simp))
  have HR2 := Hid.mk (show w2.heap[B + 1]? = some (.cells #[.int .i64 0, .int .i64 0, .slice none 0 0, .int .i64 0, .int .i64 0] 38 (0, 0)) by rw [← e2, ← z1]; exact heap_alloc_new _ _)
  have K2 := Hid.mk (K1.out.trans k2)
  have HEB := Hid.mk eB
  obtain ⟨h0, h1, h2, h3, h4, h5, h6, h7, h8, h9, h10, h11, h12⟩ := cel13 HB2.out
  clear hR er0 er1 er2 er3 e9 k2
  go_enter Tryz.func13, Tryz.ntmps13
  go_wp2_with (fail)
  clear e1 eB e2 z1
  refine (C1.out _).mono ?_
  rintro e w3 ⟨rfl, k3⟩
  have K3 := Hid.mk k3
  clear h0 h1 h2 h3 h4 h5 h6 h7 h8 h9 h10 h11 h12
  have HR3 := Hid.mk (k3.heap HR2.out (by simp))
  obtain ⟨h0, h1, h2, h3, h4, h5, h6, h7, h8, h9, h10, h11, h12⟩ := cel13 (k3.heap HB2.out (by simp))
  clear k3
  obtain ⟨w4, e4⟩ : ∃ w4, w3.alloc (.cells #[.int .i64 r0, .int .i64 r1, .int .i64 r2, .int .i64 r3] 26 (0, 0)) = w4 := ⟨_, rfl⟩
  obtain ⟨G, eG⟩ : ∃ G, w3.heap.size = G := ⟨_, rfl⟩
  have k4 : Kept [] w3 w4 := by rw [← e4]; exact (Kept.refl [] w3).alloc _
  have HR4 := Hid.mk (k4.heap HR3.out (by simp))
  have HG4 := Hid.mk (show w4.heap[G]? = some (.cells #[.int .i64 r0, .int .i64 r1, .int .i64 r2, .int .i64 r3] 26 (0, 0)) by rw [← e4, ← eG]; exact heap_alloc_new _ _)
  have HGB : Hid (B + 1 < G) := Hid.mk (by rw [← eG]; exact lt_of_block HR3.out)
  have K4 := Hid.mk k4
  obtain ⟨y0, y1, y2, y3, y4, y5, y6, y7, y8, y9, y10, y11, y12⟩ := cel13 (k4.heap (K3.out.heap HB2.out (by simp)) (by simp))
  obtain ⟨z0, z1, z2, z3, z4⟩ := cel5 HR4.out
  have zz := row_fz HR4.out
  have S9 := Hid.mk (setAll_row [.int .i64 sw, .int .i64 sh, .slice (some ⟨G, 0, none⟩) 1 1, .int .i64 0, .int .i64 p] 0 w4 [] _ HR4.out rfl rfl)
  simp only [setAll] at S9
  have EG := Hid.mk eG
  clear k4
  go_wp2
  refine bodyPost_ret (v := cfv sw sh (some ⟨G, 0, none⟩) 1 1 0 p) ?_ rfl ⟨G, rfl, ?_, ?_, ?_⟩
  · exact results_cell_row rfl _ _ (B + 1) 38 _ (0, 0) _ rfl S9.out.1 Tryz.underlying38 rfl Tryz.infoCn
  · rw [HEB.out]; have := HGB.out; omega
  · exact S9.out.2.heap HG4.out (by have := HGB.out; simp; omega)
  · exact ((K2.out.trans K3.out).trans K4.out).step S9.out.2 (fun x hx => by simp at hx; subst hx; exact .inr (by rw [HEB.out]; exact Nat.le_succ _))

set_option maxHeartbeats 8000000 in
set_option maxRecDepth 1000000 in
theorem sameConfig_any (x y : Int) (lo lo' : Option Addr) (n c c' : Nat) (L : Nat → Nat → Int) (cap p : Int) (w : World) (hL : Ldr w lo n L) (hL' : Ldr w lo' n L) (hn : n ≤ 4398046511104) :
    Calls Tryz.prog 14 #[cfv x y lo n c cap p, cfv x y lo' n c' cap p] w fun e w' => e = .returned (.bool true) ∧ Kept [] w w' := by
  obtain ⟨w1, e1⟩ : ∃ w1, w.alloc (.cells #[.int .i64 x, .int .i64 y, .slice lo n c, .int .i64 cap, .int .i64 p] 38 (0, 0)) = w1 := ⟨_, rfl⟩
  obtain ⟨w2, e2⟩ : ∃ w2, w1.alloc (.cells #[.int .i64 x, .int .i64 y, .slice lo' n c', .int .i64 cap, .int .i64 p] 38 (0, 0)) = w2 := ⟨_, rfl⟩
  obtain ⟨B, eB⟩ : ∃ B, w.heap.size = B := ⟨_, rfl⟩
  have z1 : w1.heap.size = B + 1 := by rw [← e1, ← eB]; exact Array.size_push _
  have k1 : Kept [] w w1 := by rw [← e1]; exact (Kept.refl [] w).alloc _
  have k2 : Kept [] w1 w2 := by rw [← e2]; exact (Kept.refl [] w1).alloc _
  have HC := Hid.mk (k2.heap (show w1.heap[B]? = some (.cells #[.int .i64 x, .int .i64 y, .slice lo n c, .int .i64 cap, .int .i64 p] 38 (0, 0)) by rw [← e1, ← eB]; exact heap_alloc_new _ _) (by simp))
  have HD := Hid.mk (show w2.heap[B + 1]? = some (.cells #[.int .i64 x, .int .i64 y, .slice lo' n c', .int .i64 cap, .int .i64 p] 38 (0, 0)) by rw [← e2, ← z1]; exact heap_alloc_new _ _)
  have K2 := Hid.mk (k1.trans k2)
  have HL := Hid.mk (hL.keep K2.out)
  have HL' := Hid.mk (hL'.keep K2.out)
  obtain ⟨a0, a1, a2, a3, a4⟩ := cel5 HC.out
  obtain ⟨b0, b1, b2, b3, b4⟩ := cel5 HD.out
  clear hL hL' k1 k2
  go_enter Tryz.func14, Tryz.ntmps14
  go_wp2
  clear e1 e2 eB z1 a0 a1 a2 a3 a4 b0 b1 b2 b3 b4
  go_loopw [5] (fun i wr => ∃ k : Nat, k ≤ n ∧ i = .int .i64 (k : Int) ∧ Hid (Kept [] w2 wr)) (fun i _ => n - (intOf i).toNat)
  case atStart => exact ⟨0, Nat.zero_le _, rfl, Hid.mk (Kept.refl _ _)⟩
  case round =>
    obtain ⟨k, hk, rfl, HI⟩ := hrel
    obtain ⟨a0, a1, a2, a3, a4⟩ := cel5 (HI.out.heap HC.out (by simp))
    obtain ⟨b0, b1, b2, b3, b4⟩ := cel5 (HI.out.heap HD.out (by simp))
    by_cases hlt : k < n
    · have ik : (k : Int) < (n : Int) := by omega
      obtain ⟨g, off, rfl, l0, l1, l2, l3⟩ := (HL.out.keep HI.out).at hlt
      obtain ⟨g', off', rfl, m0, m1, m2, m3⟩ := (HL'.out.keep HI.out).at hlt
      have hr := fun u => rung_eql (L k 0) (L k 1) (L k 2) (L k 3) u
      have HKI := Hid.mk HI.out
      clear HI HC HD HL HL'
      go_wp2_with (fail)
      go_quiet (fail)
      clear a0 a1 a2 a3 a4 b0 b1 b2 b3 b4 l0 l1 l2 l3 m0 m1 m2 m3 hr
      go_wp2
      go_roundw
      case rel => exact ⟨k + 1, by omega, by go_num, Hid.mk (HKI.out.drewN _)⟩
      case measure => simp [intOf]; omega
    · obtain rfl : n = k := by omega
      clear hlt hk
      go_wp2
      go_ret
      exact ⟨rfl, K2.out.trans HI.out⟩
end Go.Proofs.YtiganmmacmhndaaGreatDoor.Pc
