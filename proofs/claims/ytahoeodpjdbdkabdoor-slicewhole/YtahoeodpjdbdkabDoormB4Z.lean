import Derived.Test.YtahoeodpjdbdkabDoormB3
namespace Go.Proofs.YtahoeodpjdbdkabDoor
open Go.RowKit

set_option maxHeartbeats 8000000 in
set_option maxRecDepth 1000000 in
theorem new1023 (d : Int) (w : World) (d0 : 0 ≤ d) (d1 : d ≤ 63) : Calls Tryd.prog 16 #[.int .i64 10, .int .i64 d] w fun e w' => ∃ P, e = .returned (.tuple #[.pointer (some ⟨P, 0, none⟩), .int .i64 0]) ∧ Md w' P 1023 d (fun _ => sx0 1023 d) ∧ w.heap.size ≤ P ∧ Kept [] w w' := by
  have E := Hid.mk (fun w => edges_any 10 1023 d w (by omega) d0 d1)
  have hs : z67.size = 1467 := by simp
  have hz : ∀ w, (zeroValue 81).run Tryd.prog w = .ok (.agg z67) w := zero67
  have hv : Hid (∀ i, i < 1467 → z67[i]? = some (.int .i64 0)) := Hid.mk (fun i hi => by simp [hi])
  have hne : ¬ z67 = #[] := by intro h; rw [h] at hs; simp at hs
  generalize z67 = Z at *
  have q1 : IntKind.i64.wrap (2 * d) = 2 * d := wrap_i (by omega) (by omega)
  have q2 : IntKind.i64.wrap (2 * d + 1) = 2 * d + 1 := wrap_i (by omega) (by omega)
  have q3 : IntKind.i64.wrap 1024 = 1024 := wrap_i (by omega) (by omega)
  have q4 : IntKind.i64.wrap 1023 = 1023 := wrap_i (by omega) (by omega)
  have q5 : IntKind.i64.wrap (1024 - 1) = 1023 := wrap_i (by omega) (by omega)
  have G : Gd 1023 d := ⟨by omega, d0, d1⟩
  have hR := rg_pos 1023 d G
  have HR : Hid (Hid (rg 1023 d = (1023 + 2 * d) / (2 * d + 1) + 1)) := Hid.mk (Hid.mk rfl)
  have q6 : IntKind.i64.wrap (1023 + 2 * d) = 1023 + 2 * d := wrap_i (by omega) (by omega)
  have q7 : IntKind.i64.wrap ((1023 + 2 * d).tdiv (2 * d + 1)) = rg 1023 d - 1 := by
    rw [Int.tdiv_eq_ediv_of_nonneg (by omega)]
    have := HR.out.out
    rw [show (1023 + 2 * d) / (2 * d + 1) = rg 1023 d - 1 by omega]
    exact wrap_i (by omega) (by omega)
  have q8 : IntKind.i64.wrap (rg 1023 d) = rg 1023 d := wrap_i (by omega) (by omega)
  have q9 : 2 * d + 1 ≠ 0 := by omega
  have HS : Hid (sx0 1023 d = ⟨max ((rg 1023 d + 32) / 64) 2, 0, 0, 1⟩) := Hid.mk rfl
  have U := Hid.mk (fun w => unlearnt_any (rg 1023 d) w (by omega) (by omega))
  have HG := Hid.mk G
  have HM : Hid (∀ w P cs, Arr cs 365 1023 d (2 * d + 1) (rg 1023 d) (e1 1023 d) (e2 1023 d) (e3 1023 d) (max ((rg 1023 d + 32) / 64) 2) → w.heap[P]? = some (.cells cs 81 (0, 0)) → Md w P 1023 d (fun _ => sx0 1023 d)) := Hid.mk (fun w P cs h hb => h.md hb G)
  rw [HS.out] at HM
  generalize rg 1023 d = R at hR q7 q8 HS U HM
  generalize e1 1023 d = a1 at *
  generalize e2 1023 d = a2 at *
  generalize e3 1023 d = a3 at *
  rw [HS.out]
  generalize max ((R + 32) / 64) 2 = A at *
  clear G HR HS
  go_enter Tryd.func16, Tryd.ntmps16
  go_wp2
  go_region_with (go_at_call 28; refine (E.out _).mono ?_; rintro e w1 ⟨rfl, hk1⟩)
  obtain ⟨C, hC⟩ : ∃ C, C = (((((Z.setIfInBounds 0 (.int .i64 1023)).setIfInBounds 1 (.int .i64 d)).setIfInBounds 2 (.int .i64 (2 * d + 1))).setIfInBounds 4 (.int .i64 a1)).setIfInBounds 5 (.int .i64 a2)).setIfInBounds 6 (.int .i64 a3) := ⟨_, rfl⟩
  rw [← hC]
  have hCs : C.size = 1467 := by rw [hC]; simp [hs]
  have HC := Hid.mk hC
  clear hC
  obtain ⟨w2, hw2, k2, hb2⟩ : ∃ w2, w1.alloc (.cells C 81 (0, 0)) = w2 ∧ Kept [] w1 w2 ∧ w2.heap[w1.heap.size]? = some (.cells C 81 (0, 0)) := ⟨_, rfl, alloc_kept _ _, heap_alloc_new _ _⟩
  rw [hw2]
  clear hw2
  obtain ⟨P, hP⟩ : ∃ P, P = w1.heap.size := ⟨_, rfl⟩
  rw [← hP] at hb2 ⊢
  have HP := Hid.mk hP
  clear hP
  have z3 := hv.out 3 (by omega)
  simp [hs] at z3
  have HA : Hid (Arr (C.setIfInBounds 3 (.int .i64 R)) 0 1023 d (2 * d + 1) R a1 a2 a3 A) := Hid.mk (by
    rw [HC.out]
    refine ⟨by simp [hs], ?_, ?_, ?_, ?_, ?_, ?_, ?_, ?_, ?_, ?_, ?_⟩
    all_goals first | (intro j hj; omega) | simp [hs])
  have f3 := frozen_of_row w2 P 3 C 81 hb2
  have c0 : w2.cell? ⟨P, 0, none⟩ = some (.int .i64 1023) := by rw [cell_of_row _ _ _ _ _ _ hb2, HC.out]; simp [hs]
  have c2 : w2.cell? ⟨P, 2, none⟩ = some (.int .i64 (2 * d + 1)) := by rw [cell_of_row _ _ _ _ _ _ hb2, HC.out]; simp [hs]
  have c3 : w2.cell? ⟨P, 3, none⟩ = some (.int .i64 0) := by rw [cell_of_row _ _ _ _ _ _ hb2, HC.out]; simp [hs, z3]
  have HK : Hid (Kept [] w w2) := Hid.mk (hk1.undrew.trans k2)
  have HL : Hid (w.heap.size ≤ P) := Hid.mk (by rw [HP.out]; exact hk1.size)
  go_simp
  go_wp2
  go_region_law (fail)
  all_goals (obtain ⟨w4, hw4, HB4, HK4⟩ : ∃ w4, (w2.setCell ⟨P, 3, none⟩ (.int .i64 R)).drew = w4 ∧ Hid (w4.heap[P]? = some (.cells (C.setIfInBounds 3 (.int .i64 R)) 81 (0, 0))) ∧ Hid (Kept [] w w4) := ⟨_, rfl, Hid.mk (heap_setCell_at (w := w2) hb2), Hid.mk (HK.out.setCell (p := ⟨P, 3, none⟩) (.inr HL.out) _).drew⟩)
  all_goals (rw [hw4]; clear hw4 hb2 f3 c0 c2 c3 q1 q2 q3 q4 q5 q6 q7 q9 z3 hz hne hs hCs HC)
  all_goals
    go_wp2
    go_loopw [48] (fun i wr => ∃ k : Nat, k ≤ 365 ∧ i = .int .i64 (k : Int) ∧ ∃ cs, wr.heap[P]? = some (.cells cs 81 (0, 0)) ∧ Arr cs k 1023 d (2 * d + 1) R a1 a2 a3 A ∧ Kept [] w wr) (fun i _ => 365 - (intOf i).toNat)
    case atStart => exact ⟨0, by omega, rfl, _, HB4.out, HA.out, HK4.out⟩
    case round =>
      obtain ⟨k, hk, rfl, cs, hb, ha, hkw⟩ := hrel
      have HBk := Hid.mk hb
      have HAk := Hid.mk ha
      have HKk := Hid.mk hkw
      by_cases hlt : k < 365
      · have ix : (k : Int) < 365 := by omega
        have r3 : wr.cell? ⟨P, 3, none⟩ = some (.int .i64 R) := by rw [cell_of_row _ _ _ _ _ _ hb]; exact ha.h3
        have HZ : Hid (7 + k * 4 + 3 < cs.size) := Hid.mk (by rw [ha.size]; omega)
        clear hb ha hkw
        go_wp2
        go_region_with (go_at_call 29; refine (U.out _).mono ?_; rintro e w5 ⟨rfl, hk5⟩; have hb5 := Hid.mk (hk5.undrew.heap HBk.out (by simp)); have y0 := cell_some (i := 7 + k * 4) hb5.out (by have := HZ.out; omega); have y1 := cell_some (i := 7 + k * 4 + 1) hb5.out (by have := HZ.out; omega); have y2 := cell_some (i := 7 + k * 4 + 2) hb5.out (by have := HZ.out; omega); have y3 := cell_some (i := 7 + k * 4 + 3) hb5.out HZ.out; have f0 := frozen_of_row w5 P (7 + k * 4) cs 81 hb5.out; have f1 := frozen_of_row w5 P (7 + k * 4 + 1) cs 81 hb5.out; have f2 := frozen_of_row w5 P (7 + k * 4 + 2) cs 81 hb5.out; have f3 := frozen_of_row w5 P (7 + k * 4 + 3) cs 81 hb5.out)
        all_goals (obtain ⟨w6, hw6, HB6, HK6⟩ : ∃ w6, (((w5.setCell ⟨P, 7 + k * 4, none⟩ (.int .i64 A)).setCell ⟨P, 7 + k * 4 + 1, none⟩ (.int .i64 0)).setCell ⟨P, 7 + k * 4 + 2, none⟩ (.int .i64 0)).setCell ⟨P, 7 + k * 4 + 3, none⟩ (.int .i64 1) = w6 ∧ Hid (w6.heap[P]? = some (.cells (st4 cs (7 + k * 4) A) 81 (0, 0))) ∧ Hid (Kept [] w w6) :=
          ⟨_, rfl, Hid.mk (heap_st4 hb5.out), Hid.mk (((((HKk.out.trans hk5.undrew).setCell (p := ⟨P, 7 + k * 4, none⟩) (.inr HL.out) _).setCell (p := ⟨P, 7 + k * 4 + 1, none⟩) (.inr HL.out) _).setCell (p := ⟨P, 7 + k * 4 + 2, none⟩) (.inr HL.out) _).setCell (p := ⟨P, 7 + k * 4 + 3, none⟩) (.inr HL.out) _)⟩)
        all_goals (rw [hw6]; clear hw6 y0 y1 y2 y3 f0 f1 f2 f3; go_wp2; go_roundw)
        case rel => exact ⟨k + 1, by omega, by go_num, _, HB6.out, HAk.out.next hlt, HK6.out⟩
        case measure => simp [intOf]; omega
      · obtain rfl : k = 365 := by omega
        clear hb ha hkw
        go_wp2
        go_ret2
        exact ⟨P, rfl, HM.out _ _ _ HAk.out HBk.out, HL.out, HKk.out⟩

end Go.Proofs.YtahoeodpjdbdkabDoor

namespace Go.Proofs.YtahoeodpjdbdkabDoor
open Go.RowKit

set_option maxHeartbeats 8000000 in
set_option maxRecDepth 1000000 in
theorem new4095 (d : Int) (w : World) (d0 : 0 ≤ d) (d1 : d ≤ 63) : Calls Tryd.prog 16 #[.int .i64 12, .int .i64 d] w fun e w' => ∃ P, e = .returned (.tuple #[.pointer (some ⟨P, 0, none⟩), .int .i64 0]) ∧ Md w' P 4095 d (fun _ => sx0 4095 d) ∧ w.heap.size ≤ P ∧ Kept [] w w' := by
  have E := Hid.mk (fun w => edges_any 12 4095 d w (by omega) d0 d1)
  have hs : z67.size = 1467 := by simp
  have hz : ∀ w, (zeroValue 81).run Tryd.prog w = .ok (.agg z67) w := zero67
  have hv : Hid (∀ i, i < 1467 → z67[i]? = some (.int .i64 0)) := Hid.mk (fun i hi => by simp [hi])
  have hne : ¬ z67 = #[] := by intro h; rw [h] at hs; simp at hs
  generalize z67 = Z at *
  have q1 : IntKind.i64.wrap (2 * d) = 2 * d := wrap_i (by omega) (by omega)
  have q2 : IntKind.i64.wrap (2 * d + 1) = 2 * d + 1 := wrap_i (by omega) (by omega)
  have q3 : IntKind.i64.wrap 4096 = 4096 := wrap_i (by omega) (by omega)
  have q4 : IntKind.i64.wrap 4095 = 4095 := wrap_i (by omega) (by omega)
  have q5 : IntKind.i64.wrap (4096 - 1) = 4095 := wrap_i (by omega) (by omega)
  have G : Gd 4095 d := ⟨by omega, d0, d1⟩
  have hR := rg_pos 4095 d G
  have HR : Hid (Hid (rg 4095 d = (4095 + 2 * d) / (2 * d + 1) + 1)) := Hid.mk (Hid.mk rfl)
  have q6 : IntKind.i64.wrap (4095 + 2 * d) = 4095 + 2 * d := wrap_i (by omega) (by omega)
  have q7 : IntKind.i64.wrap ((4095 + 2 * d).tdiv (2 * d + 1)) = rg 4095 d - 1 := by
    rw [Int.tdiv_eq_ediv_of_nonneg (by omega)]
    have := HR.out.out
    rw [show (4095 + 2 * d) / (2 * d + 1) = rg 4095 d - 1 by omega]
    exact wrap_i (by omega) (by omega)
  have q8 : IntKind.i64.wrap (rg 4095 d) = rg 4095 d := wrap_i (by omega) (by omega)
  have q9 : 2 * d + 1 ≠ 0 := by omega
  have HS : Hid (sx0 4095 d = ⟨max ((rg 4095 d + 32) / 64) 2, 0, 0, 1⟩) := Hid.mk rfl
  have U := Hid.mk (fun w => unlearnt_any (rg 4095 d) w (by omega) (by omega))
  have HG := Hid.mk G
  have HM : Hid (∀ w P cs, Arr cs 365 4095 d (2 * d + 1) (rg 4095 d) (e1 4095 d) (e2 4095 d) (e3 4095 d) (max ((rg 4095 d + 32) / 64) 2) → w.heap[P]? = some (.cells cs 81 (0, 0)) → Md w P 4095 d (fun _ => sx0 4095 d)) := Hid.mk (fun w P cs h hb => h.md hb G)
  rw [HS.out] at HM
  generalize rg 4095 d = R at hR q7 q8 HS U HM
  generalize e1 4095 d = a1 at *
  generalize e2 4095 d = a2 at *
  generalize e3 4095 d = a3 at *
  rw [HS.out]
  generalize max ((R + 32) / 64) 2 = A at *
  clear G HR HS
  go_enter Tryd.func16, Tryd.ntmps16
  go_wp2
  go_region_with (go_at_call 28; refine (E.out _).mono ?_; rintro e w1 ⟨rfl, hk1⟩)
  obtain ⟨C, hC⟩ : ∃ C, C = (((((Z.setIfInBounds 0 (.int .i64 4095)).setIfInBounds 1 (.int .i64 d)).setIfInBounds 2 (.int .i64 (2 * d + 1))).setIfInBounds 4 (.int .i64 a1)).setIfInBounds 5 (.int .i64 a2)).setIfInBounds 6 (.int .i64 a3) := ⟨_, rfl⟩
  rw [← hC]
  have hCs : C.size = 1467 := by rw [hC]; simp [hs]
  have HC := Hid.mk hC
  clear hC
  obtain ⟨w2, hw2, k2, hb2⟩ : ∃ w2, w1.alloc (.cells C 81 (0, 0)) = w2 ∧ Kept [] w1 w2 ∧ w2.heap[w1.heap.size]? = some (.cells C 81 (0, 0)) := ⟨_, rfl, alloc_kept _ _, heap_alloc_new _ _⟩
  rw [hw2]
  clear hw2
  obtain ⟨P, hP⟩ : ∃ P, P = w1.heap.size := ⟨_, rfl⟩
  rw [← hP] at hb2 ⊢
  have HP := Hid.mk hP
  clear hP
  have z3 := hv.out 3 (by omega)
  simp [hs] at z3
  have HA : Hid (Arr (C.setIfInBounds 3 (.int .i64 R)) 0 4095 d (2 * d + 1) R a1 a2 a3 A) := Hid.mk (by
    rw [HC.out]
    refine ⟨by simp [hs], ?_, ?_, ?_, ?_, ?_, ?_, ?_, ?_, ?_, ?_, ?_⟩
    all_goals first | (intro j hj; omega) | simp [hs])
  have f3 := frozen_of_row w2 P 3 C 81 hb2
  have c0 : w2.cell? ⟨P, 0, none⟩ = some (.int .i64 4095) := by rw [cell_of_row _ _ _ _ _ _ hb2, HC.out]; simp [hs]
  have c2 : w2.cell? ⟨P, 2, none⟩ = some (.int .i64 (2 * d + 1)) := by rw [cell_of_row _ _ _ _ _ _ hb2, HC.out]; simp [hs]
  have c3 : w2.cell? ⟨P, 3, none⟩ = some (.int .i64 0) := by rw [cell_of_row _ _ _ _ _ _ hb2, HC.out]; simp [hs, z3]
  have HK : Hid (Kept [] w w2) := Hid.mk (hk1.undrew.trans k2)
  have HL : Hid (w.heap.size ≤ P) := Hid.mk (by rw [HP.out]; exact hk1.size)
  go_simp
  go_wp2
  go_region_law (fail)
  all_goals (obtain ⟨w4, hw4, HB4, HK4⟩ : ∃ w4, (w2.setCell ⟨P, 3, none⟩ (.int .i64 R)).drew = w4 ∧ Hid (w4.heap[P]? = some (.cells (C.setIfInBounds 3 (.int .i64 R)) 81 (0, 0))) ∧ Hid (Kept [] w w4) := ⟨_, rfl, Hid.mk (heap_setCell_at (w := w2) hb2), Hid.mk (HK.out.setCell (p := ⟨P, 3, none⟩) (.inr HL.out) _).drew⟩)
  all_goals (rw [hw4]; clear hw4 hb2 f3 c0 c2 c3 q1 q2 q3 q4 q5 q6 q7 q9 z3 hz hne hs hCs HC)
  all_goals
    go_wp2
    go_loopw [48] (fun i wr => ∃ k : Nat, k ≤ 365 ∧ i = .int .i64 (k : Int) ∧ ∃ cs, wr.heap[P]? = some (.cells cs 81 (0, 0)) ∧ Arr cs k 4095 d (2 * d + 1) R a1 a2 a3 A ∧ Kept [] w wr) (fun i _ => 365 - (intOf i).toNat)
    case atStart => exact ⟨0, by omega, rfl, _, HB4.out, HA.out, HK4.out⟩
    case round =>
      obtain ⟨k, hk, rfl, cs, hb, ha, hkw⟩ := hrel
      have HBk := Hid.mk hb
      have HAk := Hid.mk ha
      have HKk := Hid.mk hkw
      by_cases hlt : k < 365
      · have ix : (k : Int) < 365 := by omega
        have r3 : wr.cell? ⟨P, 3, none⟩ = some (.int .i64 R) := by rw [cell_of_row _ _ _ _ _ _ hb]; exact ha.h3
        have HZ : Hid (7 + k * 4 + 3 < cs.size) := Hid.mk (by rw [ha.size]; omega)
        clear hb ha hkw
        go_wp2
        go_region_with (go_at_call 29; refine (U.out _).mono ?_; rintro e w5 ⟨rfl, hk5⟩; have hb5 := Hid.mk (hk5.undrew.heap HBk.out (by simp)); have y0 := cell_some (i := 7 + k * 4) hb5.out (by have := HZ.out; omega); have y1 := cell_some (i := 7 + k * 4 + 1) hb5.out (by have := HZ.out; omega); have y2 := cell_some (i := 7 + k * 4 + 2) hb5.out (by have := HZ.out; omega); have y3 := cell_some (i := 7 + k * 4 + 3) hb5.out HZ.out; have f0 := frozen_of_row w5 P (7 + k * 4) cs 81 hb5.out; have f1 := frozen_of_row w5 P (7 + k * 4 + 1) cs 81 hb5.out; have f2 := frozen_of_row w5 P (7 + k * 4 + 2) cs 81 hb5.out; have f3 := frozen_of_row w5 P (7 + k * 4 + 3) cs 81 hb5.out)
        all_goals (obtain ⟨w6, hw6, HB6, HK6⟩ : ∃ w6, (((w5.setCell ⟨P, 7 + k * 4, none⟩ (.int .i64 A)).setCell ⟨P, 7 + k * 4 + 1, none⟩ (.int .i64 0)).setCell ⟨P, 7 + k * 4 + 2, none⟩ (.int .i64 0)).setCell ⟨P, 7 + k * 4 + 3, none⟩ (.int .i64 1) = w6 ∧ Hid (w6.heap[P]? = some (.cells (st4 cs (7 + k * 4) A) 81 (0, 0))) ∧ Hid (Kept [] w w6) :=
          ⟨_, rfl, Hid.mk (heap_st4 hb5.out), Hid.mk (((((HKk.out.trans hk5.undrew).setCell (p := ⟨P, 7 + k * 4, none⟩) (.inr HL.out) _).setCell (p := ⟨P, 7 + k * 4 + 1, none⟩) (.inr HL.out) _).setCell (p := ⟨P, 7 + k * 4 + 2, none⟩) (.inr HL.out) _).setCell (p := ⟨P, 7 + k * 4 + 3, none⟩) (.inr HL.out) _)⟩)
        all_goals (rw [hw6]; clear hw6 y0 y1 y2 y3 f0 f1 f2 f3; go_wp2; go_roundw)
        case rel => exact ⟨k + 1, by omega, by go_num, _, HB6.out, HAk.out.next hlt, HK6.out⟩
        case measure => simp [intOf]; omega
      · obtain rfl : k = 365 := by omega
        clear hb ha hkw
        go_wp2
        go_ret2
        exact ⟨P, rfl, HM.out _ _ _ HAk.out HBk.out, HL.out, HKk.out⟩

end Go.Proofs.YtahoeodpjdbdkabDoor
