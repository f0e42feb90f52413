import Derived.Test.YthhegomjipbdbaaGreatDoormB1Z
import Derived.Handy
namespace Go.Proofs.YthhegomjipbdbaaGreatDoor
open Go.RowKit

set_option maxHeartbeats 4000000 in
theorem unlearnt_any (R : Int) (w : World) (r0 : 0 ≤ R) (r1 : R ≤ 4096) : Calls Tryz.prog 127 #[.int .i64 R] w fun e w' => e = .returned (.agg #[.int .i64 (max ((R + 32) / 64) 2), .int .i64 0, .int .i64 0, .int .i64 1]) ∧ Kept [] w w' := by
  by_cases h : (R + 32) / 64 < 2
  · rw [show max ((R + 32) / 64) 2 = 2 by omega]
    go_enter Tryz.func127, Tryz.ntmps127
    go_wp2
    go_returns
    exact ⟨rfl, (Kept.refl _ _).alloc _⟩
  · rw [show max ((R + 32) / 64) 2 = (R + 32) / 64 by omega]
    go_enter Tryz.func127, Tryz.ntmps127
    go_wp2
    go_returns
    exact ⟨rfl, (Kept.refl _ _).alloc _⟩

set_option maxHeartbeats 4000000 in
theorem edges_any (D T d : Int) (w : World) (hD : D = 10 ∧ T = 1023 ∨ D = 12 ∧ T = 4095) (d0 : 0 ≤ d) (d1 : d ≤ 63) : Calls Tryz.prog 126 #[.int .i64 D, .int .i64 d] w fun e w' => e = .returned (.agg #[.int .i64 (e1 T d), .int .i64 (e2 T d), .int .i64 (e3 T d)]) ∧ Kept [] w w' := by
  rcases hD with ⟨rfl, rfl⟩ | ⟨rfl, rfl⟩
  · simp only [e1, e2, e3, if_true]
    go_enter Tryz.func126, Tryz.ntmps126
    go_wp2
    go_returns
    exact ⟨rfl, (Kept.refl _ _).alloc _⟩
  · simp only [e1, e2, e3]
    go_enter Tryz.func126, Tryz.ntmps126
    go_wp2
    go_returns
    exact ⟨rfl, (Kept.refl _ _).alloc _⟩

/-- A new model's cells. -/
abbrev z67 : Array Value := (List.replicate 1467 (Value.int .i64 0)).toArray
theorem zero67e : Tryz.t197.zero = some (.agg z67) := by kernel_rfl
theorem zero67 (w : World) : (zeroValue 197).run Tryz.prog w = .ok (.agg z67) w := by
  unfold zeroValue
  simp only [Sem.run_bind, Tryz.typeInfo197, Result.andThen_ok, zero67e]
  rfl
theorem build67 (Z : Array Value) (hz : ∀ w, (zeroValue 197).run Tryz.prog w = .ok (.agg Z) w) (hs : Z.size = 1467) (a b c x y z : Int) (w : World) :
    (Instr.build 197 #[(0, .int .i64 a), (1, .int .i64 b), (2, .int .i64 c), (4, .agg #[.int .i64 x, .int .i64 y, .int .i64 z])]).run Tryz.prog w = .ok (.agg ((((((Z.setIfInBounds 0 (.int .i64 a)).setIfInBounds 1 (.int .i64 b)).setIfInBounds 2 (.int .i64 c)).setIfInBounds 4 (.int .i64 x)).setIfInBounds 5 (.int .i64 y)).setIfInBounds 6 (.int .i64 z))) w := by
  have hne : Z ≠ #[] := by rintro rfl; simp at hs
  unfold Instr.build
  simp [hne, hz, Tryz.runUnderlying197, Instr.fill, hs, Value.cells, Tryz.sizeOf195, Tryz.sizeOf191, Tryz.sizeOf3]

/-- A model's cells while it is made: k contexts stand. -/
structure Arr (cs : Array Value) (k : Nat) (x0 x1 x2 x3 x4 x5 x6 A : Int) : Prop where
  size : cs.size = 1467
  h0 : cs[0]? = some (.int .i64 x0)
  h1 : cs[1]? = some (.int .i64 x1)
  h2 : cs[2]? = some (.int .i64 x2)
  h3 : cs[3]? = some (.int .i64 x3)
  h4 : cs[4]? = some (.int .i64 x4)
  h5 : cs[5]? = some (.int .i64 x5)
  h6 : cs[6]? = some (.int .i64 x6)
  c0 : ∀ j, j < k → cs[7 + j * 4]? = some (.int .i64 A)
  c1 : ∀ j, j < k → cs[7 + j * 4 + 1]? = some (.int .i64 0)
  c2 : ∀ j, j < k → cs[7 + j * 4 + 2]? = some (.int .i64 0)
  c3 : ∀ j, j < k → cs[7 + j * 4 + 3]? = some (.int .i64 1)
/-- Four cells are set. -/
abbrev st4 (cs : Array Value) (o : Nat) (A : Int) : Array Value := (((cs.setIfInBounds o (.int .i64 A)).setIfInBounds (o + 1) (.int .i64 0)).setIfInBounds (o + 2) (.int .i64 0)).setIfInBounds (o + 3) (.int .i64 1)
theorem st4_out (cs : Array Value) (o i : Nat) (A : Int) (h : i < o ∨ o + 4 ≤ i) : (st4 cs o A)[i]? = cs[i]? := by
  unfold st4
  rw [Array.getElem?_setIfInBounds_ne (by omega), Array.getElem?_setIfInBounds_ne (by omega), Array.getElem?_setIfInBounds_ne (by omega), Array.getElem?_setIfInBounds_ne (by omega)]
theorem st4_0 (cs : Array Value) (o : Nat) (A : Int) (h : o + 3 < cs.size) : (st4 cs o A)[o]? = some (.int .i64 A) := by
  unfold st4
  rw [Array.getElem?_setIfInBounds_ne (by omega), Array.getElem?_setIfInBounds_ne (by omega), Array.getElem?_setIfInBounds_ne (by omega), Array.getElem?_setIfInBounds_self_of_lt (by omega)]
theorem st4_1 (cs : Array Value) (o : Nat) (A : Int) (h : o + 3 < cs.size) : (st4 cs o A)[o + 1]? = some (.int .i64 0) := by
  unfold st4
  rw [Array.getElem?_setIfInBounds_ne (by omega), Array.getElem?_setIfInBounds_ne (by omega), Array.getElem?_setIfInBounds_self_of_lt (by simp; omega)]
theorem st4_2 (cs : Array Value) (o : Nat) (A : Int) (h : o + 3 < cs.size) : (st4 cs o A)[o + 2]? = some (.int .i64 0) := by
  unfold st4
  rw [Array.getElem?_setIfInBounds_ne (by omega), Array.getElem?_setIfInBounds_self_of_lt (by simp; omega)]
theorem st4_3 (cs : Array Value) (o : Nat) (A : Int) (h : o + 3 < cs.size) : (st4 cs o A)[o + 3]? = some (.int .i64 1) := by
  unfold st4
  rw [Array.getElem?_setIfInBounds_self_of_lt (by simp; omega)]
theorem Arr.next {cs : Array Value} {k : Nat} {x0 x1 x2 x3 x4 x5 x6 A : Int} (h : Arr cs k x0 x1 x2 x3 x4 x5 x6 A) (hk : k < 365) : Arr (st4 cs (7 + k * 4) A) (k + 1) x0 x1 x2 x3 x4 x5 x6 A := by
  have hl : 7 + k * 4 + 3 < cs.size := by rw [h.size]; omega
  refine ⟨by simp [st4, h.size], by rw [st4_out _ _ _ _ (by omega)]; exact h.h0, by rw [st4_out _ _ _ _ (by omega)]; exact h.h1, by rw [st4_out _ _ _ _ (by omega)]; exact h.h2, by rw [st4_out _ _ _ _ (by omega)]; exact h.h3, by rw [st4_out _ _ _ _ (by omega)]; exact h.h4, by rw [st4_out _ _ _ _ (by omega)]; exact h.h5, by rw [st4_out _ _ _ _ (by omega)]; exact h.h6, ?_, ?_, ?_, ?_⟩
  · intro j hj
    by_cases e : j = k
    · subst e; exact st4_0 _ _ _ hl
    · rw [st4_out _ _ _ _ (by omega)]; exact h.c0 j (by omega)
  · intro j hj
    by_cases e : j = k
    · subst e; exact st4_1 _ _ _ hl
    · rw [st4_out _ _ _ _ (by omega)]; exact h.c1 j (by omega)
  · intro j hj
    by_cases e : j = k
    · subst e; exact st4_2 _ _ _ hl
    · rw [st4_out _ _ _ _ (by omega)]; exact h.c2 j (by omega)
  · intro j hj
    by_cases e : j = k
    · subst e; exact st4_3 _ _ _ hl
    · rw [st4_out _ _ _ _ (by omega)]; exact h.c3 j (by omega)
theorem heap_st4 {w : World} {P o : Nat} {cs : Array Value} {A : Int} (h : w.heap[P]? = some (.cells cs 197 (0, 0))) :
    ((((w.setCell ⟨P, o, none⟩ (.int .i64 A)).setCell ⟨P, o + 1, none⟩ (.int .i64 0)).setCell ⟨P, o + 2, none⟩ (.int .i64 0)).setCell ⟨P, o + 3, none⟩ (.int .i64 1)).heap[P]? = some (.cells (st4 cs o A) 197 (0, 0)) :=
  heap_setCell_at (heap_setCell_at (heap_setCell_at (heap_setCell_at h)))
theorem Arr.md {w : World} {P : Nat} {cs : Array Value} {T d : Int} (h : Arr cs 365 T d (2 * d + 1) (rg T d) (e1 T d) (e2 T d) (e3 T d) (max ((rg T d + 32) / 64) 2)) (hb : w.heap[P]? = some (.cells cs 197 (0, 0))) (G : Gd T d) : Md w P T d (fun _ => sx0 T d) := by
  have e := cell_of_row w P
  refine ⟨G, ⟨?_, ?_, ?_, ?_, ?_, ?_, ?_⟩, ⟨cs, hb, h.size⟩, ?_, fun _ => sx0_fit T d G⟩
  · rw [cell_of_row _ _ _ _ _ _ hb]; exact h.h0
  · rw [cell_of_row _ _ _ _ _ _ hb]; exact h.h1
  · rw [cell_of_row _ _ _ _ _ _ hb]; exact h.h2
  · rw [cell_of_row _ _ _ _ _ _ hb]; exact h.h3
  · rw [cell_of_row _ _ _ _ _ _ hb]; exact h.h4
  · rw [cell_of_row _ _ _ _ _ _ hb]; exact h.h5
  · rw [cell_of_row _ _ _ _ _ _ hb]; exact h.h6
  · intro k hk
    refine ⟨⟨cs, hb, by rw [h.size]; omega⟩, ?_, ?_, ?_, ?_⟩
    · rw [cell_of_row _ _ _ _ _ _ hb]; exact h.c0 k hk
    · rw [cell_of_row _ _ _ _ _ _ hb]; exact h.c1 k hk
    · rw [cell_of_row _ _ _ _ _ _ hb]; exact h.c2 k hk
    · rw [cell_of_row _ _ _ _ _ _ hb]; exact h.c3 k hk
theorem cell_some {w : World} {P i : Nat} {cs : Array Value} (hb : w.heap[P]? = some (.cells cs 197 (0, 0))) (h : i < cs.size) : w.cell? ⟨P, i, none⟩ = some cs[i] := by
  rw [cell_of_row _ _ _ _ _ _ hb]; simp [h]

end Go.Proofs.YthhegomjipbdbaaGreatDoor

namespace Go.Proofs.YthhegomjipbdbaaGreatDoor
open Go.RowKit

set_option maxHeartbeats 8000000 in
set_option maxRecDepth 1000000 in
theorem new1023 (d : Int) (w : World) (d0 : 0 ≤ d) (d1 : d ≤ 63) : Calls Tryz.prog 107 #[.int .i64 10, .int .i64 d] w fun e w' => ∃ P, e = .returned (.tuple #[.pointer (some ⟨P, 0, none⟩), .int .i64 0]) ∧ Md w' P 1023 d (fun _ => sx0 1023 d) ∧ w.heap.size ≤ P ∧ Kept [] w w' := by
  have E := Hid.mk (fun w => edges_any 10 1023 d w (by omega) d0 d1)
  have hs : z67.size = 1467 := by simp
  have hz : ∀ w, (zeroValue 197).run Tryz.prog w = .ok (.agg z67) w := zero67
  have hv : Hid (∀ i, i < 1467 → z67[i]? = some (.int .i64 0)) := Hid.mk (fun i hi => by simp [hi])
  have hne : ¬ z67 = #[] := by intro h; rw [h] at hs; simp at hs
  generalize z67 = Z at *
  have q1 : IntKind.i64.wrap (2 * d) = 2 * d := wrap_i (by omega) (by omega)
  have q2 : IntKind.i64.wrap (2 * d + 1) = 2 * d + 1 := wrap_i (by omega) (by omega)
  have q3 : IntKind.i64.wrap 1024 = 1024 := wrap_i (by omega) (by omega)
  have q4 : IntKind.i64.wrap 1023 = 1023 := wrap_i (by omega) (by omega)
  have q5 : IntKind.i64.wrap (1024 - 1) = 1023 := wrap_i (by omega) (by omega)
  have G : Gd 1023 d := ⟨by omega, d0, d1⟩
  have hR := rg_pos 1023 d G
  have HR : Hid (Hid (rg 1023 d = (1023 + 2 * d) / (2 * d + 1) + 1)) := Hid.mk (Hid.mk rfl)
  have q6 : IntKind.i64.wrap (1023 + 2 * d) = 1023 + 2 * d := wrap_i (by omega) (by omega)
  have q7 : IntKind.i64.wrap ((1023 + 2 * d).tdiv (2 * d + 1)) = rg 1023 d - 1 := by
    rw [Int.tdiv_eq_ediv_of_nonneg (by omega)]
    have := HR.out.out
    rw [show (1023 + 2 * d) / (2 * d + 1) = rg 1023 d - 1 by omega]
    exact wrap_i (by omega) (by omega)
  have q8 : IntKind.i64.wrap (rg 1023 d) = rg 1023 d := wrap_i (by omega) (by omega)
  have q9 : 2 * d + 1 ≠ 0 := by omega
  have HS : Hid (sx0 1023 d = ⟨max ((rg 1023 d + 32) / 64) 2, 0, 0, 1⟩) := Hid.mk rfl
  have U := Hid.mk (fun w => unlearnt_any (rg 1023 d) w (by omega) (by omega))
  have HG := Hid.mk G
  have HM : Hid (∀ w P cs, Arr cs 365 1023 d (2 * d + 1) (rg 1023 d) (e1 1023 d) (e2 1023 d) (e3 1023 d) (max ((rg 1023 d + 32) / 64) 2) → w.heap[P]? = some (.cells cs 197 (0, 0)) → Md w P 1023 d (fun _ => sx0 1023 d)) := Hid.mk (fun w P cs h hb => h.md hb G)
  rw [HS.out] at HM
  generalize rg 1023 d = R at hR q7 q8 HS U HM
  generalize e1 1023 d = a1 at *
  generalize e2 1023 d = a2 at *
  generalize e3 1023 d = a3 at *
  rw [HS.out]
  generalize max ((R + 32) / 64) 2 = A at *
  clear G HR HS
  go_enter Tryz.func107, Tryz.ntmps107
  go_wp2
  go_region_with (go_at_call 126; refine (E.out _).mono ?_; rintro e w1 ⟨rfl, hk1⟩)
  obtain ⟨C, hC⟩ : ∃ C, C = (((((Z.setIfInBounds 0 (.int .i64 1023)).setIfInBounds 1 (.int .i64 d)).setIfInBounds 2 (.int .i64 (2 * d + 1))).setIfInBounds 4 (.int .i64 a1)).setIfInBounds 5 (.int .i64 a2)).setIfInBounds 6 (.int .i64 a3) := ⟨_, rfl⟩
  rw [← hC]
  have hCs : C.size = 1467 := by rw [hC]; simp [hs]
  have HC := Hid.mk hC
  clear hC
  obtain ⟨w2, hw2, k2, hb2⟩ : ∃ w2, w1.alloc (.cells C 197 (0, 0)) = w2 ∧ Kept [] w1 w2 ∧ w2.heap[w1.heap.size]? = some (.cells C 197 (0, 0)) := ⟨_, rfl, alloc_kept _ _, heap_alloc_new _ _⟩
  rw [hw2]
  clear hw2
  obtain ⟨P, hP⟩ : ∃ P, P = w1.heap.size := ⟨_, rfl⟩
  rw [← hP] at hb2 ⊢
  have HP := Hid.mk hP
  clear hP
  have z3 := hv.out 3 (by omega)
  simp [hs] at z3
  have HA : Hid (Arr (C.setIfInBounds 3 (.int .i64 R)) 0 1023 d (2 * d + 1) R a1 a2 a3 A) := Hid.mk (by
    rw [HC.out]
    refine ⟨by simp [hs], ?_, ?_, ?_, ?_, ?_, ?_, ?_, ?_, ?_, ?_, ?_⟩
    all_goals first | (intro j hj; omega) | simp [hs])
  have f3 := frozen_of_row w2 P 3 C 197 hb2
  have c0 : w2.cell? ⟨P, 0, none⟩ = some (.int .i64 1023) := by rw [cell_of_row _ _ _ _ _ _ hb2, HC.out]; simp [hs]
  have c2 : w2.cell? ⟨P, 2, none⟩ = some (.int .i64 (2 * d + 1)) := by rw [cell_of_row _ _ _ _ _ _ hb2, HC.out]; simp [hs]
  have c3 : w2.cell? ⟨P, 3, none⟩ = some (.int .i64 0) := by rw [cell_of_row _ _ _ _ _ _ hb2, HC.out]; simp [hs, z3]
  have HK : Hid (Kept [] w w2) := Hid.mk (hk1.undrew.trans k2)
  have HL : Hid (w.heap.size ≤ P) := Hid.mk (by rw [HP.out]; exact hk1.size)
  go_simp
  go_wp2
  go_region_law (fail)
  all_goals (obtain ⟨w4, hw4, HB4, HK4⟩ : ∃ w4, (w2.setCell ⟨P, 3, none⟩ (.int .i64 R)).drew = w4 ∧ Hid (w4.heap[P]? = some (.cells (C.setIfInBounds 3 (.int .i64 R)) 197 (0, 0))) ∧ Hid (Kept [] w w4) := ⟨_, rfl, Hid.mk (heap_setCell_at (w := w2) hb2), Hid.mk (HK.out.setCell (p := ⟨P, 3, none⟩) (.inr HL.out) _).drew⟩)
  all_goals (rw [hw4]; clear hw4 hb2 f3 c0 c2 c3 q1 q2 q3 q4 q5 q6 q7 q9 z3 hz hne hs hCs HC)
  all_goals
    go_wp2
    go_loopw [48] (fun i wr => ∃ k : Nat, k ≤ 365 ∧ i = .int .i64 (k : Int) ∧ ∃ cs, wr.heap[P]? = some (.cells cs 197 (0, 0)) ∧ Arr cs k 1023 d (2 * d + 1) R a1 a2 a3 A ∧ Kept [] w wr) (fun i _ => 365 - (intOf i).toNat)
    case atStart => exact ⟨0, by omega, rfl, _, HB4.out, HA.out, HK4.out⟩
    case round =>
      obtain ⟨k, hk, rfl, cs, hb, ha, hkw⟩ := hrel
      have HBk := Hid.mk hb
      have HAk := Hid.mk ha
      have HKk := Hid.mk hkw
      by_cases hlt : k < 365
      · have ix : (k : Int) < 365 := by omega
        have r3 : wr.cell? ⟨P, 3, none⟩ = some (.int .i64 R) := by rw [cell_of_row _ _ _ _ _ _ hb]; exact ha.h3
        have HZ : Hid (7 + k * 4 + 3 < cs.size) := Hid.mk (by rw [ha.size]; omega)
        clear hb ha hkw
        go_wp2
        go_region_with (go_at_call 127; refine (U.out _).mono ?_; rintro e w5 ⟨rfl, hk5⟩; have hb5 := Hid.mk (hk5.undrew.heap HBk.out (by simp)); have y0 := cell_some (i := 7 + k * 4) hb5.out (by have := HZ.out; omega); have y1 := cell_some (i := 7 + k * 4 + 1) hb5.out (by have := HZ.out; omega); have y2 := cell_some (i := 7 + k * 4 + 2) hb5.out (by have := HZ.out; omega); have y3 := cell_some (i := 7 + k * 4 + 3) hb5.out HZ.out; have f0 := frozen_of_row w5 P (7 + k * 4) cs 197 hb5.out; have f1 := frozen_of_row w5 P (7 + k * 4 + 1) cs 197 hb5.out; have f2 := frozen_of_row w5 P (7 + k * 4 + 2) cs 197 hb5.out; have f3 := frozen_of_row w5 P (7 + k * 4 + 3) cs 197 hb5.out)
        all_goals (obtain ⟨w6, hw6, HB6, HK6⟩ : ∃ w6, (((w5.setCell ⟨P, 7 + k * 4, none⟩ (.int .i64 A)).setCell ⟨P, 7 + k * 4 + 1, none⟩ (.int .i64 0)).setCell ⟨P, 7 + k * 4 + 2, none⟩ (.int .i64 0)).setCell ⟨P, 7 + k * 4 + 3, none⟩ (.int .i64 1) = w6 ∧ Hid (w6.heap[P]? = some (.cells (st4 cs (7 + k * 4) A) 197 (0, 0))) ∧ Hid (Kept [] w w6) :=
          ⟨_, rfl, Hid.mk (heap_st4 hb5.out), Hid.mk (((((HKk.out.trans hk5.undrew).setCell (p := ⟨P, 7 + k * 4, none⟩) (.inr HL.out) _).setCell (p := ⟨P, 7 + k * 4 + 1, none⟩) (.inr HL.out) _).setCell (p := ⟨P, 7 + k * 4 + 2, none⟩) (.inr HL.out) _).setCell (p := ⟨P, 7 + k * 4 + 3, none⟩) (.inr HL.out) _)⟩)
        all_goals (rw [hw6]; clear hw6 y0 y1 y2 y3 f0 f1 f2 f3; go_wp2; go_roundw)
        case rel => exact ⟨k + 1, by omega, by go_num, _, HB6.out, HAk.out.next hlt, HK6.out⟩
        case measure => simp [intOf]; omega
      · obtain rfl : k = 365 := by omega
        clear hb ha hkw
        go_wp2
        go_ret2
        exact ⟨P, rfl, HM.out _ _ _ HAk.out HBk.out, HL.out, HKk.out⟩

end Go.Proofs.YthhegomjipbdbaaGreatDoor

namespace Go.Proofs.YthhegomjipbdbaaGreatDoor
open Go.RowKit

set_option maxHeartbeats 8000000 in
set_option maxRecDepth 1000000 in
theorem new4095 (d : Int) (w : World) (d0 : 0 ≤ d) (d1 : d ≤ 63) : Calls Tryz.prog 107 #[.int .i64 12, .int .i64 d] w fun e w' => ∃ P, e = .returned (.tuple #[.pointer (some ⟨P, 0, none⟩), .int .i64 0]) ∧ Md w' P 4095 d (fun _ => sx0 4095 d) ∧ w.heap.size ≤ P ∧ Kept [] w w' := by
  have E := Hid.mk (fun w => edges_any 12 4095 d w (by omega) d0 d1)
  have hs : z67.size = 1467 := by simp
  have hz : ∀ w, (zeroValue 197).run Tryz.prog w = .ok (.agg z67) w := zero67
  have hv : Hid (∀ i, i < 1467 → z67[i]? = some (.int .i64 0)) := Hid.mk (fun i hi => by simp [hi])
  have hne : ¬ z67 = #[] := by intro h; rw [h] at hs; simp at hs
  generalize z67 = Z at *
  have q1 : IntKind.i64.wrap (2 * d) = 2 * d := wrap_i (by omega) (by omega)
  have q2 : IntKind.i64.wrap (2 * d + 1) = 2 * d + 1 := wrap_i (by omega) (by omega)
  have q3 : IntKind.i64.wrap 4096 = 4096 := wrap_i (by omega) (by omega)
  have q4 : IntKind.i64.wrap 4095 = 4095 := wrap_i (by omega) (by omega)
  have q5 : IntKind.i64.wrap (4096 - 1) = 4095 := wrap_i (by omega) (by omega)
  have G : Gd 4095 d := ⟨by omega, d0, d1⟩
  have hR := rg_pos 4095 d G
  have HR : Hid (Hid (rg 4095 d = (4095 + 2 * d) / (2 * d + 1) + 1)) := Hid.mk (Hid.mk rfl)
  have q6 : IntKind.i64.wrap (4095 + 2 * d) = 4095 + 2 * d := wrap_i (by omega) (by omega)
  have q7 : IntKind.i64.wrap ((4095 + 2 * d).tdiv (2 * d + 1)) = rg 4095 d - 1 := by
    rw [Int.tdiv_eq_ediv_of_nonneg (by omega)]
    have := HR.out.out
    rw [show (4095 + 2 * d) / (2 * d + 1) = rg 4095 d - 1 by omega]
    exact wrap_i (by omega) (by omega)
  have q8 : IntKind.i64.wrap (rg 4095 d) = rg 4095 d := wrap_i (by omega) (by omega)
  have q9 : 2 * d + 1 ≠ 0 := by omega
  have HS : Hid (sx0 4095 d = ⟨max ((rg 4095 d + 32) / 64) 2, 0, 0, 1⟩) := Hid.mk rfl
  have U := Hid.mk (fun w => unlearnt_any (rg 4095 d) w (by omega) (by omega))
  have HG := Hid.mk G
  have HM : Hid (∀ w P cs, Arr cs 365 4095 d (2 * d + 1) (rg 4095 d) (e1 4095 d) (e2 4095 d) (e3 4095 d) (max ((rg 4095 d + 32) / 64) 2) → w.heap[P]? = some (.cells cs 197 (0, 0)) → Md w P 4095 d (fun _ => sx0 4095 d)) := Hid.mk (fun w P cs h hb => h.md hb G)
  rw [HS.out] at HM
  generalize rg 4095 d = R at hR q7 q8 HS U HM
  generalize e1 4095 d = a1 at *
  generalize e2 4095 d = a2 at *
  generalize e3 4095 d = a3 at *
  rw [HS.out]
  generalize max ((R + 32) / 64) 2 = A at *
  clear G HR HS
  go_enter Tryz.func107, Tryz.ntmps107
  go_wp2
  go_region_with (go_at_call 126; refine (E.out _).mono ?_; rintro e w1 ⟨rfl, hk1⟩)
  obtain ⟨C, hC⟩ : ∃ C, C = (((((Z.setIfInBounds 0 (.int .i64 4095)).setIfInBounds 1 (.int .i64 d)).setIfInBounds 2 (.int .i64 (2 * d + 1))).setIfInBounds 4 (.int .i64 a1)).setIfInBounds 5 (.int .i64 a2)).setIfInBounds 6 (.int .i64 a3) := ⟨_, rfl⟩
  rw [← hC]
  have hCs : C.size = 1467 := by rw [hC]; simp [hs]
  have HC := Hid.mk hC
  clear hC
  obtain ⟨w2, hw2, k2, hb2⟩ : ∃ w2, w1.alloc (.cells C 197 (0, 0)) = w2 ∧ Kept [] w1 w2 ∧ w2.heap[w1.heap.size]? = some (.cells C 197 (0, 0)) := ⟨_, rfl, alloc_kept _ _, heap_alloc_new _ _⟩
  rw [hw2]
  clear hw2
  obtain ⟨P, hP⟩ : ∃ P, P = w1.heap.size := ⟨_, rfl⟩
  rw [← hP] at hb2 ⊢
  have HP := Hid.mk hP
  clear hP
  have z3 := hv.out 3 (by omega)
  simp [hs] at z3
  have HA : Hid (Arr (C.setIfInBounds 3 (.int .i64 R)) 0 4095 d (2 * d + 1) R a1 a2 a3 A) := Hid.mk (by
    rw [HC.out]
    refine ⟨by simp [hs], ?_, ?_, ?_, ?_, ?_, ?_, ?_, ?_, ?_, ?_, ?_⟩
    all_goals first | (intro j hj; omega) | simp [hs])
  have f3 := frozen_of_row w2 P 3 C 197 hb2
  have c0 : w2.cell? ⟨P, 0, none⟩ = some (.int .i64 4095) := by rw [cell_of_row _ _ _ _ _ _ hb2, HC.out]; simp [hs]
  have c2 : w2.cell? ⟨P, 2, none⟩ = some (.int .i64 (2 * d + 1)) := by rw [cell_of_row _ _ _ _ _ _ hb2, HC.out]; simp [hs]
  have c3 : w2.cell? ⟨P, 3, none⟩ = some (.int .i64 0) := by rw [cell_of_row _ _ _ _ _ _ hb2, HC.out]; simp [hs, z3]
  have HK : Hid (Kept [] w w2) := Hid.mk (hk1.undrew.trans k2)
  have HL : Hid (w.heap.size ≤ P) := Hid.mk (by rw [HP.out]; exact hk1.size)
  go_simp
  go_wp2
  go_region_law (fail)
  all_goals (obtain ⟨w4, hw4, HB4, HK4⟩ : ∃ w4, (w2.setCell ⟨P, 3, none⟩ (.int .i64 R)).drew = w4 ∧ Hid (w4.heap[P]? = some (.cells (C.setIfInBounds 3 (.int .i64 R)) 197 (0, 0))) ∧ Hid (Kept [] w w4) := ⟨_, rfl, Hid.mk (heap_setCell_at (w := w2) hb2), Hid.mk (HK.out.setCell (p := ⟨P, 3, none⟩) (.inr HL.out) _).drew⟩)
  all_goals (rw [hw4]; clear hw4 hb2 f3 c0 c2 c3 q1 q2 q3 q4 q5 q6 q7 q9 z3 hz hne hs hCs HC)
  all_goals
    go_wp2
    go_loopw [48] (fun i wr => ∃ k : Nat, k ≤ 365 ∧ i = .int .i64 (k : Int) ∧ ∃ cs, wr.heap[P]? = some (.cells cs 197 (0, 0)) ∧ Arr cs k 4095 d (2 * d + 1) R a1 a2 a3 A ∧ Kept [] w wr) (fun i _ => 365 - (intOf i).toNat)
    case atStart => exact ⟨0, by omega, rfl, _, HB4.out, HA.out, HK4.out⟩
    case round =>
      obtain ⟨k, hk, rfl, cs, hb, ha, hkw⟩ := hrel
      have HBk := Hid.mk hb
      have HAk := Hid.mk ha
      have HKk := Hid.mk hkw
      by_cases hlt : k < 365
      · have ix : (k : Int) < 365 := by omega
        have r3 : wr.cell? ⟨P, 3, none⟩ = some (.int .i64 R) := by rw [cell_of_row _ _ _ _ _ _ hb]; exact ha.h3
        have HZ : Hid (7 + k * 4 + 3 < cs.size) := Hid.mk (by rw [ha.size]; omega)
        clear hb ha hkw
        go_wp2
        go_region_with (go_at_call 127; refine (U.out _).mono ?_; rintro e w5 ⟨rfl, hk5⟩; have hb5 := Hid.mk (hk5.undrew.heap HBk.out (by simp)); have y0 := cell_some (i := 7 + k * 4) hb5.out (by have := HZ.out; omega); have y1 := cell_some (i := 7 + k * 4 + 1) hb5.out (by have := HZ.out; omega); have y2 := cell_some (i := 7 + k * 4 + 2) hb5.out (by have := HZ.out; omega); have y3 := cell_some (i := 7 + k * 4 + 3) hb5.out HZ.out; have f0 := frozen_of_row w5 P (7 + k * 4) cs 197 hb5.out; have f1 := frozen_of_row w5 P (7 + k * 4 + 1) cs 197 hb5.out; have f2 := frozen_of_row w5 P (7 + k * 4 + 2) cs 197 hb5.out; have f3 := frozen_of_row w5 P (7 + k * 4 + 3) cs 197 hb5.out)
        all_goals (obtain ⟨w6, hw6, HB6, HK6⟩ : ∃ w6, (((w5.setCell ⟨P, 7 + k * 4, none⟩ (.int .i64 A)).setCell ⟨P, 7 + k * 4 + 1, none⟩ (.int .i64 0)).setCell ⟨P, 7 + k * 4 + 2, none⟩ (.int .i64 0)).setCell ⟨P, 7 + k * 4 + 3, none⟩ (.int .i64 1) = w6 ∧ Hid (w6.heap[P]? = some (.cells (st4 cs (7 + k * 4) A) 197 (0, 0))) ∧ Hid (Kept [] w w6) :=
          ⟨_, rfl, Hid.mk (heap_st4 hb5.out), Hid.mk (((((HKk.out.trans hk5.undrew).setCell (p := ⟨P, 7 + k * 4, none⟩) (.inr HL.out) _).setCell (p := ⟨P, 7 + k * 4 + 1, none⟩) (.inr HL.out) _).setCell (p := ⟨P, 7 + k * 4 + 2, none⟩) (.inr HL.out) _).setCell (p := ⟨P, 7 + k * 4 + 3, none⟩) (.inr HL.out) _)⟩)
        all_goals (rw [hw6]; clear hw6 y0 y1 y2 y3 f0 f1 f2 f3; go_wp2; go_roundw)
        case rel => exact ⟨k + 1, by omega, by go_num, _, HB6.out, HAk.out.next hlt, HK6.out⟩
        case measure => simp [intOf]; omega
      · obtain rfl : k = 365 := by omega
        clear hb ha hkw
        go_wp2
        go_ret2
        exact ⟨P, rfl, HM.out _ _ _ HAk.out HBk.out, HL.out, HKk.out⟩

end Go.Proofs.YthhegomjipbdbaaGreatDoor
