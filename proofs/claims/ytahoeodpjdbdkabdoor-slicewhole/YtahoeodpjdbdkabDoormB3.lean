import Derived.Test.YtahoeodpjdbdkabDoormB1Z
import Derived.Handy
namespace Go.Proofs.YtahoeodpjdbdkabDoor
open Go.RowKit

set_option maxHeartbeats 4000000 in
theorem unlearnt_any (R : Int) (w : World) (r0 : 0 ≤ R) (r1 : R ≤ 4096) : Calls Tryd.prog 29 #[.int .i64 R] w fun e w' => e = .returned (.agg #[.int .i64 (max ((R + 32) / 64) 2), .int .i64 0, .int .i64 0, .int .i64 1]) ∧ Kept [] w w' := by
  by_cases h : (R + 32) / 64 < 2
  · rw [show max ((R + 32) / 64) 2 = 2 by omega]
    go_enter Tryd.func29, Tryd.ntmps29
    go_wp2
    go_returns
    exact ⟨rfl, (Kept.refl _ _).alloc _⟩
  · rw [show max ((R + 32) / 64) 2 = (R + 32) / 64 by omega]
    go_enter Tryd.func29, Tryd.ntmps29
    go_wp2
    go_returns
    exact ⟨rfl, (Kept.refl _ _).alloc _⟩

set_option maxHeartbeats 4000000 in
theorem edges_any (D T d : Int) (w : World) (hD : D = 10 ∧ T = 1023 ∨ D = 12 ∧ T = 4095) (d0 : 0 ≤ d) (d1 : d ≤ 63) : Calls Tryd.prog 28 #[.int .i64 D, .int .i64 d] w fun e w' => e = .returned (.agg #[.int .i64 (e1 T d), .int .i64 (e2 T d), .int .i64 (e3 T d)]) ∧ Kept [] w w' := by
  rcases hD with ⟨rfl, rfl⟩ | ⟨rfl, rfl⟩
  · simp only [e1, e2, e3, if_true]
    go_enter Tryd.func28, Tryd.ntmps28
    go_wp2
    go_returns
    exact ⟨rfl, (Kept.refl _ _).alloc _⟩
  · simp only [e1, e2, e3]
    go_enter Tryd.func28, Tryd.ntmps28
    go_wp2
    go_returns
    exact ⟨rfl, (Kept.refl _ _).alloc _⟩

/-- A new model's cells. -/
abbrev z67 : Array Value := (List.replicate 1467 (Value.int .i64 0)).toArray
theorem zero67e : Tryd.t81.zero = some (.agg z67) := by kernel_rfl
theorem zero67 (w : World) : (zeroValue 81).run Tryd.prog w = .ok (.agg z67) w := by
  unfold zeroValue
  simp only [Sem.run_bind, Tryd.typeInfo81, Result.andThen_ok, zero67e]
  rfl
theorem build67 (Z : Array Value) (hz : ∀ w, (zeroValue 81).run Tryd.prog w = .ok (.agg Z) w) (hs : Z.size = 1467) (a b c x y z : Int) (w : World) :
    (Instr.build 81 #[(0, .int .i64 a), (1, .int .i64 b), (2, .int .i64 c), (4, .agg #[.int .i64 x, .int .i64 y, .int .i64 z])]).run Tryd.prog w = .ok (.agg ((((((Z.setIfInBounds 0 (.int .i64 a)).setIfInBounds 1 (.int .i64 b)).setIfInBounds 2 (.int .i64 c)).setIfInBounds 4 (.int .i64 x)).setIfInBounds 5 (.int .i64 y)).setIfInBounds 6 (.int .i64 z))) w := by
  have hne : Z ≠ #[] := by rintro rfl; simp at hs
  unfold Instr.build
  simp [hne, hz, Tryd.runUnderlying81, Instr.fill, hs, Value.cells, Tryd.sizeOf79, Tryd.sizeOf75, Tryd.sizeOf3]

/-- A model's cells while it is made: k contexts stand. -/
structure Arr (cs : Array Value) (k : Nat) (x0 x1 x2 x3 x4 x5 x6 A : Int) : Prop where
  size : cs.size = 1467
  h0 : cs[0]? = some (.int .i64 x0)
  h1 : cs[1]? = some (.int .i64 x1)
  h2 : cs[2]? = some (.int .i64 x2)
  h3 : cs[3]? = some (.int .i64 x3)
  h4 : cs[4]? = some (.int .i64 x4)
  h5 : cs[5]? = some (.int .i64 x5)
  h6 : cs[6]? = some (.int .i64 x6)
  c0 : ∀ j, j < k → cs[7 + j * 4]? = some (.int .i64 A)
  c1 : ∀ j, j < k → cs[7 + j * 4 + 1]? = some (.int .i64 0)
  c2 : ∀ j, j < k → cs[7 + j * 4 + 2]? = some (.int .i64 0)
  c3 : ∀ j, j < k → cs[7 + j * 4 + 3]? = some (.int .i64 1)
/-- Four cells are set. -/
abbrev st4 (cs : Array Value) (o : Nat) (A : Int) : Array Value := (((cs.setIfInBounds o (.int .i64 A)).setIfInBounds (o + 1) (.int .i64 0)).setIfInBounds (o + 2) (.int .i64 0)).setIfInBounds (o + 3) (.int .i64 1)
theorem st4_out (cs : Array Value) (o i : Nat) (A : Int) (h : i < o ∨ o + 4 ≤ i) : (st4 cs o A)[i]? = cs[i]? := by
  unfold st4
  rw [Array.getElem?_setIfInBounds_ne (by omega), Array.getElem?_setIfInBounds_ne (by omega), Array.getElem?_setIfInBounds_ne (by omega), Array.getElem?_setIfInBounds_ne (by omega)]
theorem st4_0 (cs : Array Value) (o : Nat) (A : Int) (h : o + 3 < cs.size) : (st4 cs o A)[o]? = some (.int .i64 A) := by
  unfold st4
  rw [Array.getElem?_setIfInBounds_ne (by omega), Array.getElem?_setIfInBounds_ne (by omega), Array.getElem?_setIfInBounds_ne (by omega), Array.getElem?_setIfInBounds_self_of_lt (by omega)]
theorem st4_1 (cs : Array Value) (o : Nat) (A : Int) (h : o + 3 < cs.size) : (st4 cs o A)[o + 1]? = some (.int .i64 0) := by
  unfold st4
  rw [Array.getElem?_setIfInBounds_ne (by omega), Array.getElem?_setIfInBounds_ne (by omega), Array.getElem?_setIfInBounds_self_of_lt (by simp; omega)]
theorem st4_2 (cs : Array Value) (o : Nat) (A : Int) (h : o + 3 < cs.size) : (st4 cs o A)[o + 2]? = some (.int .i64 0) := by
  unfold st4
  rw [Array.getElem?_setIfInBounds_ne (by omega), Array.getElem?_setIfInBounds_self_of_lt (by simp; omega)]
theorem st4_3 (cs : Array Value) (o : Nat) (A : Int) (h : o + 3 < cs.size) : (st4 cs o A)[o + 3]? = some (.int .i64 1) := by
  unfold st4
  rw [Array.getElem?_setIfInBounds_self_of_lt (by simp; omega)]
theorem Arr.next {cs : Array Value} {k : Nat} {x0 x1 x2 x3 x4 x5 x6 A : Int} (h : Arr cs k x0 x1 x2 x3 x4 x5 x6 A) (hk : k < 365) : Arr (st4 cs (7 + k * 4) A) (k + 1) x0 x1 x2 x3 x4 x5 x6 A := by
  have hl : 7 + k * 4 + 3 < cs.size := by rw [h.size]; omega
  refine ⟨by simp [st4, h.size], by rw [st4_out _ _ _ _ (by omega)]; exact h.h0, by rw [st4_out _ _ _ _ (by omega)]; exact h.h1, by rw [st4_out _ _ _ _ (by omega)]; exact h.h2, by rw [st4_out _ _ _ _ (by omega)]; exact h.h3, by rw [st4_out _ _ _ _ (by omega)]; exact h.h4, by rw [st4_out _ _ _ _ (by omega)]; exact h.h5, by rw [st4_out _ _ _ _ (by omega)]; exact h.h6, ?_, ?_, ?_, ?_⟩
  · intro j hj
    by_cases e : j = k
    · subst e; exact st4_0 _ _ _ hl
    · rw [st4_out _ _ _ _ (by omega)]; exact h.c0 j (by omega)
  · intro j hj
    by_cases e : j = k
    · subst e; exact st4_1 _ _ _ hl
    · rw [st4_out _ _ _ _ (by omega)]; exact h.c1 j (by omega)
  · intro j hj
    by_cases e : j = k
    · subst e; exact st4_2 _ _ _ hl
    · rw [st4_out _ _ _ _ (by omega)]; exact h.c2 j (by omega)
  · intro j hj
    by_cases e : j = k
    · subst e; exact st4_3 _ _ _ hl
    · rw [st4_out _ _ _ _ (by omega)]; exact h.c3 j (by omega)
theorem heap_st4 {w : World} {P o : Nat} {cs : Array Value} {A : Int} (h : w.heap[P]? = some (.cells cs 81 (0, 0))) :
    ((((w.setCell ⟨P, o, none⟩ (.int .i64 A)).setCell ⟨P, o + 1, none⟩ (.int .i64 0)).setCell ⟨P, o + 2, none⟩ (.int .i64 0)).setCell ⟨P, o + 3, none⟩ (.int .i64 1)).heap[P]? = some (.cells (st4 cs o A) 81 (0, 0)) :=
  heap_setCell_at (heap_setCell_at (heap_setCell_at (heap_setCell_at h)))
theorem Arr.md {w : World} {P : Nat} {cs : Array Value} {T d : Int} (h : Arr cs 365 T d (2 * d + 1) (rg T d) (e1 T d) (e2 T d) (e3 T d) (max ((rg T d + 32) / 64) 2)) (hb : w.heap[P]? = some (.cells cs 81 (0, 0))) (G : Gd T d) : Md w P T d (fun _ => sx0 T d) := by
  have e := cell_of_row w P
  refine ⟨G, ⟨?_, ?_, ?_, ?_, ?_, ?_, ?_⟩, ⟨cs, hb, h.size⟩, ?_, fun _ => sx0_fit T d G⟩
  · rw [cell_of_row _ _ _ _ _ _ hb]; exact h.h0
  · rw [cell_of_row _ _ _ _ _ _ hb]; exact h.h1
  · rw [cell_of_row _ _ _ _ _ _ hb]; exact h.h2
  · rw [cell_of_row _ _ _ _ _ _ hb]; exact h.h3
  · rw [cell_of_row _ _ _ _ _ _ hb]; exact h.h4
  · rw [cell_of_row _ _ _ _ _ _ hb]; exact h.h5
  · rw [cell_of_row _ _ _ _ _ _ hb]; exact h.h6
  · intro k hk
    refine ⟨⟨cs, hb, by rw [h.size]; omega⟩, ?_, ?_, ?_, ?_⟩
    · rw [cell_of_row _ _ _ _ _ _ hb]; exact h.c0 k hk
    · rw [cell_of_row _ _ _ _ _ _ hb]; exact h.c1 k hk
    · rw [cell_of_row _ _ _ _ _ _ hb]; exact h.c2 k hk
    · rw [cell_of_row _ _ _ _ _ _ hb]; exact h.c3 k hk
theorem cell_some {w : World} {P i : Nat} {cs : Array Value} (hb : w.heap[P]? = some (.cells cs 81 (0, 0))) (h : i < cs.size) : w.cell? ⟨P, i, none⟩ = some cs[i] := by
  rw [cell_of_row _ _ _ _ _ _ hb]; simp [h]

end Go.Proofs.YtahoeodpjdbdkabDoor
