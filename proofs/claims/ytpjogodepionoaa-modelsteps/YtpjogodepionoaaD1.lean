import Derived.Test.YtpjogodepionoaaC1
namespace Go.Proofs.Ytpjogodepionoaa
open Go.RowKit

theorem two_new (w : World) (a b : Value) (t : Nat) : ∃ w1, w.alloc (.cells #[a, b] t (0, 0)) = w1 ∧ Kept [] w w1 ∧ w1.heap[w.heap.size]? = some (.cells #[a, b] t (0, 0)) :=
  ⟨_, rfl, alloc_kept _ _, heap_alloc_new _ _⟩
theorem two {w : World} {B t : Nat} {a b : Value} (hh : w.heap[B]? = some (.cells #[a, b] t (0, 0))) :
    w.cell? ⟨B, 0, none⟩ = some a ∧ w.cell? ⟨B, 1, none⟩ = some b := by
  refine ⟨?_, ?_⟩
  all_goals (rw [cell_of_row _ _ _ _ _ _ hh]; rfl)

set_option maxHeartbeats 8000000 in
theorem far_law (D t x a : Int) (w : World) (D0 : -9223372036854775808 ≤ D) (D1 : D ≤ 9223372036854775807) (t0 : -9223372036854775808 ≤ t) (t1 : t ≤ 9223372036854775807)
    (x0 : -9223372036854775808 ≤ x) (x1 : x ≤ 9223372036854775807) (a0 : -9223372036854775808 ≤ a) (a1 : a ≤ 9223372036854775807) :
    Calls Try.prog 5 #[.agg #[.int .i64 D, .int .i64 t], .int .i64 x, .int .i64 a] w fun e w' => e = .returned (.bool true) ∧ Kept [] w w' := by
  have CM := Hid.mk (fun w => made_any D t w D0 D1 t0 t1)
  have CX := Hid.mk (fun n (hn : 0 < n) w => pick_any x n w x0 x1 hn)
  have CA := Hid.mk (fun n (hn : 0 < n) w => pick_any a n w a0 a1 hn)
  clear D0 D1 t0 t1 x0 x1 a0 a1
  go_enter Try.func5, Try.ntmps5
  go_wp2_with (fail)
  obtain ⟨w1, hw1, k1, hb1⟩ := two_new w (.int .i64 D) (.int .i64 t) 23
  rw [hw1]
  clear hw1
  obtain ⟨B, hB⟩ : ∃ B, B = w.heap.size := ⟨_, rfl⟩
  rw [← hB] at hb1 ⊢
  clear hB
  refine (shown_any w1).mono ?_
  rintro e w2 ⟨rfl, k2⟩
  have ⟨b0, b1⟩ := two (k2.heap hb1 (by simp))
  go_wp2_with (fail)
  refine (CM.out w2).mono ?_
  rintro e w3 ⟨P, T, d, G, rfl, M, hl, k3, -, -⟩
  have ⟨g0, g1⟩ := G.tb
  have d0 := G.lo
  have d1 := G.hi
  go_wp2_with (fail)
  refine (CX.out (T + 1) (by omega) w3).mono ?_
  rintro e w4 ⟨rfl, rfl⟩
  have x0 := pick_lo x (T + 1) (by omega)
  have x1 := pick_hi x (T + 1) (by omega)
  generalize pick x (T + 1) = y at *
  go_wp2_with (fail)
  refine (CA.out (T + 1) (by omega) w4).mono ?_
  rintro e w5 ⟨rfl, rfl⟩
  have a0 := pick_lo a (T + 1) (by omega)
  have a1 := pick_hi a (T + 1) (by omega)
  generalize pick a (T + 1) = b at *
  go_wp2_with (fail)
  refine (size17_any (y - b) w5 (by omega) (by omega)).mono ?_
  rintro e w6 ⟨rfl, rfl⟩
  have HM : Hid (mg (y - b) = if y - b < 0 then -(y - b) else y - b) := Hid.mk rfl
  have S := Hid.mk (fun w (k : Kept [] w6 w) => shrink_any P T d (y - b) w (M.keep k (by simp)).hd G)
  have GR := Hid.mk (fun q w (k : Kept [] w6 w) => grow_any P T d b q w (M.keep k (by simp)).hd G)
  generalize mg (y - b) = z at *
  by_cases hz : z ≤ d
  · have ⟨f0, f1⟩ := far_zero T d y b G a0 (by omega) x0 (by omega) (by have := HM.out; split at this <;> omega) (by have := HM.out; split at this <;> omega)
    rw [f0] at S
    go_wp2_with (fail)
    refine (S.out w6 (Kept.refl _ _)).mono ?_
    rintro e w7 ⟨rfl, m7, rfl⟩
    go_wp2_with (fail)
    have G0 := Hid.mk (GR.out 0 (w6.drewN m7) ((Kept.refl _ _).drewN _))
    rw [f1] at G0
    refine G0.out.mono ?_
    rintro e w8 ⟨rfl, m8, rfl⟩
    go_wp2
    go_ret
    exact ⟨rfl, ((k1.trans k2).trans k3).drewN _⟩
  · have ⟨f0, f1⟩ := far_all T d y b G a0 (by omega) x0 (by omega) (by have := HM.out; split at this <;> omega)
    have G0 := Hid.mk (GR.out (shr T d (y - b)))
    have yl : 0 ≤ gro T d b (shr T d (y - b)) := ct_lo (by omega)
    have yh : gro T d b (shr T d (y - b)) ≤ T := ct_hi
    generalize shr T d (y - b) = q at *
    generalize gro T d b q = v at *
    go_wp2_with (fail)
    refine (S.out w6 (Kept.refl _ _)).mono ?_
    rintro e w7 ⟨rfl, m7, rfl⟩
    have hq : (q == 0) = false := by simpa using f0
    go_wp2_with (fail)
    refine (G0.out (w6.drewN m7) ((Kept.refl _ _).drewN _)).mono ?_
    rintro e w8 ⟨rfl, m8, rfl⟩
    have hv : d < mg (v - b) := by unfold mg; split <;> omega
    have C9 := Hid.mk (fun w => size17_any (v - b) w (by omega) (by omega))
    generalize mg (v - b) = g at *
    go_wp2_with (go_at_call 17; refine (C9.out _).mono ?_; rintro e w9 ⟨rfl, rfl⟩)
    go_ret
    exact ⟨by simp [f0], ((k1.trans k2).trans k3).drewN _⟩
end Go.Proofs.Ytpjogodepionoaa
