import Derived.Test.YtpjogodepionoaaD1
namespace Go.Proofs.Ytpjogodepionoaa
open Go.RowKit

theorem four_at {w : World} {B t : Nat} {a b c d : Value} (hh : w.heap[B]? = some (.cells #[a, b, c, d] t (0, 0))) :
    w.cell? ⟨B, 0, none⟩ = some a ∧ w.cell? ⟨B, 1, none⟩ = some b ∧ w.cell? ⟨B, 2, none⟩ = some c ∧ w.cell? ⟨B, 3, none⟩ = some d := by
  refine ⟨?_, ?_, ?_, ?_⟩
  all_goals (rw [cell_of_row _ _ _ _ _ _ hh]; rfl)
theorem two_boxes (w : World) (x y : Array Value) (s t : Nat) : ∃ w1, (w.alloc (.cells x s (0, 0))).alloc (.cells y t (0, 0)) = w1 ∧ Kept [] w w1 ∧ w1.heap[w.heap.size]? = some (.cells x s (0, 0)) ∧ w1.heap[w.heap.size + 1]? = some (.cells y t (0, 0)) :=
  ⟨_, rfl, (alloc_kept _ _).trans (alloc_kept _ _), (alloc_kept _ _).heap (heap_alloc_new _ _) (by simp), by have := heap_alloc_new (w.alloc (.cells x s (0, 0))) (.cells y t (0, 0)); simpa using this⟩

set_option maxHeartbeats 8000000 in
set_option maxRecDepth 1000000 in
theorem turned_law (D t a b c f : Int) (w : World) (D0 : -9223372036854775808 ≤ D) (D1 : D ≤ 9223372036854775807) (t0 : -9223372036854775808 ≤ t) (t1 : t ≤ 9223372036854775807)
    (a0 : -9223372036854775808 ≤ a) (a1 : a ≤ 9223372036854775807) (b0 : -9223372036854775808 ≤ b) (b1 : b ≤ 9223372036854775807) (c0 : -9223372036854775808 ≤ c) (c1 : c ≤ 9223372036854775807) (f0 : -9223372036854775808 ≤ f) (f1 : f ≤ 9223372036854775807) :
    Calls Try.prog 6 #[.agg #[.int .i64 D, .int .i64 t], .agg #[.int .i64 a, .int .i64 b, .int .i64 c, .int .i64 f]] w fun e w' => e = .returned (.bool true) ∧ Kept [] w w' := by
  have CM := Hid.mk (fun w => made_any D t w D0 D1 t0 t1)
  have CA := Hid.mk (fun n (hn : 0 < n) w => pick_any a n w a0 a1 hn)
  have CB := Hid.mk (fun n (hn : 0 < n) w => pick_any b n w b0 b1 hn)
  have CC := Hid.mk (fun n (hn : 0 < n) w => pick_any c n w c0 c1 hn)
  have CF := Hid.mk (fun n (hn : 0 < n) w => pick_any f n w f0 f1 hn)
  clear D0 D1 t0 t1 a0 a1 b0 b1 c0 c1 f0 f1
  go_enter Try.func6, Try.ntmps6
  go_wp2_with (fail)
  obtain ⟨w1, hw1, k1, hb1, hb2⟩ := two_boxes w #[.int .i64 D, .int .i64 t] #[.int .i64 a, .int .i64 b, .int .i64 c, .int .i64 f] 23 44
  rw [hw1]
  clear hw1
  obtain ⟨B, hB⟩ : ∃ B, B = w.heap.size := ⟨_, rfl⟩
  rw [← hB] at hb1 hb2 ⊢
  clear hB
  refine (shown_any w1).mono ?_
  rintro e w2 ⟨rfl, k2⟩
  have ⟨x0, x1⟩ := two (k2.heap hb1 (by simp))
  go_wp2_with (fail)
  refine (CM.out w2).mono ?_
  rintro e w3 ⟨P, T, d, G, rfl, M, hl, k3, -, -⟩
  have ⟨g0, g1⟩ := G.tb
  have d0 := G.lo
  have d1 := G.hi
  have ⟨y0, y1, y2, y3⟩ := four_at ((k2.trans k3).heap hb2 (by simp))
  go_wp2_with (fail)
  refine (CA.out (T + 1) (by omega) w3).mono ?_
  rintro e w4 ⟨rfl, rfl⟩
  have a0 := pick_lo a (T + 1) (by omega)
  have a1 := pick_hi a (T + 1) (by omega)
  generalize pick a (T + 1) = a' at *
  go_wp2_with (fail)
  refine (CB.out (T + 1) (by omega) w4).mono ?_
  rintro e w5 ⟨rfl, rfl⟩
  have b0 := pick_lo b (T + 1) (by omega)
  have b1 := pick_hi b (T + 1) (by omega)
  generalize pick b (T + 1) = b' at *
  go_wp2_with (fail)
  refine (CC.out (T + 1) (by omega) w5).mono ?_
  rintro e w6 ⟨rfl, rfl⟩
  have c0 := pick_lo c (T + 1) (by omega)
  have c1 := pick_hi c (T + 1) (by omega)
  generalize pick c (T + 1) = c' at *
  go_wp2_with (fail)
  refine (CF.out (T + 1) (by omega) w6).mono ?_
  rintro e w7 ⟨rfl, rfl⟩
  have f0 := pick_lo f (T + 1) (by omega)
  have f1 := pick_hi f (T + 1) (by omega)
  generalize pick f (T + 1) = f' at *
  have F1 := find_any P T d a' b' c' f' w7 M.hd G
  have F2 := find_any P T d (T - a') (T - b') (T - c') (T - f') w7 M.hd G
  have e1 : fc T d a' b' c' f' = if fk T d a' b' c' f' < 0 then -fk T d a' b' c' f' else fk T d a' b' c' f' := rfl
  have e2 : fs T d a' b' c' f' = if fk T d a' b' c' f' < 0 then -1 else 1 := rfl
  have e3 : fc T d (T - a') (T - b') (T - c') (T - f') = if fk T d (T - a') (T - b') (T - c') (T - f') < 0 then -fk T d (T - a') (T - b') (T - c') (T - f') else fk T d (T - a') (T - b') (T - c') (T - f') := rfl
  have e4 : fs T d (T - a') (T - b') (T - c') (T - f') = if fk T d (T - a') (T - b') (T - c') (T - f') < 0 then -1 else 1 := rfl
  rw [fk_neg T d a' b' c' f' d0 a0 (by omega) b0 (by omega) c0 (by omega) f0 (by omega)] at e3 e4
  have z0 := fk_lo T d a' b' c' f'
  have z1 := fk_hi T d a' b' c' f'
  rw [e1, e2] at F1
  rw [e3, e4] at F2
  clear e1 e2 e3 e4
  generalize fk T d a' b' c' f' = k at *
  have HW : Hid (Kept [] w w7) := Hid.mk ((k1.trans k2).trans k3)
  rcases (show k < 0 ∨ k = 0 ∨ 0 < k by omega) with hk | rfl | hk
  · rw [if_pos hk, if_pos hk] at F1
    rw [if_neg (by omega), if_neg (by omega)] at F2
    have HF1 := Hid.mk F1
    have HF2 := Hid.mk F2
    have hk' : (k == 0) = false := by simp; omega
    have hk2 : (-k == 0) = false := by simp; omega
    clear F1 F2 k1 k2 k3 M CM CA CB CC CF
    go_wp2_with (fail)
    refine HF1.out.mono ?_
    rintro e w8 ⟨rfl, rfl⟩
    go_wp2_with (fail)
    refine HF2.out.mono ?_
    rintro e w9 ⟨rfl, rfl⟩
    go_wp2
    go_ret
    exact ⟨rfl, HW.out⟩
  · rw [if_neg (by omega), if_neg (by omega)] at F1
    rw [if_neg (by omega), if_neg (by omega)] at F2
    have HF1 := Hid.mk F1
    have HF2 := Hid.mk F2
    clear F1 F2 k1 k2 k3 M CM CA CB CC CF
    go_wp2_with (fail)
    refine HF1.out.mono ?_
    rintro e w8 ⟨rfl, rfl⟩
    go_wp2_with (fail)
    refine HF2.out.mono ?_
    rintro e w9 ⟨rfl, rfl⟩
    go_wp2
    go_ret
    exact ⟨rfl, HW.out⟩
  · rw [if_neg (by omega), if_neg (by omega)] at F1
    rw [if_pos (by omega), if_pos (by omega), Int.neg_neg] at F2
    have HF1 := Hid.mk F1
    have HF2 := Hid.mk F2
    have hk' : (k == 0) = false := by simp; omega
    clear F1 F2 k1 k2 k3 M CM CA CB CC CF
    go_wp2_with (fail)
    refine HF1.out.mono ?_
    rintro e w8 ⟨rfl, rfl⟩
    go_wp2_with (fail)
    refine HF2.out.mono ?_
    rintro e w9 ⟨rfl, rfl⟩
    go_wp2
    go_ret
    exact ⟨rfl, HW.out⟩
end Go.Proofs.Ytpjogodepionoaa
