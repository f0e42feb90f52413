import Derived.Test.YtahoeodpjdbdkaaDoormA1
namespace Go.Proofs.YtahoeodpjdbdkaaDoor
open Go.RowKit

theorem Gd.tb {T d : Int} (G : Gd T d) : 1023 ≤ T ∧ T ≤ 4095 := by rcases G.top with h | h <;> omega
theorem cell_drewN (w : World) (n : Nat) (a : Addr) : (w.drewN n).cell? a = w.cell? a := by
  induction n with
  | zero => rfl
  | succ n ih => exact ih
theorem Hd.drewN {w : World} {P : Nat} {T d : Int} (H : Hd w P T d) (n : Nat) : Hd (w.drewN n) P T d := by
  obtain ⟨h0, h1, h2, h3, h4, h5, h6⟩ := H
  have e := cell_drewN w n
  exact ⟨by rw [e]; exact h0, by rw [e]; exact h1, by rw [e]; exact h2, by rw [e]; exact h3, by rw [e]; exact h4, by rw [e]; exact h5, by rw [e]; exact h6⟩

set_option maxHeartbeats 4000000 in
theorem shrink_any (P : Nat) (T d e : Int) (w : World) (H : Hd w P T d) (G : Gd T d) : Calls Tryd.prog 66 #[.pointer (some ⟨P, 0, none⟩), .int .i64 e] w fun r w' => r = .returned (.int .i64 (shr T d e)) ∧ ∃ m, w' = w.drewN m := by
  have ⟨t0, t1⟩ := G.tb
  have d0 := G.lo
  have d1 := G.hi
  have ⟨g0, g1⟩ := rg_pos T d G
  have x0 := ct_lo (n := e) (l := -T) (h := T) (by omega)
  have x1 := ct_hi (n := e) (l := -T) (h := T)
  have hx : shr T d e = rq T d (uq d (ct e (-T) T)) := rfl
  have hr : ∀ u, rq T d u = if u < -(rg T d / 2) then u + rg T d else if (rg T d - 1) / 2 < u then u - rg T d else u := fun u => rfl
  have hu : ∀ x, uq d x = if x < 0 then -((-x + d) / (2 * d + 1)) else (x + d) / (2 * d + 1) := fun x => rfl
  have hc : ct e (-T) T = min (max e (-T)) T := rfl
  have C1 := Hid.mk (fun w => cut_any e (-T) T w)
  rw [hx, hr, hu]
  have h0 := H.c0
  have h1 := H.c1
  have h2 := H.c2
  have h3 := H.c3
  clear hx hr hu hc H G
  generalize ct e (-T) T = x at *
  generalize rg T d = R at *
  have hm : mg x = if x < 0 then -x else x := rfl
  have C2 := Hid.mk (fun w => mag_any x w (by omega) (by omega))
  generalize mg x = y at *
  have y0 : 0 ≤ y ∧ y ≤ 4095 := by rw [hm]; split <;> omega
  have hU : IntKind.i64.wrap ((y + d).tdiv (2 * d + 1)) = (y + d) / (2 * d + 1) := by
    rw [Int.tdiv_eq_ediv_of_nonneg (by omega)]
    have a : 0 ≤ (y + d) / (2 * d + 1) := Int.ediv_nonneg (by omega) (by omega)
    have b : (y + d) / (2 * d + 1) < 5000 := Int.ediv_lt_of_lt_mul (by omega) (by omega)
    exact wrap_i (by omega) (by omega)
  have u0 : 0 ≤ (y + d) / (2 * d + 1) := Int.ediv_nonneg (by omega) (by omega)
  have u1 : (y + d) / (2 * d + 1) < 5000 := Int.ediv_lt_of_lt_mul (by omega) (by omega)
  have hz : 2 * d + 1 ≠ 0 := by omega
  have hy : (if x < 0 then -((-x + d) / (2 * d + 1)) else (x + d) / (2 * d + 1)) = if x < 0 then -((y + d) / (2 * d + 1)) else (y + d) / (2 * d + 1) := by
    rw [hm]; by_cases hn : x < 0
    · simp [hn]
    · simp [hn]
  rw [hy]
  clear hy hm
  generalize (y + d) / (2 * d + 1) = U at *
  by_cases hn : x < 0
  · simp only [if_pos hn]
    go_enter Tryd.func66, Tryd.ntmps66
    go_wp2
    go_quiet ((go_at_call 88; refine Calls.quiet_of_same (C1.out _)))
    go_wp2
    obtain ⟨w1, hw1, k1, k2, k3⟩ : ∃ w1, w.drewN nq = w1 ∧ w1.cell? ⟨P, 1, none⟩ = some (.int .i64 d) ∧ w1.cell? ⟨P, 2, none⟩ = some (.int .i64 (2 * d + 1)) ∧ w1.cell? ⟨P, 3, none⟩ = some (.int .i64 R) :=
      ⟨_, rfl, by rw [cell_drewN]; exact h1, by rw [cell_drewN]; exact h2, by rw [cell_drewN]; exact h3⟩
    rw [hw1]
    have hw2 := Hid.mk hw1
    clear hw1
    go_quiet ((go_at_call 76; refine Calls.quiet_of_same (C2.out _)))
    go_wp2
    all_goals (go_ret; refine ⟨ret_int ?_, _, by rw [← hw2.out, World.drewN_drewN]⟩; first | rfl | (split <;> first | omega | (split <;> omega)))
  · simp only [if_neg hn]
    go_enter Tryd.func66, Tryd.ntmps66
    go_wp2
    go_quiet ((go_at_call 88; refine Calls.quiet_of_same (C1.out _)))
    go_wp2
    obtain ⟨w1, hw1, k1, k2, k3⟩ : ∃ w1, w.drewN nq = w1 ∧ w1.cell? ⟨P, 1, none⟩ = some (.int .i64 d) ∧ w1.cell? ⟨P, 2, none⟩ = some (.int .i64 (2 * d + 1)) ∧ w1.cell? ⟨P, 3, none⟩ = some (.int .i64 R) :=
      ⟨_, rfl, by rw [cell_drewN]; exact h1, by rw [cell_drewN]; exact h2, by rw [cell_drewN]; exact h3⟩
    rw [hw1]
    have hw2 := Hid.mk hw1
    clear hw1
    go_quiet ((go_at_call 76; refine Calls.quiet_of_same (C2.out _)))
    go_wp2
    all_goals (go_ret; refine ⟨ret_int ?_, _, by rw [← hw2.out, World.drewN_drewN]⟩; first | rfl | (split <;> first | omega | (split <;> omega)))

end Go.Proofs.YtahoeodpjdbdkaaDoor
