import Derived.Test.YthhegomjipbdbaaGreatDoorWZ
import Derived.Deep.RegionHeldLaw
import Derived.Deep.RegionLaw
namespace Go.Proofs.YthhegomjipbdbaaGreatDoor
open Go.RowKit

theorem wrap_i {x : Int} (h0 : -9223372036854775808 ≤ x) (h1 : x ≤ 9223372036854775807) : IntKind.i64.wrap x = x := by
  simp only [IntKind.wrap, IntKind.bits, IntKind.signed]; simp; omega
theorem w64_in {x : Int} (h0 : -9223372036854775808 ≤ x) (h1 : x ≤ 9223372036854775807) : wrap64 x = x := by unfold wrap64; omega
theorem alloc_cell (w : World) (cs : Array Value) (t i : Nat) (v : Value) (h : cs[i]? = some v) : (w.alloc (.cells cs t (0, 0))).cell? ⟨w.heap.size, i, none⟩ = some v := by
  rw [cell_of_row _ _ _ _ _ _ (heap_alloc_new w _)]; exact h
theorem alloc_kept (w : World) (o : Obj) : Kept [] w (w.alloc o) := (Kept.refl [] w).alloc o

/-- A model's head in memory. -/
structure Hd (w : World) (P : Nat) (T d : Int) : Prop where
  c0 : w.cell? ⟨P, 0, none⟩ = some (.int .i64 T)
  c1 : w.cell? ⟨P, 1, none⟩ = some (.int .i64 d)
  c2 : w.cell? ⟨P, 2, none⟩ = some (.int .i64 (2 * d + 1))
  c3 : w.cell? ⟨P, 3, none⟩ = some (.int .i64 (rg T d))
  c4 : w.cell? ⟨P, 4, none⟩ = some (.int .i64 (e1 T d))
  c5 : w.cell? ⟨P, 5, none⟩ = some (.int .i64 (e2 T d))
  c6 : w.cell? ⟨P, 6, none⟩ = some (.int .i64 (e3 T d))

set_option maxHeartbeats 1000000 in
theorem cut_any (n l h : Int) (w : World) : Calls Tryz.prog 176 #[.int .i64 n, .int .i64 l, .int .i64 h] w fun e w' => e = .returned (.int .i64 (ct n l h)) ∧ w' = w := by
  go_enter Tryz.func176, Tryz.ntmps176
  go_wp2
  all_goals (go_ret; exact ⟨ret_int (by unfold ct; omega), rfl⟩)

set_option maxHeartbeats 1000000 in
theorem mag_any (n : Int) (w : World) (h0 : -9223372036854775807 ≤ n) (h1 : n ≤ 9223372036854775807) : Calls Tryz.prog 168 #[.int .i64 n] w fun e w' => e = .returned (.int .i64 (mg n)) ∧ w' = w := by
  by_cases h : n < 0
  · go_enter Tryz.func168, Tryz.ntmps168
    go_wp2
    go_ret
    exact ⟨ret_int (by unfold mg; rw [if_pos h]), rfl⟩
  · go_enter Tryz.func168, Tryz.ntmps168
    go_wp2
    go_ret
    exact ⟨ret_int (by unfold mg; rw [if_neg (by omega)]), rfl⟩

set_option maxHeartbeats 1000000 in
theorem sample_any (P : Nat) (T d v : Int) (w : World) (H : Hd w P T d) : Calls Tryz.prog 171 #[.pointer (some ⟨P, 0, none⟩), .int .i64 v] w fun e w' => e = .returned (.int .i64 (ct v 0 T)) ∧ w' = w := by
  have h0 := H.c0
  go_enter Tryz.func171, Tryz.ntmps171
  go_wp2_with (go_at_call 176; refine (cut_any _ _ _ _).mono ?_; rintro e w' ⟨rfl, rfl⟩)
  go_ret
  exact ⟨rfl, rfl⟩

set_option maxHeartbeats 1000000 in
theorem quotient_any (P : Nat) (T d v : Int) (w : World) (H : Hd w P T d) (G : Gd T d) : Calls Tryz.prog 167 #[.pointer (some ⟨P, 0, none⟩), .int .i64 v] w fun e w' => e = .returned (.int .i64 (ct v (-rg T d) (rg T d))) ∧ ∃ m, w' = w.drewN m := by
  have h0 := H.c3
  have ⟨g0, g1⟩ := rg_pos T d G
  generalize rg T d = R at *
  go_enter Tryz.func167, Tryz.ntmps167
  go_wp2
  go_quiet ((go_at_call 176; refine Calls.quiet_of_same (cut_any _ _ _ _)))
  go_wp2
  go_ret
  exact ⟨rfl, _, rfl⟩

set_option maxHeartbeats 1000000 in
theorem size_any (P : Nat) (T d g : Int) (w : World) (H : Hd w P T d) : Calls Tryz.prog 187 #[.pointer (some ⟨P, 0, none⟩), .int .i64 g] w fun e w' => e = .returned (.int .i64 (sz T d g)) ∧ w' = w := by
  obtain ⟨-, h1, -, -, h4, h5, h6⟩ := H
  unfold sz
  generalize e1 T d = a1 at *
  generalize e2 T d = a2 at *
  generalize e3 T d = a3 at *
  by_cases k0 : g ≤ d
  · rw [if_pos k0]
    go_enter Tryz.func187, Tryz.ntmps187
    go_wp2
    go_ret
    exact ⟨rfl, rfl⟩
  · rw [if_neg k0]
    by_cases k1 : g < a1
    · rw [if_pos k1]
      go_enter Tryz.func187, Tryz.ntmps187
      go_wp2
      go_ret
      exact ⟨rfl, rfl⟩
    · rw [if_neg k1]
      by_cases k2 : g < a2
      · rw [if_pos k2]
        go_enter Tryz.func187, Tryz.ntmps187
        go_wp2
        go_ret
        exact ⟨rfl, rfl⟩
      · rw [if_neg k2]
        by_cases k3 : g < a3
        · rw [if_pos k3]
          go_enter Tryz.func187, Tryz.ntmps187
          go_wp2
          go_ret
          exact ⟨rfl, rfl⟩
        · rw [if_neg k3]
          go_enter Tryz.func187, Tryz.ntmps187
          go_wp2
          go_ret
          exact ⟨rfl, rfl⟩

set_option maxHeartbeats 1000000 in
theorem degree_any (P : Nat) (T d g : Int) (w : World) (H : Hd w P T d) (g0 : -4096 ≤ g) (g1 : g ≤ 4096) : Calls Tryz.prog 181 #[.pointer (some ⟨P, 0, none⟩), .int .i64 g] w fun e w' => e = .returned (.int .i64 (dg T d g)) ∧ w' = w := by
  unfold dg
  have C := fun x => size_any P T d x w H
  by_cases h : g < 0
  · rw [if_pos h]
    have s0 := sz_lo T d (-g)
    have s1 := sz_hi T d (-g)
    have C := Hid.mk (C (-g))
    generalize sz T d (-g) = s at *
    go_enter Tryz.func181, Tryz.ntmps181
    go_wp2_with (go_at_call 187; refine C.out.mono ?_; rintro e w' ⟨rfl, rfl⟩)
    go_ret
    exact ⟨rfl, rfl⟩
  · rw [if_neg h]
    have C := Hid.mk (C g)
    generalize sz T d g = s at *
    go_enter Tryz.func181, Tryz.ntmps181
    go_wp2_with (go_at_call 187; refine C.out.mono ?_; rintro e w' ⟨rfl, rfl⟩)
    go_ret
    exact ⟨rfl, rfl⟩
end Go.Proofs.YthhegomjipbdbaaGreatDoor

namespace Go.Proofs.YthhegomjipbdbaaGreatDoor
open Go.RowKit

theorem Gd.tb {T d : Int} (G : Gd T d) : 1023 ≤ T ∧ T ≤ 4095 := by rcases G.top with h | h <;> omega
theorem cell_drewN (w : World) (n : Nat) (a : Addr) : (w.drewN n).cell? a = w.cell? a := by
  induction n with
  | zero => rfl
  | succ n ih => exact ih
theorem Hd.drewN {w : World} {P : Nat} {T d : Int} (H : Hd w P T d) (n : Nat) : Hd (w.drewN n) P T d := by
  obtain ⟨h0, h1, h2, h3, h4, h5, h6⟩ := H
  have e := cell_drewN w n
  exact ⟨by rw [e]; exact h0, by rw [e]; exact h1, by rw [e]; exact h2, by rw [e]; exact h3, by rw [e]; exact h4, by rw [e]; exact h5, by rw [e]; exact h6⟩

set_option maxHeartbeats 4000000 in
theorem shrink_any (P : Nat) (T d e : Int) (w : World) (H : Hd w P T d) (G : Gd T d) : Calls Tryz.prog 151 #[.pointer (some ⟨P, 0, none⟩), .int .i64 e] w fun r w' => r = .returned (.int .i64 (shr T d e)) ∧ ∃ m, w' = w.drewN m := by
  have ⟨t0, t1⟩ := G.tb
  have d0 := G.lo
  have d1 := G.hi
  have ⟨g0, g1⟩ := rg_pos T d G
  have x0 := ct_lo (n := e) (l := -T) (h := T) (by omega)
  have x1 := ct_hi (n := e) (l := -T) (h := T)
  have hx : shr T d e = rq T d (uq d (ct e (-T) T)) := rfl
  have hr : ∀ u, rq T d u = if u < -(rg T d / 2) then u + rg T d else if (rg T d - 1) / 2 < u then u - rg T d else u := fun u => rfl
  have hu : ∀ x, uq d x = if x < 0 then -((-x + d) / (2 * d + 1)) else (x + d) / (2 * d + 1) := fun x => rfl
  have hc : ct e (-T) T = min (max e (-T)) T := rfl
  have C1 := Hid.mk (fun w => cut_any e (-T) T w)
  rw [hx, hr, hu]
  have h0 := H.c0
  have h1 := H.c1
  have h2 := H.c2
  have h3 := H.c3
  clear hx hr hu hc H G
  generalize ct e (-T) T = x at *
  generalize rg T d = R at *
  have hm : mg x = if x < 0 then -x else x := rfl
  have C2 := Hid.mk (fun w => mag_any x w (by omega) (by omega))
  generalize mg x = y at *
  have y0 : 0 ≤ y ∧ y ≤ 4095 := by rw [hm]; split <;> omega
  have hU : IntKind.i64.wrap ((y + d).tdiv (2 * d + 1)) = (y + d) / (2 * d + 1) := by
    rw [Int.tdiv_eq_ediv_of_nonneg (by omega)]
    have a : 0 ≤ (y + d) / (2 * d + 1) := Int.ediv_nonneg (by omega) (by omega)
    have b : (y + d) / (2 * d + 1) < 5000 := Int.ediv_lt_of_lt_mul (by omega) (by omega)
    exact wrap_i (by omega) (by omega)
  have u0 : 0 ≤ (y + d) / (2 * d + 1) := Int.ediv_nonneg (by omega) (by omega)
  have u1 : (y + d) / (2 * d + 1) < 5000 := Int.ediv_lt_of_lt_mul (by omega) (by omega)
  have hz : 2 * d + 1 ≠ 0 := by omega
  have hy : (if x < 0 then -((-x + d) / (2 * d + 1)) else (x + d) / (2 * d + 1)) = if x < 0 then -((y + d) / (2 * d + 1)) else (y + d) / (2 * d + 1) := by
    rw [hm]; by_cases hn : x < 0
    · simp [hn]
    · simp [hn]
  rw [hy]
  clear hy hm
  generalize (y + d) / (2 * d + 1) = U at *
  by_cases hn : x < 0
  · simp only [if_pos hn]
    go_enter Tryz.func151, Tryz.ntmps151
    go_wp2
    go_quiet ((go_at_call 176; refine Calls.quiet_of_same (C1.out _)))
    go_wp2
    obtain ⟨w1, hw1, k1, k2, k3⟩ : ∃ w1, w.drewN nq = w1 ∧ w1.cell? ⟨P, 1, none⟩ = some (.int .i64 d) ∧ w1.cell? ⟨P, 2, none⟩ = some (.int .i64 (2 * d + 1)) ∧ w1.cell? ⟨P, 3, none⟩ = some (.int .i64 R) :=
      ⟨_, rfl, by rw [cell_drewN]; exact h1, by rw [cell_drewN]; exact h2, by rw [cell_drewN]; exact h3⟩
    rw [hw1]
    have hw2 := Hid.mk hw1
    clear hw1
    go_quiet ((go_at_call 168; refine Calls.quiet_of_same (C2.out _)))
    go_wp2
    all_goals (go_ret; refine ⟨ret_int ?_, _, by rw [← hw2.out, World.drewN_drewN]⟩; first | rfl | (split <;> first | omega | (split <;> omega)))
  · simp only [if_neg hn]
    go_enter Tryz.func151, Tryz.ntmps151
    go_wp2
    go_quiet ((go_at_call 176; refine Calls.quiet_of_same (C1.out _)))
    go_wp2
    obtain ⟨w1, hw1, k1, k2, k3⟩ : ∃ w1, w.drewN nq = w1 ∧ w1.cell? ⟨P, 1, none⟩ = some (.int .i64 d) ∧ w1.cell? ⟨P, 2, none⟩ = some (.int .i64 (2 * d + 1)) ∧ w1.cell? ⟨P, 3, none⟩ = some (.int .i64 R) :=
      ⟨_, rfl, by rw [cell_drewN]; exact h1, by rw [cell_drewN]; exact h2, by rw [cell_drewN]; exact h3⟩
    rw [hw1]
    have hw2 := Hid.mk hw1
    clear hw1
    go_quiet ((go_at_call 168; refine Calls.quiet_of_same (C2.out _)))
    go_wp2
    all_goals (go_ret; refine ⟨ret_int ?_, _, by rw [← hw2.out, World.drewN_drewN]⟩; first | rfl | (split <;> first | omega | (split <;> omega)))

end Go.Proofs.YthhegomjipbdbaaGreatDoor

namespace Go.Proofs.YthhegomjipbdbaaGreatDoor
open Go.RowKit

set_option maxHeartbeats 4000000 in
theorem grow_any (P : Nat) (T d p q : Int) (w : World) (H : Hd w P T d) (G : Gd T d) : Calls Tryz.prog 148 #[.pointer (some ⟨P, 0, none⟩), .int .i64 p, .int .i64 q] w fun r w' => r = .returned (.int .i64 (gro T d p q)) ∧ ∃ m, w' = w.drewN m := by
  have ⟨t0, t1⟩ := G.tb
  have d0 := G.lo
  have d1 := G.hi
  have ⟨g0, g1⟩ := rg_pos T d G
  have ⟨m0, m1⟩ := rg_mul T d G
  have ⟨q0, q1⟩ := qs_in T d q G
  have p0 := ct_lo (n := p) (l := 0) (h := T) (by omega)
  have p1 := ct_hi (n := p) (l := 0) (h := T)
  have hg : gro T d p q = ct (if ct p 0 T + ct q (-rg T d) (rg T d) * (2 * d + 1) < -d then ct p 0 T + ct q (-rg T d) (rg T d) * (2 * d + 1) + rg T d * (2 * d + 1) else if T + d < ct p 0 T + ct q (-rg T d) (rg T d) * (2 * d + 1) then ct p 0 T + ct q (-rg T d) (rg T d) * (2 * d + 1) - rg T d * (2 * d + 1) else ct p 0 T + ct q (-rg T d) (rg T d) * (2 * d + 1)) 0 T := rfl
  rw [hg]
  clear hg
  have C1 := Hid.mk (fun n v => sample_any P T d v (w.drewN n) (H.drewN n))
  have C2 := Hid.mk (fun n => quotient_any P T d q (w.drewN n) (H.drewN n) G)
  have C1p := Hid.mk (fun n => sample_any P T d p (w.drewN n) (H.drewN n))
  have h0 := H.c0
  have h1 := H.c1
  have h2 := H.c2
  have h3 := H.c3
  clear H G
  generalize ct p 0 T = a at *
  generalize rg T d = R at *
  generalize ct q (-R) R = b at *
  have hX : IntKind.i64.wrap (b * (2 * d + 1)) = b * (2 * d + 1) := wrap_i (by omega) (by omega)
  have hM : IntKind.i64.wrap (R * (2 * d + 1)) = R * (2 * d + 1) := wrap_i (by omega) (by omega)
  obtain ⟨M, eM⟩ : ∃ M, R * (2 * d + 1) = M := ⟨_, rfl⟩
  obtain ⟨X, eX⟩ : ∃ X, b * (2 * d + 1) = X := ⟨_, rfl⟩
  rw [eM] at m0 m1
  rw [eX] at q0 q1
  replace hM := hM.trans eM
  replace hX := hX.trans eX
  rw [eM, eX]
  clear eM eX
  have pre : ∀ nq : Nat, ∃ w1, w.drewN nq = w1 ∧ w1.cell? ⟨P, 0, none⟩ = some (.int .i64 T) ∧ w1.cell? ⟨P, 1, none⟩ = some (.int .i64 d) ∧ w1.cell? ⟨P, 2, none⟩ = some (.int .i64 (2 * d + 1)) ∧ w1.cell? ⟨P, 3, none⟩ = some (.int .i64 R) := fun nq =>
    ⟨_, rfl, by rw [cell_drewN]; exact h0, by rw [cell_drewN]; exact h1, by rw [cell_drewN]; exact h2, by rw [cell_drewN]; exact h3⟩
  have pre := Hid.mk pre
  by_cases c1 : a + X < -d
  · rw [if_pos c1]
    go_enter Tryz.func148, Tryz.ntmps148
    go_wp2
    go_quiet ((first | (go_at_call 171; refine Calls.quiet_of_same (C1p.out _)) | (go_at_call 167; refine Calls.quiet_of (C2.out _))))
    obtain ⟨w1, hw1, k0, k1, k2, k3⟩ := pre.out nq
    rw [hw1]
    have hw2 := Hid.mk hw1
    clear hw1
    go_wp2
    go_quiet (fail)
    go_wp2_with (go_at_call 171; rw [← hw2.out, World.drewN_drewN]; refine (C1.out _ _).mono ?_; rintro e w' ⟨rfl, rfl⟩)
    go_ret
    exact ⟨rfl, _, rfl⟩
  · rw [if_neg c1]
    by_cases c2 : T + d < a + X
    · rw [if_pos c2]
      go_enter Tryz.func148, Tryz.ntmps148
      go_wp2
      go_quiet ((first | (go_at_call 171; refine Calls.quiet_of_same (C1p.out _)) | (go_at_call 167; refine Calls.quiet_of (C2.out _))))
      obtain ⟨w1, hw1, k0, k1, k2, k3⟩ := pre.out nq
      rw [hw1]
      have hw2 := Hid.mk hw1
      clear hw1
      go_wp2
      go_quiet (fail)
      obtain ⟨w3, hw3, l2, l3⟩ : ∃ w3, w1.drewN nq = w3 ∧ w3.cell? ⟨P, 2, none⟩ = some (.int .i64 (2 * d + 1)) ∧ w3.cell? ⟨P, 3, none⟩ = some (.int .i64 R) :=
        ⟨_, rfl, by rw [cell_drewN]; exact k2, by rw [cell_drewN]; exact k3⟩
      rw [hw3]
      have hw4 := Hid.mk hw3
      clear hw3
      go_wp2
      go_quiet (fail)
      go_wp2_with (go_at_call 171; rw [← hw4.out, ← hw2.out, World.drewN_drewN, World.drewN_drewN]; refine (C1.out _ _).mono ?_; rintro e w' ⟨rfl, rfl⟩)
      go_ret
      exact ⟨rfl, _, rfl⟩
    · rw [if_neg c2]
      go_enter Tryz.func148, Tryz.ntmps148
      go_wp2
      go_quiet ((first | (go_at_call 171; refine Calls.quiet_of_same (C1p.out _)) | (go_at_call 167; refine Calls.quiet_of (C2.out _))))
      obtain ⟨w1, hw1, k0, k1, k2, k3⟩ := pre.out nq
      rw [hw1]
      have hw2 := Hid.mk hw1
      clear hw1
      go_wp2
      go_quiet (fail)
      go_wp2_with (go_at_call 171; rw [← hw2.out, World.drewN_drewN]; refine (C1.out _ _).mono ?_; rintro e w' ⟨rfl, rfl⟩)
      go_ret
      exact ⟨rfl, _, rfl⟩

set_option maxHeartbeats 1000000 in
theorem known_any (k : Int) (w : World) : Calls Tryz.prog 166 #[.int .i64 k] w fun e w' => e = .returned (.bool (decide (0 ≤ k ∧ k < 365))) ∧ w' = w := by
  by_cases h : 0 ≤ k
  · go_enter Tryz.func166, Tryz.ntmps166
    go_wp2
    go_ret
    exact ⟨ret_bool (by simp; try omega), rfl⟩
  · go_enter Tryz.func166, Tryz.ntmps166
    go_wp2
    go_ret
    exact ⟨ret_bool (by simp; try omega), rfl⟩

/-- Med of any numbers, as Go reckons it. -/
def gmed (a b c : Int) : Int := if max a b ≤ c then min a b else if c ≤ min a b then max a b else wrap64 (a + b - c)
theorem gmed_in {a b c : Int} (a0 : -4096 ≤ a) (a1 : a ≤ 4096) (b0 : -4096 ≤ b) (b1 : b ≤ 4096) : gmed a b c = med a b c := by
  unfold gmed med
  split
  · rfl
  · split
    · rfl
    · exact w64_in (by omega) (by omega)

theorem w64_sub (x c : Int) : wrap64 (wrap64 x - c) = wrap64 (x - c) := by unfold wrap64; omega
set_option maxHeartbeats 2000000 in
theorem med_any (a b c : Int) (w : World) : Calls Tryz.prog 182 #[.int .i64 a, .int .i64 b, .int .i64 c] w fun e w' => e = .returned (.int .i64 (gmed a b c)) ∧ w' = w := by
  go_enter Tryz.func182, Tryz.ntmps182
  go_wp2
  all_goals (go_ret; refine ⟨ret_int ?_, rfl⟩; unfold gmed; (repeat' split) <;> first | rfl | exact w64_sub _ _ | omega)

set_option maxHeartbeats 4000000 in
theorem find_any (P : Nat) (T d a b c e : Int) (w : World) (H : Hd w P T d) (G : Gd T d) : Calls Tryz.prog 164 #[.pointer (some ⟨P, 0, none⟩), .int .i64 a, .int .i64 b, .int .i64 c, .int .i64 e] w fun r w' => r = .returned (.tuple #[.int .i64 (fc T d a b c e), .int .i64 (fs T d a b c e)]) ∧ w' = w := by
  have ⟨t0, t1⟩ := G.tb
  have f0 := fk_lo T d a b c e
  have f1 := fk_hi T d a b c e
  have a0 := ct_lo (n := a) (l := 0) (h := T) (by omega)
  have a1 := ct_hi (n := a) (l := 0) (h := T)
  have b0 := ct_lo (n := b) (l := 0) (h := T) (by omega)
  have b1 := ct_hi (n := b) (l := 0) (h := T)
  have c0 := ct_lo (n := c) (l := 0) (h := T) (by omega)
  have c1 := ct_hi (n := c) (l := 0) (h := T)
  have e0 := ct_lo (n := e) (l := 0) (h := T) (by omega)
  have e1 := ct_hi (n := e) (l := 0) (h := T)
  have S := Hid.mk (fun v => sample_any P T d v w H)
  have D := Hid.mk (fun g h0 h1 => degree_any P T d g w H h0 h1)
  have hk : fk T d a b c e = (dg T d (ct e 0 T - ct b 0 T) * 9 + dg T d (ct b 0 T - ct c 0 T)) * 9 + dg T d (ct c 0 T - ct a 0 T) := rfl
  have hc : fc T d a b c e = if fk T d a b c e < 0 then -fk T d a b c e else fk T d a b c e := rfl
  have hs : fs T d a b c e = if fk T d a b c e < 0 then -1 else 1 := rfl
  rw [hc, hs]
  clear hc hs
  have x0 := dg_lo T d (ct e 0 T - ct b 0 T)
  have x1 := dg_hi T d (ct e 0 T - ct b 0 T)
  have y0 := dg_lo T d (ct b 0 T - ct c 0 T)
  have y1 := dg_hi T d (ct b 0 T - ct c 0 T)
  have z0 := dg_lo T d (ct c 0 T - ct a 0 T)
  have z1 := dg_hi T d (ct c 0 T - ct a 0 T)
  rw [hk]
  rw [hk] at f0 f1
  clear hk H
  by_cases hn : (dg T d (ct e 0 T - ct b 0 T) * 9 + dg T d (ct b 0 T - ct c 0 T)) * 9 + dg T d (ct c 0 T - ct a 0 T) < 0
  · simp only [if_pos hn]
    go_enter Tryz.func164, Tryz.ntmps164
    go_wp2_with (first | (go_at_call 171; refine (S.out _).mono ?_; rintro e w' ⟨rfl, rfl⟩) | (go_at_call 181; refine (D.out _ (by omega) (by omega)).mono ?_; rintro e w' ⟨rfl, rfl⟩))
    go_ret2
    exact ⟨rfl, rfl⟩
  · simp only [if_neg hn]
    go_enter Tryz.func164, Tryz.ntmps164
    go_wp2_with (first | (go_at_call 171; refine (S.out _).mono ?_; rintro e w' ⟨rfl, rfl⟩) | (go_at_call 181; refine (D.out _ (by omega) (by omega)).mono ?_; rintro e w' ⟨rfl, rfl⟩))
    go_ret2
    exact ⟨rfl, rfl⟩

end Go.Proofs.YthhegomjipbdbaaGreatDoor

namespace Go.Proofs.YthhegomjipbdbaaGreatDoor
open Go.RowKit

/-- What one context has learnt lies there. -/
structure At4 (w : World) (P o : Nat) (s : Sx) : Prop where
  blk : ∃ cs, w.heap[P]? = some (.cells cs 197 (0, 0)) ∧ o + 3 < cs.size
  ca : w.cell? ⟨P, o, none⟩ = some (.int .i64 s.A)
  cb : w.cell? ⟨P, o + 1, none⟩ = some (.int .i64 s.B)
  cs : w.cell? ⟨P, o + 2, none⟩ = some (.int .i64 s.S)
  cn : w.cell? ⟨P, o + 3, none⟩ = some (.int .i64 s.N)
theorem At4.fz {w : World} {P o : Nat} {s : Sx} (h : At4 w P o s) (i : Nat) : w.frozen? ⟨P, i, none⟩ = false := by
  obtain ⟨cs, hb, _⟩ := h.blk
  exact frozen_of_row _ _ _ _ _ hb
theorem At4.drewN {w : World} {P o : Nat} {s : Sx} (h : At4 w P o s) (n : Nat) : At4 (w.drewN n) P o s := by
  obtain ⟨⟨cs, h0, h5⟩, h1, h2, h3, h4⟩ := h
  have e : (w.drewN n).heap = w.heap := by
    induction n with
    | zero => rfl
    | succ n ih => exact ih
  exact ⟨⟨cs, by rw [e]; exact h0, h5⟩, by rw [cell_drewN]; exact h1, by rw [cell_drewN]; exact h2, by rw [cell_drewN]; exact h3, by rw [cell_drewN]; exact h4⟩

theorem cell_set_ne (w : World) (P i j : Nat) (v : Value) (h : i ≠ j) : (w.setCell ⟨P, i, none⟩ v).cell? ⟨P, j, none⟩ = w.cell? ⟨P, j, none⟩ :=
  World.cell?_setCell_other _ _ _ _ (fun e => h (congrArg Addr.off e))
theorem cell_set_eq (w : World) (P i : Nat) (cs : Array Value) (v : Value) (hb : w.heap[P]? = some (.cells cs 197 (0, 0))) (h : i < cs.size) : (w.setCell ⟨P, i, none⟩ v).cell? ⟨P, i, none⟩ = some v := by
  rw [cell_of_row _ _ _ _ _ _ (heap_setCell_at hb), Array.getElem?_setIfInBounds_self_of_lt h]

/-- The world w' is w but for these four cells. -/
structure Chg (w w' : World) (P o : Nat) (s : Sx) : Prop where
  kept : Kept [P] w w'
  now : At4 w' P o s
  size : ∀ cs, w.heap[P]? = some (.cells cs 197 (0, 0)) → ∃ cs', w'.heap[P]? = some (.cells cs' 197 (0, 0)) ∧ cs'.size = cs.size
  other : ∀ i, i < o ∨ o + 4 ≤ i → w'.cell? ⟨P, i, none⟩ = w.cell? ⟨P, i, none⟩
theorem Chg.refl {w : World} {P o : Nat} {s : Sx} (h : At4 w P o s) : Chg w w P o s := ⟨Kept.refl _ _, h, fun cs h => ⟨cs, h, rfl⟩, fun _ _ => rfl⟩
theorem Chg.drewN {w w' : World} {P o : Nat} {s : Sx} (h : Chg w w' P o s) (n : Nat) : Chg w (w'.drewN n) P o s := by
  have e : (w'.drewN n).heap = w'.heap := by
    induction n with
    | zero => rfl
    | succ n ih => exact ih
  exact ⟨h.kept.drewN n, h.now.drewN n, fun cs hc => by rw [e]; exact h.size cs hc, fun i hi => by rw [cell_drewN]; exact h.other i hi⟩
theorem Chg.set {w w' : World} {P o : Nat} {s : Sx} (h : Chg w w' P o s) (j : Nat) (hj : j < 4) (x : Int) :
    Chg w (w'.setCell ⟨P, o + j, none⟩ (.int .i64 x)) P o ⟨if j = 0 then x else s.A, if j = 1 then x else s.B, if j = 2 then x else s.S, if j = 3 then x else s.N⟩ := by
  obtain ⟨cs, hb, hl⟩ := h.now.blk
  refine ⟨h.kept.setCell (.inl (by simp)) _, ⟨⟨_, heap_setCell_at hb, by simpa using hl⟩, ?_, ?_, ?_, ?_⟩, ?_, ?_⟩
  · by_cases h0 : j = 0
    · subst h0; exact cell_set_eq _ _ _ cs _ hb (by omega)
    · rw [cell_set_ne _ _ _ _ _ (by omega)]; simp only [h0, if_false]; exact h.now.ca
  · by_cases h0 : j = 1
    · subst h0; exact cell_set_eq _ _ _ cs _ hb (by omega)
    · rw [cell_set_ne _ _ _ _ _ (by omega)]; simp only [h0, if_false]; exact h.now.cb
  · by_cases h0 : j = 2
    · subst h0; exact cell_set_eq _ _ _ cs _ hb (by omega)
    · rw [cell_set_ne _ _ _ _ _ (by omega)]; simp only [h0, if_false]; exact h.now.cs
  · by_cases h0 : j = 3
    · subst h0; exact cell_set_eq _ _ _ cs _ hb (by omega)
    · rw [cell_set_ne _ _ _ _ _ (by omega)]; simp only [h0, if_false]; exact h.now.cn
  · intro ds hd
    obtain ⟨cs', hc, hs⟩ := h.size ds hd
    exact ⟨_, heap_setCell_at hc, by simpa using hs⟩
  · intro i hi
    rw [cell_set_ne _ _ _ _ _ (by omega)]; exact h.other i hi
theorem Chg.trans {w w1 w2 : World} {P o : Nat} {s s2 : Sx} (h : Chg w w1 P o s) (k : Chg w1 w2 P o s2) : Chg w w2 P o s2 :=
  ⟨h.kept.trans k.kept, k.now, fun cs hc => by obtain ⟨ds, h1, h2⟩ := h.size cs hc; obtain ⟨es, h3, h4⟩ := k.size ds h1; exact ⟨es, h3, by omega⟩, fun i hi => (k.other i hi).trans (h.other i hi)⟩

set_option maxHeartbeats 2000000 in
theorem age_any (P o : Nat) (s : Sx) (w : World) (H : At4 w P o s) (a0 : 0 ≤ s.A) (a1 : s.A ≤ 1000000) (b0 : -1000000 ≤ s.B) (b1 : s.B ≤ 1000000) (n0 : 0 ≤ s.N) (n1 : s.N ≤ 64) :
    Calls Tryz.prog 169 #[.pointer (some ⟨P, o, none⟩)] w fun e w' => e = .returned (.tuple #[]) ∧ Chg w w' P o s.age := by
  have R := Chg.refl H
  have f0 := H.fz o
  have f1 := H.fz (o + 1)
  have f3 := H.fz (o + 3)
  obtain ⟨A, B, S, N⟩ := s
  dsimp only at *
  obtain ⟨h0, h1, h2, h3, h4⟩ := H
  dsimp only at *
  by_cases h : N = 64
  · subst h
    go_enter Tryz.func169, Tryz.ntmps169
    go_wp2
    go_end0
    exact ⟨rfl, (((R.set 0 (by omega) (A / 2)).set 1 (by omega) (B / 2)).set 3 (by omega) 32).set 3 (by omega) 33⟩
  · have e : (Sx.mk A B S N).age = ⟨A, B, S, N + 1⟩ := by simp [Sx.age, h]
    rw [e]
    clear e
    go_enter Tryz.func169, Tryz.ntmps169
    go_wp2
    go_end0
    exact ⟨rfl, R.set 3 (by omega) (N + 1)⟩

end Go.Proofs.YthhegomjipbdbaaGreatDoor
