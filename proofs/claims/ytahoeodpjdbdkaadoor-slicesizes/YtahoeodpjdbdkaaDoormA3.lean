import Derived.Test.YtahoeodpjdbdkaaDoormA2
namespace Go.Proofs.YtahoeodpjdbdkaaDoor
open Go.RowKit

set_option maxHeartbeats 4000000 in
theorem grow_any (P : Nat) (T d p q : Int) (w : World) (H : Hd w P T d) (G : Gd T d) : Calls Tryd.prog 53 #[.pointer (some ⟨P, 0, none⟩), .int .i64 p, .int .i64 q] w fun r w' => r = .returned (.int .i64 (gro T d p q)) ∧ ∃ m, w' = w.drewN m := by
  have ⟨t0, t1⟩ := G.tb
  have d0 := G.lo
  have d1 := G.hi
  have ⟨g0, g1⟩ := rg_pos T d G
  have ⟨m0, m1⟩ := rg_mul T d G
  have ⟨q0, q1⟩ := qs_in T d q G
  have p0 := ct_lo (n := p) (l := 0) (h := T) (by omega)
  have p1 := ct_hi (n := p) (l := 0) (h := T)
  have hg : gro T d p q = ct (if ct p 0 T + ct q (-rg T d) (rg T d) * (2 * d + 1) < -d then ct p 0 T + ct q (-rg T d) (rg T d) * (2 * d + 1) + rg T d * (2 * d + 1) else if T + d < ct p 0 T + ct q (-rg T d) (rg T d) * (2 * d + 1) then ct p 0 T + ct q (-rg T d) (rg T d) * (2 * d + 1) - rg T d * (2 * d + 1) else ct p 0 T + ct q (-rg T d) (rg T d) * (2 * d + 1)) 0 T := rfl
  rw [hg]
  clear hg
  have C1 := Hid.mk (fun n v => sample_any P T d v (w.drewN n) (H.drewN n))
  have C2 := Hid.mk (fun n => quotient_any P T d q (w.drewN n) (H.drewN n) G)
  have C1p := Hid.mk (fun n => sample_any P T d p (w.drewN n) (H.drewN n))
  have h0 := H.c0
  have h1 := H.c1
  have h2 := H.c2
  have h3 := H.c3
  clear H G
  generalize ct p 0 T = a at *
  generalize rg T d = R at *
  generalize ct q (-R) R = b at *
  have hX : IntKind.i64.wrap (b * (2 * d + 1)) = b * (2 * d + 1) := wrap_i (by omega) (by omega)
  have hM : IntKind.i64.wrap (R * (2 * d + 1)) = R * (2 * d + 1) := wrap_i (by omega) (by omega)
  obtain ⟨M, eM⟩ : ∃ M, R * (2 * d + 1) = M := ⟨_, rfl⟩
  obtain ⟨X, eX⟩ : ∃ X, b * (2 * d + 1) = X := ⟨_, rfl⟩
  rw [eM] at m0 m1
  rw [eX] at q0 q1
  replace hM := hM.trans eM
  replace hX := hX.trans eX
  rw [eM, eX]
  clear eM eX
  have pre : ∀ nq : Nat, ∃ w1, w.drewN nq = w1 ∧ w1.cell? ⟨P, 0, none⟩ = some (.int .i64 T) ∧ w1.cell? ⟨P, 1, none⟩ = some (.int .i64 d) ∧ w1.cell? ⟨P, 2, none⟩ = some (.int .i64 (2 * d + 1)) ∧ w1.cell? ⟨P, 3, none⟩ = some (.int .i64 R) := fun nq =>
    ⟨_, rfl, by rw [cell_drewN]; exact h0, by rw [cell_drewN]; exact h1, by rw [cell_drewN]; exact h2, by rw [cell_drewN]; exact h3⟩
  have pre := Hid.mk pre
  by_cases c1 : a + X < -d
  · rw [if_pos c1]
    go_enter Tryd.func53, Tryd.ntmps53
    go_wp2
    go_quiet ((first | (go_at_call 79; refine Calls.quiet_of_same (C1p.out _)) | (go_at_call 75; refine Calls.quiet_of (C2.out _))))
    obtain ⟨w1, hw1, k0, k1, k2, k3⟩ := pre.out nq
    rw [hw1]
    have hw2 := Hid.mk hw1
    clear hw1
    go_wp2
    go_quiet (fail)
    go_wp2_with (go_at_call 79; rw [← hw2.out, World.drewN_drewN]; refine (C1.out _ _).mono ?_; rintro e w' ⟨rfl, rfl⟩)
    go_ret
    exact ⟨rfl, _, rfl⟩
  · rw [if_neg c1]
    by_cases c2 : T + d < a + X
    · rw [if_pos c2]
      go_enter Tryd.func53, Tryd.ntmps53
      go_wp2
      go_quiet ((first | (go_at_call 79; refine Calls.quiet_of_same (C1p.out _)) | (go_at_call 75; refine Calls.quiet_of (C2.out _))))
      obtain ⟨w1, hw1, k0, k1, k2, k3⟩ := pre.out nq
      rw [hw1]
      have hw2 := Hid.mk hw1
      clear hw1
      go_wp2
      go_quiet (fail)
      obtain ⟨w3, hw3, l2, l3⟩ : ∃ w3, w1.drewN nq = w3 ∧ w3.cell? ⟨P, 2, none⟩ = some (.int .i64 (2 * d + 1)) ∧ w3.cell? ⟨P, 3, none⟩ = some (.int .i64 R) :=
        ⟨_, rfl, by rw [cell_drewN]; exact k2, by rw [cell_drewN]; exact k3⟩
      rw [hw3]
      have hw4 := Hid.mk hw3
      clear hw3
      go_wp2
      go_quiet (fail)
      go_wp2_with (go_at_call 79; rw [← hw4.out, ← hw2.out, World.drewN_drewN, World.drewN_drewN]; refine (C1.out _ _).mono ?_; rintro e w' ⟨rfl, rfl⟩)
      go_ret
      exact ⟨rfl, _, rfl⟩
    · rw [if_neg c2]
      go_enter Tryd.func53, Tryd.ntmps53
      go_wp2
      go_quiet ((first | (go_at_call 79; refine Calls.quiet_of_same (C1p.out _)) | (go_at_call 75; refine Calls.quiet_of (C2.out _))))
      obtain ⟨w1, hw1, k0, k1, k2, k3⟩ := pre.out nq
      rw [hw1]
      have hw2 := Hid.mk hw1
      clear hw1
      go_wp2
      go_quiet (fail)
      go_wp2_with (go_at_call 79; rw [← hw2.out, World.drewN_drewN]; refine (C1.out _ _).mono ?_; rintro e w' ⟨rfl, rfl⟩)
      go_ret
      exact ⟨rfl, _, rfl⟩

set_option maxHeartbeats 1000000 in
theorem known_any (k : Int) (w : World) : Calls Tryd.prog 74 #[.int .i64 k] w fun e w' => e = .returned (.bool (decide (0 ≤ k ∧ k < 365))) ∧ w' = w := by
  by_cases h : 0 ≤ k
  · go_enter Tryd.func74, Tryd.ntmps74
    go_wp2
    go_ret
    exact ⟨ret_bool (by simp; try omega), rfl⟩
  · go_enter Tryd.func74, Tryd.ntmps74
    go_wp2
    go_ret
    exact ⟨ret_bool (by simp; try omega), rfl⟩

/-- Med of any numbers, as Go reckons it. -/
def gmed (a b c : Int) : Int := if max a b ≤ c then min a b else if c ≤ min a b then max a b else wrap64 (a + b - c)
theorem gmed_in {a b c : Int} (a0 : -4096 ≤ a) (a1 : a ≤ 4096) (b0 : -4096 ≤ b) (b1 : b ≤ 4096) : gmed a b c = med a b c := by
  unfold gmed med
  split
  · rfl
  · split
    · rfl
    · exact w64_in (by omega) (by omega)

theorem w64_sub (x c : Int) : wrap64 (wrap64 x - c) = wrap64 (x - c) := by unfold wrap64; omega
set_option maxHeartbeats 2000000 in
theorem med_any (a b c : Int) (w : World) : Calls Tryd.prog 92 #[.int .i64 a, .int .i64 b, .int .i64 c] w fun e w' => e = .returned (.int .i64 (gmed a b c)) ∧ w' = w := by
  go_enter Tryd.func92, Tryd.ntmps92
  go_wp2
  all_goals (go_ret; refine ⟨ret_int ?_, rfl⟩; unfold gmed; (repeat' split) <;> first | rfl | exact w64_sub _ _ | omega)

set_option maxHeartbeats 4000000 in
theorem find_any (P : Nat) (T d a b c e : Int) (w : World) (H : Hd w P T d) (G : Gd T d) : Calls Tryd.prog 72 #[.pointer (some ⟨P, 0, none⟩), .int .i64 a, .int .i64 b, .int .i64 c, .int .i64 e] w fun r w' => r = .returned (.tuple #[.int .i64 (fc T d a b c e), .int .i64 (fs T d a b c e)]) ∧ w' = w := by
  have ⟨t0, t1⟩ := G.tb
  have f0 := fk_lo T d a b c e
  have f1 := fk_hi T d a b c e
  have a0 := ct_lo (n := a) (l := 0) (h := T) (by omega)
  have a1 := ct_hi (n := a) (l := 0) (h := T)
  have b0 := ct_lo (n := b) (l := 0) (h := T) (by omega)
  have b1 := ct_hi (n := b) (l := 0) (h := T)
  have c0 := ct_lo (n := c) (l := 0) (h := T) (by omega)
  have c1 := ct_hi (n := c) (l := 0) (h := T)
  have e0 := ct_lo (n := e) (l := 0) (h := T) (by omega)
  have e1 := ct_hi (n := e) (l := 0) (h := T)
  have S := Hid.mk (fun v => sample_any P T d v w H)
  have D := Hid.mk (fun g h0 h1 => degree_any P T d g w H h0 h1)
  have hk : fk T d a b c e = (dg T d (ct e 0 T - ct b 0 T) * 9 + dg T d (ct b 0 T - ct c 0 T)) * 9 + dg T d (ct c 0 T - ct a 0 T) := rfl
  have hc : fc T d a b c e = if fk T d a b c e < 0 then -fk T d a b c e else fk T d a b c e := rfl
  have hs : fs T d a b c e = if fk T d a b c e < 0 then -1 else 1 := rfl
  rw [hc, hs]
  clear hc hs
  have x0 := dg_lo T d (ct e 0 T - ct b 0 T)
  have x1 := dg_hi T d (ct e 0 T - ct b 0 T)
  have y0 := dg_lo T d (ct b 0 T - ct c 0 T)
  have y1 := dg_hi T d (ct b 0 T - ct c 0 T)
  have z0 := dg_lo T d (ct c 0 T - ct a 0 T)
  have z1 := dg_hi T d (ct c 0 T - ct a 0 T)
  rw [hk]
  rw [hk] at f0 f1
  clear hk H
  by_cases hn : (dg T d (ct e 0 T - ct b 0 T) * 9 + dg T d (ct b 0 T - ct c 0 T)) * 9 + dg T d (ct c 0 T - ct a 0 T) < 0
  · simp only [if_pos hn]
    go_enter Tryd.func72, Tryd.ntmps72
    go_wp2_with (first | (go_at_call 79; refine (S.out _).mono ?_; rintro e w' ⟨rfl, rfl⟩) | (go_at_call 91; refine (D.out _ (by omega) (by omega)).mono ?_; rintro e w' ⟨rfl, rfl⟩))
    go_ret2
    exact ⟨rfl, rfl⟩
  · simp only [if_neg hn]
    go_enter Tryd.func72, Tryd.ntmps72
    go_wp2_with (first | (go_at_call 79; refine (S.out _).mono ?_; rintro e w' ⟨rfl, rfl⟩) | (go_at_call 91; refine (D.out _ (by omega) (by omega)).mono ?_; rintro e w' ⟨rfl, rfl⟩))
    go_ret2
    exact ⟨rfl, rfl⟩

end Go.Proofs.YtahoeodpjdbdkaaDoor
