import Derived.Test.YtpjogodepionoaaH1
namespace Go.Proofs.Ytpjogodepionoaa
open Go.RowKit

set_option maxHeartbeats 4000000 in
theorem shrinkD_any (R : Nat) (T d e : Int) (w : World) (H : Rh w R T d) (G : Gd T d) : Calls Try.prog 27 #[.pointer (some ⟨R, 0, none⟩), .int .i64 e] w fun r w' => r = .returned (.int .i64 (shr T d e)) ∧ ∃ m, w' = w.drewN m := by
  have ⟨t0, t1⟩ := G.tb
  have d0 := G.lo
  have d1 := G.hi
  have ⟨g0, g1⟩ := rg_pos T d G
  have x0 := ct_lo (n := e) (l := -T) (h := T) (by omega)
  have x1 := ct_hi (n := e) (l := -T) (h := T)
  have hx : shr T d e = rq T d (uq d (ct e (-T) T)) := rfl
  have hr : ∀ u, rq T d u = if u < -(rg T d / 2) then u + rg T d else if (rg T d - 1) / 2 < u then u - rg T d else u := fun u => rfl
  have hu : ∀ x, uq d x = if x < 0 then -((-x + d) / (2 * d + 1)) else (x + d) / (2 * d + 1) := fun x => rfl
  have C1 := Hid.mk (fun w => cutD_any e (-T) T w (by omega))
  have CT := Hid.mk (topD_any R T d w H)
  have CS := Hid.mk (fun n => stepD_any R T d (w.drewN n) (H.drewN n) d0 d1)
  have CR := Hid.mk (fun n => rangeD_any R T d (w.drewN n) (H.drewN n) G)
  rw [hx, hr, hu]
  have h1 := H.c1
  clear hx hr hu H G
  generalize ct e (-T) T = x at *
  generalize rg T d = K at *
  have hm : mg x = if x < 0 then -x else x := rfl
  have C2 := Hid.mk (fun w => sizeD_any x w (by omega) (by omega))
  generalize mg x = y at *
  have y0 : 0 ≤ y ∧ y ≤ 4095 := by rw [hm]; split <;> omega
  have hU : IntKind.i64.wrap ((y + d).tdiv (2 * d + 1)) = (y + d) / (2 * d + 1) := by
    rw [Int.tdiv_eq_ediv_of_nonneg (by omega)]
    have a : 0 ≤ (y + d) / (2 * d + 1) := Int.ediv_nonneg (by omega) (by omega)
    have b : (y + d) / (2 * d + 1) < 5000 := Int.ediv_lt_of_lt_mul (by omega) (by omega)
    exact wrap_i (by omega) (by omega)
  have u0 : 0 ≤ (y + d) / (2 * d + 1) := Int.ediv_nonneg (by omega) (by omega)
  have u1 : (y + d) / (2 * d + 1) < 5000 := Int.ediv_lt_of_lt_mul (by omega) (by omega)
  have hz : 2 * d + 1 ≠ 0 := by omega
  have hy : (if x < 0 then -((-x + d) / (2 * d + 1)) else (x + d) / (2 * d + 1)) = if x < 0 then -((y + d) / (2 * d + 1)) else (y + d) / (2 * d + 1) := by
    rw [hm]; by_cases hn : x < 0
    · simp [hn]
    · simp [hn]
  rw [hy]
  clear hy hm
  generalize (y + d) / (2 * d + 1) = U at *
  by_cases hn : x < 0
  · simp only [if_pos hn]
    go_enter Try.func27, Try.ntmps27
    go_wp2_with (first | (go_at_call 50; refine CT.out.mono ?_; rintro e w' ⟨rfl, rfl⟩) | (go_at_call 49; refine (C1.out _).mono ?_; rintro e w' ⟨rfl, rfl⟩))
    go_quiet ((first | (go_at_call 51; exact Calls.quiet_of_same (C2.out _)) | (go_at_call 52; exact Calls.quiet_of_same (CS.out _))))
    go_wp2_with (go_at_call 36; refine (CR.out _).mono ?_; rintro e w1 ⟨rfl, m1, rfl⟩; rw [World.drewN_drewN])
    all_goals (go_ret; refine ⟨ret_int ?_, _, rfl⟩; first | rfl | (split <;> first | omega | (split <;> omega)))
  · simp only [if_neg hn]
    go_enter Try.func27, Try.ntmps27
    go_wp2_with (first | (go_at_call 50; refine CT.out.mono ?_; rintro e w' ⟨rfl, rfl⟩) | (go_at_call 49; refine (C1.out _).mono ?_; rintro e w' ⟨rfl, rfl⟩))
    go_quiet ((first | (go_at_call 51; exact Calls.quiet_of_same (C2.out _)) | (go_at_call 52; exact Calls.quiet_of_same (CS.out _))))
    go_wp2_with (go_at_call 36; refine (CR.out _).mono ?_; rintro e w1 ⟨rfl, m1, rfl⟩; rw [World.drewN_drewN])
    all_goals (go_ret; refine ⟨ret_int ?_, _, rfl⟩; first | rfl | (split <;> first | omega | (split <;> omega)))

set_option maxHeartbeats 4000000 in
theorem growD_any (R : Nat) (T d p q : Int) (w : World) (H : Rh w R T d) (G : Gd T d) : Calls Try.prog 28 #[.pointer (some ⟨R, 0, none⟩), .int .i64 p, .int .i64 q] w fun r w' => r = .returned (.int .i64 (gro T d p q)) ∧ ∃ m, w' = w.drewN m := by
  have ⟨t0, t1⟩ := G.tb
  have d0 := G.lo
  have d1 := G.hi
  have ⟨g0, g1⟩ := rg_pos T d G
  have ⟨m0, m1⟩ := rg_mul T d G
  have ⟨q0, q1⟩ := qs_in T d q G
  have p0 := ct_lo (n := p) (l := 0) (h := T) (by omega)
  have p1 := ct_hi (n := p) (l := 0) (h := T)
  have hg : gro T d p q = ct (if ct p 0 T + ct q (-rg T d) (rg T d) * (2 * d + 1) < -d then ct p 0 T + ct q (-rg T d) (rg T d) * (2 * d + 1) + rg T d * (2 * d + 1) else if T + d < ct p 0 T + ct q (-rg T d) (rg T d) * (2 * d + 1) then ct p 0 T + ct q (-rg T d) (rg T d) * (2 * d + 1) - rg T d * (2 * d + 1) else ct p 0 T + ct q (-rg T d) (rg T d) * (2 * d + 1)) 0 T := rfl
  rw [hg]
  clear hg
  have CT := Hid.mk (fun w (H : Rh w R T d) => topD_any R T d w H)
  have CS := Hid.mk (fun w (H : Rh w R T d) => stepD_any R T d w H d0 d1)
  have CR := Hid.mk (fun w (H : Rh w R T d) => rangeD_any R T d w H G)
  have CP := Hid.mk (fun w => cutD_any p 0 T w (by omega))
  have CQ := Hid.mk (fun w => cutD_any q (-rg T d) (rg T d) w (by omega))
  have CV := Hid.mk (fun v w => cutD_any v 0 T w (by omega))
  have HH := Hid.mk H
  have h1 := H.c1
  clear H G
  generalize ct p 0 T = a at *
  generalize rg T d = K at *
  generalize ct q (-K) K = b at *
  have hX : IntKind.i64.wrap (b * (2 * d + 1)) = b * (2 * d + 1) := wrap_i (by omega) (by omega)
  have hM : IntKind.i64.wrap (K * (2 * d + 1)) = K * (2 * d + 1) := wrap_i (by omega) (by omega)
  obtain ⟨M, eM⟩ : ∃ M, K * (2 * d + 1) = M := ⟨_, rfl⟩
  obtain ⟨X, eX⟩ : ∃ X, b * (2 * d + 1) = X := ⟨_, rfl⟩
  rw [eM] at m0 m1
  rw [eX] at q0 q1
  replace hM := hM.trans eM
  replace hX := hX.trans eX
  rw [eM, eX]
  clear eM eX
  by_cases c1 : a + X < -d
  · rw [if_pos c1]
    go_enter Try.func28, Try.ntmps28
    go_wp2_with (fail)
    refine (CT.out _ HH.out).mono ?_
    rintro e w' ⟨rfl, rfl⟩
    go_wp2_with (fail)
    refine (CP.out _).mono ?_
    rintro e w' ⟨rfl, rfl⟩
    go_wp2_with (fail)
    refine (CR.out _ HH.out).mono ?_
    rintro e w1 ⟨rfl, n1, rfl⟩
    go_wp2_with (fail)
    refine (CR.out _ (HH.out.drewN _)).mono ?_
    rintro e w1 ⟨rfl, n2, rfl⟩
    rw [World.drewN_drewN]
    go_wp2_with (fail)
    refine (CQ.out _).mono ?_
    rintro e w1 ⟨rfl, rfl⟩
    go_wp2_with (first | (go_at_call 52; refine (CS.out _ (HH.out.drewN _)).mono ?_; rintro e w1 ⟨rfl, rfl⟩) | (go_at_call 36; refine (CR.out _ (HH.out.drewN _)).mono ?_; rintro e w1 ⟨rfl, n3, rfl⟩; rw [World.drewN_drewN]) | (go_at_call 50; refine (CT.out _ (HH.out.drewN _)).mono ?_; rintro e w1 ⟨rfl, rfl⟩) | (go_at_call 49; refine (CV.out _ _).mono ?_; rintro e w1 ⟨rfl, rfl⟩))
    go_ret
    exact ⟨rfl, _, rfl⟩
  · rw [if_neg c1]
    by_cases c2 : T + d < a + X
    · rw [if_pos c2]
      go_enter Try.func28, Try.ntmps28
      go_wp2_with (fail)
      refine (CT.out _ HH.out).mono ?_
      rintro e w' ⟨rfl, rfl⟩
      go_wp2_with (fail)
      refine (CP.out _).mono ?_
      rintro e w' ⟨rfl, rfl⟩
      go_wp2_with (fail)
      refine (CR.out _ HH.out).mono ?_
      rintro e w1 ⟨rfl, n1, rfl⟩
      go_wp2_with (fail)
      refine (CR.out _ (HH.out.drewN _)).mono ?_
      rintro e w1 ⟨rfl, n2, rfl⟩
      rw [World.drewN_drewN]
      go_wp2_with (fail)
      refine (CQ.out _).mono ?_
      rintro e w1 ⟨rfl, rfl⟩
      go_wp2_with (first | (go_at_call 52; refine (CS.out _ (HH.out.drewN _)).mono ?_; rintro e w1 ⟨rfl, rfl⟩))
      obtain ⟨w3, hw3, H3, HD3⟩ : ∃ w3, w'.drewN (n1 + n2) = w3 ∧ Hid (Rh w3 R T d) ∧ Hid (∀ n, w3.drewN n = w'.drewN (n1 + n2 + n)) := ⟨_, rfl, Hid.mk (HH.out.drewN _), Hid.mk (fun n => by rw [World.drewN_drewN])⟩
      rw [hw3]
      clear hw3
      have k1 := H3.out.c1
      go_quiet ((go_at_call 50; exact Calls.quiet_of_same (CT.out _ (H3.out.drewN _))))
      go_wp2_with (first | (go_at_call 52; refine (CS.out _ (H3.out.drewN _)).mono ?_; rintro e w1 ⟨rfl, rfl⟩) | (go_at_call 36; refine (CR.out _ (H3.out.drewN _)).mono ?_; rintro e w1 ⟨rfl, n3, rfl⟩; rw [World.drewN_drewN]) | (go_at_call 50; refine (CT.out _ (H3.out.drewN _)).mono ?_; rintro e w1 ⟨rfl, rfl⟩) | (go_at_call 49; refine (CV.out _ _).mono ?_; rintro e w1 ⟨rfl, rfl⟩))
      go_ret
      exact ⟨rfl, _, HD3.out _⟩
    · rw [if_neg c2]
      go_enter Try.func28, Try.ntmps28
      go_wp2_with (fail)
      refine (CT.out _ HH.out).mono ?_
      rintro e w' ⟨rfl, rfl⟩
      go_wp2_with (fail)
      refine (CP.out _).mono ?_
      rintro e w' ⟨rfl, rfl⟩
      go_wp2_with (fail)
      refine (CR.out _ HH.out).mono ?_
      rintro e w1 ⟨rfl, n1, rfl⟩
      go_wp2_with (fail)
      refine (CR.out _ (HH.out.drewN _)).mono ?_
      rintro e w1 ⟨rfl, n2, rfl⟩
      rw [World.drewN_drewN]
      go_wp2_with (fail)
      refine (CQ.out _).mono ?_
      rintro e w1 ⟨rfl, rfl⟩
      go_wp2_with (first | (go_at_call 52; refine (CS.out _ (HH.out.drewN _)).mono ?_; rintro e w1 ⟨rfl, rfl⟩))
      obtain ⟨w3, hw3, H3, HD3⟩ : ∃ w3, w'.drewN (n1 + n2) = w3 ∧ Hid (Rh w3 R T d) ∧ Hid (∀ n, w3.drewN n = w'.drewN (n1 + n2 + n)) := ⟨_, rfl, Hid.mk (HH.out.drewN _), Hid.mk (fun n => by rw [World.drewN_drewN])⟩
      rw [hw3]
      clear hw3
      have k1 := H3.out.c1
      go_quiet ((go_at_call 50; exact Calls.quiet_of_same (CT.out _ (H3.out.drewN _))))
      go_wp2_with (first | (go_at_call 52; refine (CS.out _ (H3.out.drewN _)).mono ?_; rintro e w1 ⟨rfl, rfl⟩) | (go_at_call 36; refine (CR.out _ (H3.out.drewN _)).mono ?_; rintro e w1 ⟨rfl, n3, rfl⟩; rw [World.drewN_drewN]) | (go_at_call 50; refine (CT.out _ (H3.out.drewN _)).mono ?_; rintro e w1 ⟨rfl, rfl⟩) | (go_at_call 49; refine (CV.out _ _).mono ?_; rintro e w1 ⟨rfl, rfl⟩))
      go_ret
      exact ⟨rfl, _, HD3.out _⟩

set_option maxHeartbeats 4000000 in
theorem degreeD_any (R : Nat) (T d g : Int) (w : World) (H : Rh w R T d) (G : Gd T d) (g0 : -4096 ≤ g) (g1 : g ≤ 4096) : Calls Try.prog 53 #[.pointer (some ⟨R, 0, none⟩), .int .i64 g] w fun e w' => e = .returned (.int .i64 (dg T d g)) ∧ ∃ m, w' = w.drewN m := by
  have d0 := G.lo
  have d1 := G.hi
  have h1 := H.c1
  have C2 := Hid.mk (fun w => sizeD_any g w (by omega) (by omega))
  have hd : dg T d g = if g < 0 then -(if mg g ≤ d then 0 else if mg g < e1 T d then 1 else if mg g < e2 T d then 2 else if mg g < e3 T d then 3 else 4) else (if mg g ≤ d then 0 else if mg g < e1 T d then 1 else if mg g < e2 T d then 2 else if mg g < e3 T d then 3 else 4) := by
    unfold dg sz mg
    by_cases h : g < 0
    · simp only [if_pos h]
    · simp only [if_neg h]
  rw [hd]
  clear hd
  rcases H.c0 with ⟨h0, rfl⟩ | ⟨h0, rfl⟩
  · simp only [e1, e2, e3, if_true]
    clear H G
    generalize mg g = y at *
    by_cases k0 : y ≤ d
    · simp only [if_pos k0]
      by_cases hg : g < 0
      · simp only [if_pos hg]
        go_enter Try.func53, Try.ntmps53
        go_wp2
        go_quiet ((go_at_call 51; exact Calls.quiet_of_same (C2.out _)))
        go_wp2_with (go_at_call 51; refine (C2.out _).mono ?_; rintro e w1 ⟨rfl, rfl⟩)
        go_ret
        exact ⟨rfl, _, rfl⟩
      · simp only [if_neg hg]
        go_enter Try.func53, Try.ntmps53
        go_wp2
        go_quiet ((go_at_call 51; exact Calls.quiet_of_same (C2.out _)))
        go_wp2_with (go_at_call 51; refine (C2.out _).mono ?_; rintro e w1 ⟨rfl, rfl⟩)
        go_ret
        exact ⟨rfl, _, rfl⟩
    · simp only [if_neg k0]
      by_cases k1 : y < 6 + 3 * d
      · simp only [if_pos k1]
        by_cases hg : g < 0
        · simp only [if_pos hg]
          go_enter Try.func53, Try.ntmps53
          go_wp2
          go_quiet ((go_at_call 51; exact Calls.quiet_of_same (C2.out _)))
          go_wp2_with (go_at_call 51; refine (C2.out _).mono ?_; rintro e w1 ⟨rfl, rfl⟩)
          go_ret
          exact ⟨rfl, _, rfl⟩
        · simp only [if_neg hg]
          go_enter Try.func53, Try.ntmps53
          go_wp2
          go_quiet ((go_at_call 51; exact Calls.quiet_of_same (C2.out _)))
          go_wp2_with (go_at_call 51; refine (C2.out _).mono ?_; rintro e w1 ⟨rfl, rfl⟩)
          go_ret
          exact ⟨rfl, _, rfl⟩
      · simp only [if_neg k1]
        by_cases k2 : y < 19 + 5 * d
        · simp only [if_pos k2]
          by_cases hg : g < 0
          · simp only [if_pos hg]
            go_enter Try.func53, Try.ntmps53
            go_wp2
            go_quiet ((go_at_call 51; exact Calls.quiet_of_same (C2.out _)))
            go_wp2_with (go_at_call 51; refine (C2.out _).mono ?_; rintro e w1 ⟨rfl, rfl⟩)
            go_ret
            exact ⟨rfl, _, rfl⟩
          · simp only [if_neg hg]
            go_enter Try.func53, Try.ntmps53
            go_wp2
            go_quiet ((go_at_call 51; exact Calls.quiet_of_same (C2.out _)))
            go_wp2_with (go_at_call 51; refine (C2.out _).mono ?_; rintro e w1 ⟨rfl, rfl⟩)
            go_ret
            exact ⟨rfl, _, rfl⟩
        · simp only [if_neg k2]
          by_cases k3 : y < 72 + 7 * d
          · simp only [if_pos k3]
            by_cases hg : g < 0
            · simp only [if_pos hg]
              go_enter Try.func53, Try.ntmps53
              go_wp2
              go_quiet ((go_at_call 51; exact Calls.quiet_of_same (C2.out _)))
              go_wp2_with (go_at_call 51; refine (C2.out _).mono ?_; rintro e w1 ⟨rfl, rfl⟩)
              go_ret
              exact ⟨rfl, _, rfl⟩
            · simp only [if_neg hg]
              go_enter Try.func53, Try.ntmps53
              go_wp2
              go_quiet ((go_at_call 51; exact Calls.quiet_of_same (C2.out _)))
              go_wp2_with (go_at_call 51; refine (C2.out _).mono ?_; rintro e w1 ⟨rfl, rfl⟩)
              go_ret
              exact ⟨rfl, _, rfl⟩
          · simp only [if_neg k3]
            by_cases hg : g < 0
            · simp only [if_pos hg]
              go_enter Try.func53, Try.ntmps53
              go_wp2
              go_quiet ((go_at_call 51; exact Calls.quiet_of_same (C2.out _)))
              go_wp2_with (go_at_call 51; refine (C2.out _).mono ?_; rintro e w1 ⟨rfl, rfl⟩)
              go_ret
              exact ⟨rfl, _, rfl⟩
            · simp only [if_neg hg]
              go_enter Try.func53, Try.ntmps53
              go_wp2
              go_quiet ((go_at_call 51; exact Calls.quiet_of_same (C2.out _)))
              go_wp2_with (go_at_call 51; refine (C2.out _).mono ?_; rintro e w1 ⟨rfl, rfl⟩)
              go_ret
              exact ⟨rfl, _, rfl⟩
  · simp only [e1, e2, e3, show ¬ (4095 : Int) = 1023 by omega, if_false]
    clear H G
    generalize mg g = y at *
    by_cases k0 : y ≤ d
    · simp only [if_pos k0]
      by_cases hg : g < 0
      · simp only [if_pos hg]
        go_enter Try.func53, Try.ntmps53
        go_wp2
        go_quiet ((go_at_call 51; exact Calls.quiet_of_same (C2.out _)))
        go_wp2_with (go_at_call 51; refine (C2.out _).mono ?_; rintro e w1 ⟨rfl, rfl⟩)
        go_ret
        exact ⟨rfl, _, rfl⟩
      · simp only [if_neg hg]
        go_enter Try.func53, Try.ntmps53
        go_wp2
        go_quiet ((go_at_call 51; exact Calls.quiet_of_same (C2.out _)))
        go_wp2_with (go_at_call 51; refine (C2.out _).mono ?_; rintro e w1 ⟨rfl, rfl⟩)
        go_ret
        exact ⟨rfl, _, rfl⟩
    · simp only [if_neg k0]
      by_cases k1 : y < 18 + 3 * d
      · simp only [if_pos k1]
        by_cases hg : g < 0
        · simp only [if_pos hg]
          go_enter Try.func53, Try.ntmps53
          go_wp2
          go_quiet ((go_at_call 51; exact Calls.quiet_of_same (C2.out _)))
          go_wp2_with (go_at_call 51; refine (C2.out _).mono ?_; rintro e w1 ⟨rfl, rfl⟩)
          go_ret
          exact ⟨rfl, _, rfl⟩
        · simp only [if_neg hg]
          go_enter Try.func53, Try.ntmps53
          go_wp2
          go_quiet ((go_at_call 51; exact Calls.quiet_of_same (C2.out _)))
          go_wp2_with (go_at_call 51; refine (C2.out _).mono ?_; rintro e w1 ⟨rfl, rfl⟩)
          go_ret
          exact ⟨rfl, _, rfl⟩
      · simp only [if_neg k1]
        by_cases k2 : y < 67 + 5 * d
        · simp only [if_pos k2]
          by_cases hg : g < 0
          · simp only [if_pos hg]
            go_enter Try.func53, Try.ntmps53
            go_wp2
            go_quiet ((go_at_call 51; exact Calls.quiet_of_same (C2.out _)))
            go_wp2_with (go_at_call 51; refine (C2.out _).mono ?_; rintro e w1 ⟨rfl, rfl⟩)
            go_ret
            exact ⟨rfl, _, rfl⟩
          · simp only [if_neg hg]
            go_enter Try.func53, Try.ntmps53
            go_wp2
            go_quiet ((go_at_call 51; exact Calls.quiet_of_same (C2.out _)))
            go_wp2_with (go_at_call 51; refine (C2.out _).mono ?_; rintro e w1 ⟨rfl, rfl⟩)
            go_ret
            exact ⟨rfl, _, rfl⟩
        · simp only [if_neg k2]
          by_cases k3 : y < 276 + 7 * d
          · simp only [if_pos k3]
            by_cases hg : g < 0
            · simp only [if_pos hg]
              go_enter Try.func53, Try.ntmps53
              go_wp2
              go_quiet ((go_at_call 51; exact Calls.quiet_of_same (C2.out _)))
              go_wp2_with (go_at_call 51; refine (C2.out _).mono ?_; rintro e w1 ⟨rfl, rfl⟩)
              go_ret
              exact ⟨rfl, _, rfl⟩
            · simp only [if_neg hg]
              go_enter Try.func53, Try.ntmps53
              go_wp2
              go_quiet ((go_at_call 51; exact Calls.quiet_of_same (C2.out _)))
              go_wp2_with (go_at_call 51; refine (C2.out _).mono ?_; rintro e w1 ⟨rfl, rfl⟩)
              go_ret
              exact ⟨rfl, _, rfl⟩
          · simp only [if_neg k3]
            by_cases hg : g < 0
            · simp only [if_pos hg]
              go_enter Try.func53, Try.ntmps53
              go_wp2
              go_quiet ((go_at_call 51; exact Calls.quiet_of_same (C2.out _)))
              go_wp2_with (go_at_call 51; refine (C2.out _).mono ?_; rintro e w1 ⟨rfl, rfl⟩)
              go_ret
              exact ⟨rfl, _, rfl⟩
            · simp only [if_neg hg]
              go_enter Try.func53, Try.ntmps53
              go_wp2
              go_quiet ((go_at_call 51; exact Calls.quiet_of_same (C2.out _)))
              go_wp2_with (go_at_call 51; refine (C2.out _).mono ?_; rintro e w1 ⟨rfl, rfl⟩)
              go_ret
              exact ⟨rfl, _, rfl⟩

set_option maxHeartbeats 4000000 in
theorem findD_any (R : Nat) (T d a b c e : Int) (w : World) (H : Rh w R T d) (G : Gd T d) : Calls Try.prog 29 #[.pointer (some ⟨R, 0, none⟩), .int .i64 a, .int .i64 b, .int .i64 c, .int .i64 e] w fun r w' => r = .returned (.tuple #[.int .i64 (fc T d a b c e), .int .i64 (fs T d a b c e)]) ∧ ∃ m, w' = w.drewN m := by
  have ⟨t0, t1⟩ := G.tb
  have f0 := fk_lo T d a b c e
  have f1 := fk_hi T d a b c e
  have a0 := ct_lo (n := a) (l := 0) (h := T) (by omega)
  have a1 := ct_hi (n := a) (l := 0) (h := T)
  have b0 := ct_lo (n := b) (l := 0) (h := T) (by omega)
  have b1 := ct_hi (n := b) (l := 0) (h := T)
  have c0 := ct_lo (n := c) (l := 0) (h := T) (by omega)
  have c1 := ct_hi (n := c) (l := 0) (h := T)
  have e0 := ct_lo (n := e) (l := 0) (h := T) (by omega)
  have e1 := ct_hi (n := e) (l := 0) (h := T)
  have CT := Hid.mk (topD_any R T d w H)
  have CV := Hid.mk (fun v => cutD_any v 0 T w (by omega))
  have D := Hid.mk (fun g u (hu : Rh u R T d) h0 h1 => degreeD_any R T d g u hu G h0 h1)
  have hk : fk T d a b c e = 81 * dg T d (ct e 0 T - ct b 0 T) + 9 * dg T d (ct b 0 T - ct c 0 T) + dg T d (ct c 0 T - ct a 0 T) := by unfold fk; omega
  have hc : fc T d a b c e = if fk T d a b c e < 0 then -fk T d a b c e else fk T d a b c e := rfl
  have hs : fs T d a b c e = if fk T d a b c e < 0 then -1 else 1 := rfl
  rw [hc, hs]
  clear hc hs
  have x0 := dg_lo T d (ct e 0 T - ct b 0 T)
  have x1 := dg_hi T d (ct e 0 T - ct b 0 T)
  have y0 := dg_lo T d (ct b 0 T - ct c 0 T)
  have y1 := dg_hi T d (ct b 0 T - ct c 0 T)
  have z0 := dg_lo T d (ct c 0 T - ct a 0 T)
  have z1 := dg_hi T d (ct c 0 T - ct a 0 T)
  rw [hk]
  rw [hk] at f0 f1
  have HH := Hid.mk H
  clear hk H G
  by_cases hn : 81 * dg T d (ct e 0 T - ct b 0 T) + 9 * dg T d (ct b 0 T - ct c 0 T) + dg T d (ct c 0 T - ct a 0 T) < 0
  · simp only [if_pos hn]
    go_enter Try.func29, Try.ntmps29
    go_wp2_with (first | (go_at_call 50; refine CT.out.mono ?_; rintro e w' ⟨rfl, rfl⟩) | (go_at_call 49; refine (CV.out _).mono ?_; rintro e w' ⟨rfl, rfl⟩))
    refine (D.out _ _ HH.out (by omega) (by omega)).mono ?_
    rintro r w1 ⟨rfl, n1, rfl⟩
    go_wp2_with (go_at_call 53; refine (D.out _ _ (HH.out.drewN _) (by omega) (by omega)).mono ?_; rintro r w1 ⟨rfl, n2, rfl⟩; rw [World.drewN_drewN])
    go_ret2
    exact ⟨rfl, _, rfl⟩
  · simp only [if_neg hn]
    go_enter Try.func29, Try.ntmps29
    go_wp2_with (first | (go_at_call 50; refine CT.out.mono ?_; rintro e w' ⟨rfl, rfl⟩) | (go_at_call 49; refine (CV.out _).mono ?_; rintro e w' ⟨rfl, rfl⟩))
    refine (D.out _ _ HH.out (by omega) (by omega)).mono ?_
    rintro r w1 ⟨rfl, n1, rfl⟩
    go_wp2_with (go_at_call 53; refine (D.out _ _ (HH.out.drewN _) (by omega) (by omega)).mono ?_; rintro r w1 ⟨rfl, n2, rfl⟩; rw [World.drewN_drewN])
    go_ret2
    exact ⟨rfl, _, rfl⟩
end Go.Proofs.Ytpjogodepionoaa
