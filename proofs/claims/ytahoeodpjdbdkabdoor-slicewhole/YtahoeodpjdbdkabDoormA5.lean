import Derived.Test.YtahoeodpjdbdkabDoormA2Z
namespace Go.Proofs.YtahoeodpjdbdkabDoor
open Go.RowKit

set_option maxHeartbeats 8000000 in
theorem follow_any (P o : Nat) (s : Sx) (w : World) (H : At4 w P o s) (b0 : -1000000 ≤ s.B) (b1 : s.B ≤ 1000000) (s0 : -128 ≤ s.S) (s1 : s.S ≤ 127) (n0 : 0 ≤ s.N) (n1 : s.N ≤ 64) :
    Calls Tryd.prog 77 #[.pointer (some ⟨P, o, none⟩)] w fun e w' => e = .returned (.tuple #[]) ∧ Chg w w' P o s.follow := by
  obtain ⟨A, B, S, N⟩ := s
  dsimp only at *
  obtain ⟨h0, h1, h2, h3, h4⟩ := H
  dsimp only at *
  have F := Hid.mk h0
  clear h0
  have R0 : Hid (Chg w w P o ⟨A, B, S, N⟩) := Hid.mk (Chg.refl ⟨F.out, h1, h2, h3, h4⟩)
  have pre : Hid (∀ nq : Nat, ∃ w1, w.drewN nq = w1 ∧ w1.cell? ⟨P, o, none⟩ = some (.int .i64 A) ∧ w1.cell? ⟨P, o + 1, none⟩ = some (.int .i64 B) ∧ w1.cell? ⟨P, o + 2, none⟩ = some (.int .i64 S) ∧ w1.cell? ⟨P, o + 3, none⟩ = some (.int .i64 N)) :=
    Hid.mk fun nq => ⟨_, rfl, by rw [cell_drewN]; exact h1, by rw [cell_drewN]; exact h2, by rw [cell_drewN]; exact h3, by rw [cell_drewN]; exact h4⟩
  by_cases h : B ≤ -N
  · have e : (Sx.mk A B S N).follow = ⟨A, max (B + N) (1 - N), max (S - 1) (-128), N⟩ := by simp [Sx.follow, h]
    rw [e]
    clear e
    have hv : (if IntKind.i64.wrap (B + N) < IntKind.i64.wrap (1 - N) then IntKind.i64.wrap (1 - N) else IntKind.i64.wrap (B + N)) = max (B + N) (1 - N) := by
      rw [wrap_i (x := B + N) (by omega) (by omega), wrap_i (x := 1 - N) (by omega) (by omega)]; omega
    rcases (show -128 < S - 1 ∨ S = -127 ∨ S = -128 by omega) with hS | rfl | rfl
    · rw [show max (S - 1) (-128) = S - 1 by omega]
      go_enter Tryd.func77, Tryd.ntmps77
      go_wp2
      go_quiet (fail)
      obtain ⟨w1, hw1, k1, k2, k3, k4⟩ := pre.out nq
      rw [hw1]
      have hw2 := Hid.mk hw1
      clear hw1
      have R1 : Hid (Chg w w1 P o ⟨A, B, S, N⟩) := Hid.mk (hw2.out ▸ R0.out.drewN nq)
      have f1 := R1.out.now.fz (o + 1)
      have f2 := R1.out.now.fz (o + 2)
      go_wp2
      obtain ⟨w3, hw3, R3⟩ : ∃ w3, w1.setCell ⟨P, o + 2, none⟩ (.int .i64 (S - 1)) = w3 ∧ Hid (Chg w w3 P o ⟨A, B, (S - 1), N⟩) := ⟨_, rfl, Hid.mk (R1.out.set 2 (by omega) (S - 1))⟩
      rw [hw3]
      clear hw3
      have j2 := R3.out.now.cb
      have j4 := R3.out.now.cn
      have g1 := R3.out.now.fz (o + 1)
      dsimp only at j2 j4
      go_region_law (fail)
      all_goals (go_wp2; go_end0; refine ⟨rfl, ?_⟩; (try rw [hv]); exact ((R3.out.set 1 (by omega) (max (B + N) (1 - N))).drewN 1))
    · rw [show max (-127 - 1) (-128) = (-128 : Int) by omega]
      go_enter Tryd.func77, Tryd.ntmps77
      go_wp2
      go_quiet (fail)
      obtain ⟨w1, hw1, k1, k2, k3, k4⟩ := pre.out nq
      rw [hw1]
      have hw2 := Hid.mk hw1
      clear hw1
      have R1 : Hid (Chg w w1 P o ⟨A, B, (-127), N⟩) := Hid.mk (hw2.out ▸ R0.out.drewN nq)
      have f1 := R1.out.now.fz (o + 1)
      have f2 := R1.out.now.fz (o + 2)
      go_wp2
      obtain ⟨w3, hw3, R3⟩ : ∃ w3, w1.setCell ⟨P, o + 2, none⟩ (.int .i64 (-128)) = w3 ∧ Hid (Chg w w3 P o ⟨A, B, (-128), N⟩) := ⟨_, rfl, Hid.mk (R1.out.set 2 (by omega) (-128))⟩
      rw [hw3]
      clear hw3
      have j2 := R3.out.now.cb
      have j4 := R3.out.now.cn
      have g1 := R3.out.now.fz (o + 1)
      dsimp only at j2 j4
      go_region_law (fail)
      all_goals (go_wp2; go_end0; refine ⟨rfl, ?_⟩; (try rw [hv]); exact ((R3.out.set 1 (by omega) (max (B + N) (1 - N))).drewN 1))
    · rw [show max (-128 - 1) (-128) = (-128 : Int) by omega]
      go_enter Tryd.func77, Tryd.ntmps77
      go_wp2
      go_quiet (fail)
      obtain ⟨w1, hw1, k1, k2, k3, k4⟩ := pre.out nq
      rw [hw1]
      have hw2 := Hid.mk hw1
      clear hw1
      have R1 : Hid (Chg w w1 P o ⟨A, B, (-128), N⟩) := Hid.mk (hw2.out ▸ R0.out.drewN nq)
      have f1 := R1.out.now.fz (o + 1)
      have f2 := R1.out.now.fz (o + 2)
      go_wp2
      obtain ⟨w3, hw3, R3⟩ : ∃ w3, w1.setCell ⟨P, o + 2, none⟩ (.int .i64 (-128)) = w3 ∧ Hid (Chg w w3 P o ⟨A, B, (-128), N⟩) := ⟨_, rfl, Hid.mk (R1.out.set 2 (by omega) (-128))⟩
      rw [hw3]
      clear hw3
      have j2 := R3.out.now.cb
      have j4 := R3.out.now.cn
      have g1 := R3.out.now.fz (o + 1)
      dsimp only at j2 j4
      go_region_law (fail)
      all_goals (go_wp2; go_end0; refine ⟨rfl, ?_⟩; (try rw [hv]); exact ((R3.out.set 1 (by omega) (max (B + N) (1 - N))).drewN 1))
  · by_cases hb : 0 < B
    · have e : (Sx.mk A B S N).follow = ⟨A, min (B - N) 0, min (S + 1) 127, N⟩ := by simp [Sx.follow, h, hb]
      rw [e]
      clear e
      rcases (show B - N < 0 ∨ 0 < B - N ∨ B - N = 0 by omega) with hb2 | hb2 | hb2
      · rw [show min (B - N) 0 = B - N by omega]
        have hv : IntKind.i64.wrap (B - N) = B - N := wrap_i (by omega) (by omega)
        rcases (show S + 1 < 127 ∨ S = 126 ∨ S = 127 by omega) with hS | rfl | rfl
        · rw [show min (S + 1) 127 = S + 1 by omega]
          go_enter Tryd.func77, Tryd.ntmps77
          go_wp2
          go_quiet (fail)
          obtain ⟨w1, hw1, k1, k2, k3, k4⟩ := pre.out nq
          rw [hw1]
          have hw2 := Hid.mk hw1
          clear hw1
          have R1 : Hid (Chg w w1 P o ⟨A, B, S, N⟩) := Hid.mk (hw2.out ▸ R0.out.drewN nq)
          have f1 := R1.out.now.fz (o + 1)
          have f2 := R1.out.now.fz (o + 2)
          go_wp2
          obtain ⟨w3, hw3, R3⟩ : ∃ w3, w1.setCell ⟨P, o + 2, none⟩ (.int .i64 (S + 1)) = w3 ∧ Hid (Chg w w3 P o ⟨A, B, (S + 1), N⟩) := ⟨_, rfl, Hid.mk (R1.out.set 2 (by omega) (S + 1))⟩
          rw [hw3]
          clear hw3
          have j2 := R3.out.now.cb
          have j4 := R3.out.now.cn
          have g1 := R3.out.now.fz (o + 1)
          dsimp only at j2 j4
          go_region_law (fail)
          all_goals (go_wp2; go_end0; refine ⟨rfl, ?_⟩; (try rw [hv]); exact ((R3.out.set 1 (by omega) (B - N)).drewN 1))
        · rw [show min (126 + 1) 127 = (127 : Int) by omega]
          go_enter Tryd.func77, Tryd.ntmps77
          go_wp2
          go_quiet (fail)
          obtain ⟨w1, hw1, k1, k2, k3, k4⟩ := pre.out nq
          rw [hw1]
          have hw2 := Hid.mk hw1
          clear hw1
          have R1 : Hid (Chg w w1 P o ⟨A, B, 126, N⟩) := Hid.mk (hw2.out ▸ R0.out.drewN nq)
          have f1 := R1.out.now.fz (o + 1)
          have f2 := R1.out.now.fz (o + 2)
          go_wp2
          obtain ⟨w3, hw3, R3⟩ : ∃ w3, w1.setCell ⟨P, o + 2, none⟩ (.int .i64 127) = w3 ∧ Hid (Chg w w3 P o ⟨A, B, 127, N⟩) := ⟨_, rfl, Hid.mk (R1.out.set 2 (by omega) 127)⟩
          rw [hw3]
          clear hw3
          have j2 := R3.out.now.cb
          have j4 := R3.out.now.cn
          have g1 := R3.out.now.fz (o + 1)
          dsimp only at j2 j4
          go_region_law (fail)
          all_goals (go_wp2; go_end0; refine ⟨rfl, ?_⟩; (try rw [hv]); exact ((R3.out.set 1 (by omega) (B - N)).drewN 1))
        · rw [show min (127 + 1) 127 = (127 : Int) by omega]
          go_enter Tryd.func77, Tryd.ntmps77
          go_wp2
          go_quiet (fail)
          obtain ⟨w1, hw1, k1, k2, k3, k4⟩ := pre.out nq
          rw [hw1]
          have hw2 := Hid.mk hw1
          clear hw1
          have R1 : Hid (Chg w w1 P o ⟨A, B, 127, N⟩) := Hid.mk (hw2.out ▸ R0.out.drewN nq)
          have f1 := R1.out.now.fz (o + 1)
          have f2 := R1.out.now.fz (o + 2)
          go_wp2
          obtain ⟨w3, hw3, R3⟩ : ∃ w3, w1.setCell ⟨P, o + 2, none⟩ (.int .i64 127) = w3 ∧ Hid (Chg w w3 P o ⟨A, B, 127, N⟩) := ⟨_, rfl, Hid.mk (R1.out.set 2 (by omega) 127)⟩
          rw [hw3]
          clear hw3
          have j2 := R3.out.now.cb
          have j4 := R3.out.now.cn
          have g1 := R3.out.now.fz (o + 1)
          dsimp only at j2 j4
          go_region_law (fail)
          all_goals (go_wp2; go_end0; refine ⟨rfl, ?_⟩; (try rw [hv]); exact ((R3.out.set 1 (by omega) (B - N)).drewN 1))
      · replace hb2 : 0 < B - N := hb2
        rw [show min (B - N) 0 = 0 by omega]
        have hv : IntKind.i64.wrap (B - N) = B - N := wrap_i (by omega) (by omega)
        rcases (show S + 1 < 127 ∨ S = 126 ∨ S = 127 by omega) with hS | rfl | rfl
        · rw [show min (S + 1) 127 = S + 1 by omega]
          go_enter Tryd.func77, Tryd.ntmps77
          go_wp2
          go_quiet (fail)
          obtain ⟨w1, hw1, k1, k2, k3, k4⟩ := pre.out nq
          rw [hw1]
          have hw2 := Hid.mk hw1
          clear hw1
          have R1 : Hid (Chg w w1 P o ⟨A, B, S, N⟩) := Hid.mk (hw2.out ▸ R0.out.drewN nq)
          have f1 := R1.out.now.fz (o + 1)
          have f2 := R1.out.now.fz (o + 2)
          go_wp2
          obtain ⟨w3, hw3, R3⟩ : ∃ w3, w1.setCell ⟨P, o + 2, none⟩ (.int .i64 (S + 1)) = w3 ∧ Hid (Chg w w3 P o ⟨A, B, (S + 1), N⟩) := ⟨_, rfl, Hid.mk (R1.out.set 2 (by omega) (S + 1))⟩
          rw [hw3]
          clear hw3
          have j2 := R3.out.now.cb
          have j4 := R3.out.now.cn
          have g1 := R3.out.now.fz (o + 1)
          dsimp only at j2 j4
          go_region_law (fail)
          all_goals (go_wp2; go_end0; refine ⟨rfl, ?_⟩; (try rw [hv]); exact ((R3.out.set 1 (by omega) 0).drewN 1))
        · rw [show min (126 + 1) 127 = (127 : Int) by omega]
          go_enter Tryd.func77, Tryd.ntmps77
          go_wp2
          go_quiet (fail)
          obtain ⟨w1, hw1, k1, k2, k3, k4⟩ := pre.out nq
          rw [hw1]
          have hw2 := Hid.mk hw1
          clear hw1
          have R1 : Hid (Chg w w1 P o ⟨A, B, 126, N⟩) := Hid.mk (hw2.out ▸ R0.out.drewN nq)
          have f1 := R1.out.now.fz (o + 1)
          have f2 := R1.out.now.fz (o + 2)
          go_wp2
          obtain ⟨w3, hw3, R3⟩ : ∃ w3, w1.setCell ⟨P, o + 2, none⟩ (.int .i64 127) = w3 ∧ Hid (Chg w w3 P o ⟨A, B, 127, N⟩) := ⟨_, rfl, Hid.mk (R1.out.set 2 (by omega) 127)⟩
          rw [hw3]
          clear hw3
          have j2 := R3.out.now.cb
          have j4 := R3.out.now.cn
          have g1 := R3.out.now.fz (o + 1)
          dsimp only at j2 j4
          go_region_law (fail)
          all_goals (go_wp2; go_end0; refine ⟨rfl, ?_⟩; (try rw [hv]); exact ((R3.out.set 1 (by omega) 0).drewN 1))
        · rw [show min (127 + 1) 127 = (127 : Int) by omega]
          go_enter Tryd.func77, Tryd.ntmps77
          go_wp2
          go_quiet (fail)
          obtain ⟨w1, hw1, k1, k2, k3, k4⟩ := pre.out nq
          rw [hw1]
          have hw2 := Hid.mk hw1
          clear hw1
          have R1 : Hid (Chg w w1 P o ⟨A, B, 127, N⟩) := Hid.mk (hw2.out ▸ R0.out.drewN nq)
          have f1 := R1.out.now.fz (o + 1)
          have f2 := R1.out.now.fz (o + 2)
          go_wp2
          obtain ⟨w3, hw3, R3⟩ : ∃ w3, w1.setCell ⟨P, o + 2, none⟩ (.int .i64 127) = w3 ∧ Hid (Chg w w3 P o ⟨A, B, 127, N⟩) := ⟨_, rfl, Hid.mk (R1.out.set 2 (by omega) 127)⟩
          rw [hw3]
          clear hw3
          have j2 := R3.out.now.cb
          have j4 := R3.out.now.cn
          have g1 := R3.out.now.fz (o + 1)
          dsimp only at j2 j4
          go_region_law (fail)
          all_goals (go_wp2; go_end0; refine ⟨rfl, ?_⟩; (try rw [hv]); exact ((R3.out.set 1 (by omega) 0).drewN 1))
      · obtain rfl : N = B := by omega
        rw [show min (N - N) 0 = 0 by omega]
        have hv : IntKind.i64.wrap (N - N) = 0 := by rw [Int.sub_self]; exact wrap_i (by omega) (by omega)
        rcases (show S + 1 < 127 ∨ S = 126 ∨ S = 127 by omega) with hS | rfl | rfl
        · rw [show min (S + 1) 127 = S + 1 by omega]
          go_enter Tryd.func77, Tryd.ntmps77
          go_wp2
          go_quiet (fail)
          obtain ⟨w1, hw1, k1, k2, k3, k4⟩ := pre.out nq
          rw [hw1]
          have hw2 := Hid.mk hw1
          clear hw1
          have R1 : Hid (Chg w w1 P o ⟨A, N, S, N⟩) := Hid.mk (hw2.out ▸ R0.out.drewN nq)
          have f1 := R1.out.now.fz (o + 1)
          have f2 := R1.out.now.fz (o + 2)
          go_wp2
          obtain ⟨w3, hw3, R3⟩ : ∃ w3, w1.setCell ⟨P, o + 2, none⟩ (.int .i64 (S + 1)) = w3 ∧ Hid (Chg w w3 P o ⟨A, N, (S + 1), N⟩) := ⟨_, rfl, Hid.mk (R1.out.set 2 (by omega) (S + 1))⟩
          rw [hw3]
          clear hw3
          have j2 := R3.out.now.cb
          have j4 := R3.out.now.cn
          have g1 := R3.out.now.fz (o + 1)
          dsimp only at j2 j4
          go_region_law (fail)
          all_goals (go_wp2; go_end0; refine ⟨rfl, ?_⟩; (try rw [hv]); exact ((R3.out.set 1 (by omega) 0).drewN 1))
        · rw [show min (126 + 1) 127 = (127 : Int) by omega]
          go_enter Tryd.func77, Tryd.ntmps77
          go_wp2
          go_quiet (fail)
          obtain ⟨w1, hw1, k1, k2, k3, k4⟩ := pre.out nq
          rw [hw1]
          have hw2 := Hid.mk hw1
          clear hw1
          have R1 : Hid (Chg w w1 P o ⟨A, N, 126, N⟩) := Hid.mk (hw2.out ▸ R0.out.drewN nq)
          have f1 := R1.out.now.fz (o + 1)
          have f2 := R1.out.now.fz (o + 2)
          go_wp2
          obtain ⟨w3, hw3, R3⟩ : ∃ w3, w1.setCell ⟨P, o + 2, none⟩ (.int .i64 127) = w3 ∧ Hid (Chg w w3 P o ⟨A, N, 127, N⟩) := ⟨_, rfl, Hid.mk (R1.out.set 2 (by omega) 127)⟩
          rw [hw3]
          clear hw3
          have j2 := R3.out.now.cb
          have j4 := R3.out.now.cn
          have g1 := R3.out.now.fz (o + 1)
          dsimp only at j2 j4
          go_region_law (fail)
          all_goals (go_wp2; go_end0; refine ⟨rfl, ?_⟩; (try rw [hv]); exact ((R3.out.set 1 (by omega) 0).drewN 1))
        · rw [show min (127 + 1) 127 = (127 : Int) by omega]
          go_enter Tryd.func77, Tryd.ntmps77
          go_wp2
          go_quiet (fail)
          obtain ⟨w1, hw1, k1, k2, k3, k4⟩ := pre.out nq
          rw [hw1]
          have hw2 := Hid.mk hw1
          clear hw1
          have R1 : Hid (Chg w w1 P o ⟨A, N, 127, N⟩) := Hid.mk (hw2.out ▸ R0.out.drewN nq)
          have f1 := R1.out.now.fz (o + 1)
          have f2 := R1.out.now.fz (o + 2)
          go_wp2
          obtain ⟨w3, hw3, R3⟩ : ∃ w3, w1.setCell ⟨P, o + 2, none⟩ (.int .i64 127) = w3 ∧ Hid (Chg w w3 P o ⟨A, N, 127, N⟩) := ⟨_, rfl, Hid.mk (R1.out.set 2 (by omega) 127)⟩
          rw [hw3]
          clear hw3
          have j2 := R3.out.now.cb
          have j4 := R3.out.now.cn
          have g1 := R3.out.now.fz (o + 1)
          dsimp only at j2 j4
          go_region_law (fail)
          all_goals (go_wp2; go_end0; refine ⟨rfl, ?_⟩; (try rw [hv]); exact ((R3.out.set 1 (by omega) 0).drewN 1))
    · have e : (Sx.mk A B S N).follow = ⟨A, B, S, N⟩ := by simp [Sx.follow, h, hb]
      rw [e]
      clear e
      go_enter Tryd.func77, Tryd.ntmps77
      go_wp2
      go_quiet (fail)
      obtain ⟨w1, hw1, k1, k2, k3, k4⟩ := pre.out nq
      rw [hw1]
      have hw2 := Hid.mk hw1
      clear hw1
      go_wp2
      go_end0
      exact ⟨rfl, hw2.out ▸ R0.out.drewN nq⟩

end Go.Proofs.YtahoeodpjdbdkabDoor
