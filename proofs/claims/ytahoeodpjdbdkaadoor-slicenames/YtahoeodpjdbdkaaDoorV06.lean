import Derived.Test.YtahoeodpjdbdkaaDoorV05
import Derived.Lib.Slices
import Derived.Lib.Small
import Derived.Lib.Walk
import Derived.Lib.BitFns
namespace Go.Proofs.YtahoeodpjdbdkaaDoor
open Go.RowKit

/-- What is guessed. -/
def gs (T : Int) (L : Nat → Sx) (k s a b c : Int) : Int :=
  if 0 ≤ k ∧ k < 365 then (if s < 0 then ct (med (ct a 0 T) (ct b 0 T) (ct c 0 T) - (L k.toNat).S) 0 T else ct (med (ct a 0 T) (ct b 0 T) (ct c 0 T) + (L k.toNat).S) 0 T) else med (ct a 0 T) (ct b 0 T) (ct c 0 T)

set_option maxHeartbeats 4000000 in
theorem guess_any (P : Nat) (T d k s a b c : Int) (L : Nat → Sx) (w : World) (M : Md w P T d L) :
    Calls Tryd.prog 73 #[.pointer (some ⟨P, 0, none⟩), .int .i64 k, .int .i64 s, .int .i64 a, .int .i64 b, .int .i64 c] w fun e w' => e = .returned (.int .i64 (gs T L k s a b c)) ∧ w' = w := by
  have ⟨t0, t1⟩ := M.good.tb
  have C1 := Hid.mk (fun v => sample_any P T d v w M.hd)
  have x0 := ct_lo (n := a) (l := 0) (h := T) (by omega)
  have x1 := ct_hi (n := a) (l := 0) (h := T)
  have y0 := ct_lo (n := b) (l := 0) (h := T) (by omega)
  have y1 := ct_hi (n := b) (l := 0) (h := T)
  have ⟨m0, m1⟩ := med_in (c := ct c 0 T) x0 x1 y0 y1
  have C2 := Hid.mk (med_any (ct a 0 T) (ct b 0 T) (ct c 0 T) w)
  rw [gmed_in (by omega) (by omega) (by omega) (by omega)] at C2
  have C3 := Hid.mk (known_any k w)
  unfold gs
  by_cases h : 0 ≤ k ∧ k < 365
  · rw [if_pos h]
    obtain ⟨n, rfl, hn⟩ := ctx_nat h
    have e : decide (0 ≤ (n : Int) ∧ (n : Int) < 365) = true := decide_eq_true h
    rw [e] at C3
    rw [Int.toNat_natCast]
    have hc := (M.ctx n hn).cs
    have F := M.fit n
    have s0 := F.s0
    have s1 := F.s1
    clear h e M F
    generalize (L n).S = S at *
    generalize med (ct a 0 T) (ct b 0 T) (ct c 0 T) = m at *
    by_cases hs : s < 0
    · rw [if_pos hs]
      go_enter Tryd.func73, Tryd.ntmps73
      go_wp2_with (first | (go_at_call 79; refine (C1.out _).mono ?_; rintro e w' ⟨rfl, rfl⟩) | (go_at_call 92; refine C2.out.mono ?_; rintro e w' ⟨rfl, rfl⟩) | (go_at_call 74; refine C3.out.mono ?_; rintro e w' ⟨rfl, rfl⟩))
      go_ret
      exact ⟨rfl, rfl⟩
    · rw [if_neg hs]
      go_enter Tryd.func73, Tryd.ntmps73
      go_wp2_with (first | (go_at_call 79; refine (C1.out _).mono ?_; rintro e w' ⟨rfl, rfl⟩) | (go_at_call 92; refine C2.out.mono ?_; rintro e w' ⟨rfl, rfl⟩) | (go_at_call 74; refine C3.out.mono ?_; rintro e w' ⟨rfl, rfl⟩))
      go_ret
      exact ⟨rfl, rfl⟩
  · rw [if_neg h]
    rw [decide_eq_false h] at C3
    clear h M
    generalize med (ct a 0 T) (ct b 0 T) (ct c 0 T) = m at *
    go_enter Tryd.func73, Tryd.ntmps73
    go_wp2_with (first | (go_at_call 79; refine (C1.out _).mono ?_; rintro e w' ⟨rfl, rfl⟩) | (go_at_call 92; refine C2.out.mono ?_; rintro e w' ⟨rfl, rfl⟩) | (go_at_call 74; refine C3.out.mono ?_; rintro e w' ⟨rfl, rfl⟩))
    go_ret
    exact ⟨rfl, rfl⟩
end Go.Proofs.YtahoeodpjdbdkaaDoor

namespace Go.Proofs.YtahoeodpjdbdkaaDoor
open Go.RowKit

set_option maxHeartbeats 8000000 in
theorem follow_any (P o : Nat) (s : Sx) (w : World) (H : At4 w P o s) (b0 : -1000000 ≤ s.B) (b1 : s.B ≤ 1000000) (s0 : -128 ≤ s.S) (s1 : s.S ≤ 127) (n0 : 0 ≤ s.N) (n1 : s.N ≤ 64) :
    Calls Tryd.prog 78 #[.pointer (some ⟨P, o, none⟩)] w fun e w' => e = .returned (.tuple #[]) ∧ Chg w w' P o s.follow := by
  obtain ⟨A, B, S, N⟩ := s
  dsimp only at *
  obtain ⟨h0, h1, h2, h3, h4⟩ := H
  dsimp only at *
  have F := Hid.mk h0
  clear h0
  have R0 : Hid (Chg w w P o ⟨A, B, S, N⟩) := Hid.mk (Chg.refl ⟨F.out, h1, h2, h3, h4⟩)
  have pre : Hid (∀ nq : Nat, ∃ w1, w.drewN nq = w1 ∧ w1.cell? ⟨P, o, none⟩ = some (.int .i64 A) ∧ w1.cell? ⟨P, o + 1, none⟩ = some (.int .i64 B) ∧ w1.cell? ⟨P, o + 2, none⟩ = some (.int .i64 S) ∧ w1.cell? ⟨P, o + 3, none⟩ = some (.int .i64 N)) :=
    Hid.mk fun nq => ⟨_, rfl, by rw [cell_drewN]; exact h1, by rw [cell_drewN]; exact h2, by rw [cell_drewN]; exact h3, by rw [cell_drewN]; exact h4⟩
  by_cases h : B ≤ -N
  · have e : (Sx.mk A B S N).follow = ⟨A, max (B + N) (1 - N), max (S - 1) (-128), N⟩ := by simp [Sx.follow, h]
    rw [e]
    clear e
    have hv : (if IntKind.i64.wrap (B + N) < IntKind.i64.wrap (1 - N) then IntKind.i64.wrap (1 - N) else IntKind.i64.wrap (B + N)) = max (B + N) (1 - N) := by
      rw [wrap_i (x := B + N) (by omega) (by omega), wrap_i (x := 1 - N) (by omega) (by omega)]; omega
    rcases (show -128 < S - 1 ∨ S = -127 ∨ S = -128 by omega) with hS | rfl | rfl
    · rw [show max (S - 1) (-128) = S - 1 by omega]
      go_enter Tryd.func78, Tryd.ntmps78
      go_wp2
      go_quiet (fail)
      obtain ⟨w1, hw1, k1, k2, k3, k4⟩ := pre.out nq
      rw [hw1]
      have hw2 := Hid.mk hw1
      clear hw1
      have R1 : Hid (Chg w w1 P o ⟨A, B, S, N⟩) := Hid.mk (hw2.out ▸ R0.out.drewN nq)
      have f1 := R1.out.now.fz (o + 1)
      have f2 := R1.out.now.fz (o + 2)
      go_wp2
      obtain ⟨w3, hw3, R3⟩ : ∃ w3, w1.setCell ⟨P, o + 2, none⟩ (.int .i64 (S - 1)) = w3 ∧ Hid (Chg w w3 P o ⟨A, B, (S - 1), N⟩) := ⟨_, rfl, Hid.mk (R1.out.set 2 (by omega) (S - 1))⟩
      rw [hw3]
      clear hw3
      have j2 := R3.out.now.cb
      have j4 := R3.out.now.cn
      have g1 := R3.out.now.fz (o + 1)
      dsimp only at j2 j4
      go_region_law (fail)
      all_goals (go_wp2; go_end0; refine ⟨rfl, ?_⟩; (try rw [hv]); exact ((R3.out.set 1 (by omega) (max (B + N) (1 - N))).drewN 1))
    · rw [show max (-127 - 1) (-128) = (-128 : Int) by omega]
      go_enter Tryd.func78, Tryd.ntmps78
      go_wp2
      go_quiet (fail)
      obtain ⟨w1, hw1, k1, k2, k3, k4⟩ := pre.out nq
      rw [hw1]
      have hw2 := Hid.mk hw1
      clear hw1
      have R1 : Hid (Chg w w1 P o ⟨A, B, (-127), N⟩) := Hid.mk (hw2.out ▸ R0.out.drewN nq)
      have f1 := R1.out.now.fz (o + 1)
      have f2 := R1.out.now.fz (o + 2)
      go_wp2
      obtain ⟨w3, hw3, R3⟩ : ∃ w3, w1.setCell ⟨P, o + 2, none⟩ (.int .i64 (-128)) = w3 ∧ Hid (Chg w w3 P o ⟨A, B, (-128), N⟩) := ⟨_, rfl, Hid.mk (R1.out.set 2 (by omega) (-128))⟩
      rw [hw3]
      clear hw3
      have j2 := R3.out.now.cb
      have j4 := R3.out.now.cn
      have g1 := R3.out.now.fz (o + 1)
      dsimp only at j2 j4
      go_region_law (fail)
      all_goals (go_wp2; go_end0; refine ⟨rfl, ?_⟩; (try rw [hv]); exact ((R3.out.set 1 (by omega) (max (B + N) (1 - N))).drewN 1))
    · rw [show max (-128 - 1) (-128) = (-128 : Int) by omega]
      go_enter Tryd.func78, Tryd.ntmps78
      go_wp2
      go_quiet (fail)
      obtain ⟨w1, hw1, k1, k2, k3, k4⟩ := pre.out nq
      rw [hw1]
      have hw2 := Hid.mk hw1
      clear hw1
      have R1 : Hid (Chg w w1 P o ⟨A, B, (-128), N⟩) := Hid.mk (hw2.out ▸ R0.out.drewN nq)
      have f1 := R1.out.now.fz (o + 1)
      have f2 := R1.out.now.fz (o + 2)
      go_wp2
      obtain ⟨w3, hw3, R3⟩ : ∃ w3, w1.setCell ⟨P, o + 2, none⟩ (.int .i64 (-128)) = w3 ∧ Hid (Chg w w3 P o ⟨A, B, (-128), N⟩) := ⟨_, rfl, Hid.mk (R1.out.set 2 (by omega) (-128))⟩
      rw [hw3]
      clear hw3
      have j2 := R3.out.now.cb
      have j4 := R3.out.now.cn
      have g1 := R3.out.now.fz (o + 1)
      dsimp only at j2 j4
      go_region_law (fail)
      all_goals (go_wp2; go_end0; refine ⟨rfl, ?_⟩; (try rw [hv]); exact ((R3.out.set 1 (by omega) (max (B + N) (1 - N))).drewN 1))
  · by_cases hb : 0 < B
    · have e : (Sx.mk A B S N).follow = ⟨A, min (B - N) 0, min (S + 1) 127, N⟩ := by simp [Sx.follow, h, hb]
      rw [e]
      clear e
      rcases (show B - N < 0 ∨ 0 < B - N ∨ B - N = 0 by omega) with hb2 | hb2 | hb2
      · rw [show min (B - N) 0 = B - N by omega]
        have hv : IntKind.i64.wrap (B - N) = B - N := wrap_i (by omega) (by omega)
        rcases (show S + 1 < 127 ∨ S = 126 ∨ S = 127 by omega) with hS | rfl | rfl
        · rw [show min (S + 1) 127 = S + 1 by omega]
          go_enter Tryd.func78, Tryd.ntmps78
          go_wp2
          go_quiet (fail)
          obtain ⟨w1, hw1, k1, k2, k3, k4⟩ := pre.out nq
          rw [hw1]
          have hw2 := Hid.mk hw1
          clear hw1
          have R1 : Hid (Chg w w1 P o ⟨A, B, S, N⟩) := Hid.mk (hw2.out ▸ R0.out.drewN nq)
          have f1 := R1.out.now.fz (o + 1)
          have f2 := R1.out.now.fz (o + 2)
          go_wp2
          obtain ⟨w3, hw3, R3⟩ : ∃ w3, w1.setCell ⟨P, o + 2, none⟩ (.int .i64 (S + 1)) = w3 ∧ Hid (Chg w w3 P o ⟨A, B, (S + 1), N⟩) := ⟨_, rfl, Hid.mk (R1.out.set 2 (by omega) (S + 1))⟩
          rw [hw3]
          clear hw3
          have j2 := R3.out.now.cb
          have j4 := R3.out.now.cn
          have g1 := R3.out.now.fz (o + 1)
          dsimp only at j2 j4
          go_region_law (fail)
          all_goals (go_wp2; go_end0; refine ⟨rfl, ?_⟩; (try rw [hv]); exact ((R3.out.set 1 (by omega) (B - N)).drewN 1))
        · rw [show min (126 + 1) 127 = (127 : Int) by omega]
          go_enter Tryd.func78, Tryd.ntmps78
          go_wp2
          go_quiet (fail)
          obtain ⟨w1, hw1, k1, k2, k3, k4⟩ := pre.out nq
          rw [hw1]
          have hw2 := Hid.mk hw1
          clear hw1
          have R1 : Hid (Chg w w1 P o ⟨A, B, 126, N⟩) := Hid.mk (hw2.out ▸ R0.out.drewN nq)
          have f1 := R1.out.now.fz (o + 1)
          have f2 := R1.out.now.fz (o + 2)
          go_wp2
          obtain ⟨w3, hw3, R3⟩ : ∃ w3, w1.setCell ⟨P, o + 2, none⟩ (.int .i64 127) = w3 ∧ Hid (Chg w w3 P o ⟨A, B, 127, N⟩) := ⟨_, rfl, Hid.mk (R1.out.set 2 (by omega) 127)⟩
          rw [hw3]
          clear hw3
          have j2 := R3.out.now.cb
          have j4 := R3.out.now.cn
          have g1 := R3.out.now.fz (o + 1)
          dsimp only at j2 j4
          go_region_law (fail)
          all_goals (go_wp2; go_end0; refine ⟨rfl, ?_⟩; (try rw [hv]); exact ((R3.out.set 1 (by omega) (B - N)).drewN 1))
        · rw [show min (127 + 1) 127 = (127 : Int) by omega]
          go_enter Tryd.func78, Tryd.ntmps78
          go_wp2
          go_quiet (fail)
          obtain ⟨w1, hw1, k1, k2, k3, k4⟩ := pre.out nq
          rw [hw1]
          have hw2 := Hid.mk hw1
          clear hw1
          have R1 : Hid (Chg w w1 P o ⟨A, B, 127, N⟩) := Hid.mk (hw2.out ▸ R0.out.drewN nq)
          have f1 := R1.out.now.fz (o + 1)
          have f2 := R1.out.now.fz (o + 2)
          go_wp2
          obtain ⟨w3, hw3, R3⟩ : ∃ w3, w1.setCell ⟨P, o + 2, none⟩ (.int .i64 127) = w3 ∧ Hid (Chg w w3 P o ⟨A, B, 127, N⟩) := ⟨_, rfl, Hid.mk (R1.out.set 2 (by omega) 127)⟩
          rw [hw3]
          clear hw3
          have j2 := R3.out.now.cb
          have j4 := R3.out.now.cn
          have g1 := R3.out.now.fz (o + 1)
          dsimp only at j2 j4
          go_region_law (fail)
          all_goals (go_wp2; go_end0; refine ⟨rfl, ?_⟩; (try rw [hv]); exact ((R3.out.set 1 (by omega) (B - N)).drewN 1))
      · replace hb2 : 0 < B - N := hb2
        rw [show min (B - N) 0 = 0 by omega]
        have hv : IntKind.i64.wrap (B - N) = B - N := wrap_i (by omega) (by omega)
        rcases (show S + 1 < 127 ∨ S = 126 ∨ S = 127 by omega) with hS | rfl | rfl
        · rw [show min (S + 1) 127 = S + 1 by omega]
          go_enter Tryd.func78, Tryd.ntmps78
          go_wp2
          go_quiet (fail)
          obtain ⟨w1, hw1, k1, k2, k3, k4⟩ := pre.out nq
          rw [hw1]
          have hw2 := Hid.mk hw1
          clear hw1
          have R1 : Hid (Chg w w1 P o ⟨A, B, S, N⟩) := Hid.mk (hw2.out ▸ R0.out.drewN nq)
          have f1 := R1.out.now.fz (o + 1)
          have f2 := R1.out.now.fz (o + 2)
          go_wp2
          obtain ⟨w3, hw3, R3⟩ : ∃ w3, w1.setCell ⟨P, o + 2, none⟩ (.int .i64 (S + 1)) = w3 ∧ Hid (Chg w w3 P o ⟨A, B, (S + 1), N⟩) := ⟨_, rfl, Hid.mk (R1.out.set 2 (by omega) (S + 1))⟩
          rw [hw3]
          clear hw3
          have j2 := R3.out.now.cb
          have j4 := R3.out.now.cn
          have g1 := R3.out.now.fz (o + 1)
          dsimp only at j2 j4
          go_region_law (fail)
          all_goals (go_wp2; go_end0; refine ⟨rfl, ?_⟩; (try rw [hv]); exact ((R3.out.set 1 (by omega) 0).drewN 1))
        · rw [show min (126 + 1) 127 = (127 : Int) by omega]
          go_enter Tryd.func78, Tryd.ntmps78
          go_wp2
          go_quiet (fail)
          obtain ⟨w1, hw1, k1, k2, k3, k4⟩ := pre.out nq
          rw [hw1]
          have hw2 := Hid.mk hw1
          clear hw1
          have R1 : Hid (Chg w w1 P o ⟨A, B, 126, N⟩) := Hid.mk (hw2.out ▸ R0.out.drewN nq)
          have f1 := R1.out.now.fz (o + 1)
          have f2 := R1.out.now.fz (o + 2)
          go_wp2
          obtain ⟨w3, hw3, R3⟩ : ∃ w3, w1.setCell ⟨P, o + 2, none⟩ (.int .i64 127) = w3 ∧ Hid (Chg w w3 P o ⟨A, B, 127, N⟩) := ⟨_, rfl, Hid.mk (R1.out.set 2 (by omega) 127)⟩
          rw [hw3]
          clear hw3
          have j2 := R3.out.now.cb
          have j4 := R3.out.now.cn
          have g1 := R3.out.now.fz (o + 1)
          dsimp only at j2 j4
          go_region_law (fail)
          all_goals (go_wp2; go_end0; refine ⟨rfl, ?_⟩; (try rw [hv]); exact ((R3.out.set 1 (by omega) 0).drewN 1))
        · rw [show min (127 + 1) 127 = (127 : Int) by omega]
          go_enter Tryd.func78, Tryd.ntmps78
          go_wp2
          go_quiet (fail)
          obtain ⟨w1, hw1, k1, k2, k3, k4⟩ := pre.out nq
          rw [hw1]
          have hw2 := Hid.mk hw1
          clear hw1
          have R1 : Hid (Chg w w1 P o ⟨A, B, 127, N⟩) := Hid.mk (hw2.out ▸ R0.out.drewN nq)
          have f1 := R1.out.now.fz (o + 1)
          have f2 := R1.out.now.fz (o + 2)
          go_wp2
          obtain ⟨w3, hw3, R3⟩ : ∃ w3, w1.setCell ⟨P, o + 2, none⟩ (.int .i64 127) = w3 ∧ Hid (Chg w w3 P o ⟨A, B, 127, N⟩) := ⟨_, rfl, Hid.mk (R1.out.set 2 (by omega) 127)⟩
          rw [hw3]
          clear hw3
          have j2 := R3.out.now.cb
          have j4 := R3.out.now.cn
          have g1 := R3.out.now.fz (o + 1)
          dsimp only at j2 j4
          go_region_law (fail)
          all_goals (go_wp2; go_end0; refine ⟨rfl, ?_⟩; (try rw [hv]); exact ((R3.out.set 1 (by omega) 0).drewN 1))
      · obtain rfl : N = B := by omega
        rw [show min (N - N) 0 = 0 by omega]
        have hv : IntKind.i64.wrap (N - N) = 0 := by rw [Int.sub_self]; exact wrap_i (by omega) (by omega)
        rcases (show S + 1 < 127 ∨ S = 126 ∨ S = 127 by omega) with hS | rfl | rfl
        · rw [show min (S + 1) 127 = S + 1 by omega]
          go_enter Tryd.func78, Tryd.ntmps78
          go_wp2
          go_quiet (fail)
          obtain ⟨w1, hw1, k1, k2, k3, k4⟩ := pre.out nq
          rw [hw1]
          have hw2 := Hid.mk hw1
          clear hw1
          have R1 : Hid (Chg w w1 P o ⟨A, N, S, N⟩) := Hid.mk (hw2.out ▸ R0.out.drewN nq)
          have f1 := R1.out.now.fz (o + 1)
          have f2 := R1.out.now.fz (o + 2)
          go_wp2
          obtain ⟨w3, hw3, R3⟩ : ∃ w3, w1.setCell ⟨P, o + 2, none⟩ (.int .i64 (S + 1)) = w3 ∧ Hid (Chg w w3 P o ⟨A, N, (S + 1), N⟩) := ⟨_, rfl, Hid.mk (R1.out.set 2 (by omega) (S + 1))⟩
          rw [hw3]
          clear hw3
          have j2 := R3.out.now.cb
          have j4 := R3.out.now.cn
          have g1 := R3.out.now.fz (o + 1)
          dsimp only at j2 j4
          go_region_law (fail)
          all_goals (go_wp2; go_end0; refine ⟨rfl, ?_⟩; (try rw [hv]); exact ((R3.out.set 1 (by omega) 0).drewN 1))
        · rw [show min (126 + 1) 127 = (127 : Int) by omega]
          go_enter Tryd.func78, Tryd.ntmps78
          go_wp2
          go_quiet (fail)
          obtain ⟨w1, hw1, k1, k2, k3, k4⟩ := pre.out nq
          rw [hw1]
          have hw2 := Hid.mk hw1
          clear hw1
          have R1 : Hid (Chg w w1 P o ⟨A, N, 126, N⟩) := Hid.mk (hw2.out ▸ R0.out.drewN nq)
          have f1 := R1.out.now.fz (o + 1)
          have f2 := R1.out.now.fz (o + 2)
          go_wp2
          obtain ⟨w3, hw3, R3⟩ : ∃ w3, w1.setCell ⟨P, o + 2, none⟩ (.int .i64 127) = w3 ∧ Hid (Chg w w3 P o ⟨A, N, 127, N⟩) := ⟨_, rfl, Hid.mk (R1.out.set 2 (by omega) 127)⟩
          rw [hw3]
          clear hw3
          have j2 := R3.out.now.cb
          have j4 := R3.out.now.cn
          have g1 := R3.out.now.fz (o + 1)
          dsimp only at j2 j4
          go_region_law (fail)
          all_goals (go_wp2; go_end0; refine ⟨rfl, ?_⟩; (try rw [hv]); exact ((R3.out.set 1 (by omega) 0).drewN 1))
        · rw [show min (127 + 1) 127 = (127 : Int) by omega]
          go_enter Tryd.func78, Tryd.ntmps78
          go_wp2
          go_quiet (fail)
          obtain ⟨w1, hw1, k1, k2, k3, k4⟩ := pre.out nq
          rw [hw1]
          have hw2 := Hid.mk hw1
          clear hw1
          have R1 : Hid (Chg w w1 P o ⟨A, N, 127, N⟩) := Hid.mk (hw2.out ▸ R0.out.drewN nq)
          have f1 := R1.out.now.fz (o + 1)
          have f2 := R1.out.now.fz (o + 2)
          go_wp2
          obtain ⟨w3, hw3, R3⟩ : ∃ w3, w1.setCell ⟨P, o + 2, none⟩ (.int .i64 127) = w3 ∧ Hid (Chg w w3 P o ⟨A, N, 127, N⟩) := ⟨_, rfl, Hid.mk (R1.out.set 2 (by omega) 127)⟩
          rw [hw3]
          clear hw3
          have j2 := R3.out.now.cb
          have j4 := R3.out.now.cn
          have g1 := R3.out.now.fz (o + 1)
          dsimp only at j2 j4
          go_region_law (fail)
          all_goals (go_wp2; go_end0; refine ⟨rfl, ?_⟩; (try rw [hv]); exact ((R3.out.set 1 (by omega) 0).drewN 1))
    · have e : (Sx.mk A B S N).follow = ⟨A, B, S, N⟩ := by simp [Sx.follow, h, hb]
      rw [e]
      clear e
      go_enter Tryd.func78, Tryd.ntmps78
      go_wp2
      go_quiet (fail)
      obtain ⟨w1, hw1, k1, k2, k3, k4⟩ := pre.out nq
      rw [hw1]
      have hw2 := Hid.mk hw1
      clear hw1
      go_wp2
      go_end0
      exact ⟨rfl, hw2.out ▸ R0.out.drewN nq⟩

end Go.Proofs.YtahoeodpjdbdkaaDoor

namespace Go.Proofs.YtahoeodpjdbdkaaDoor
open Go.RowKit

set_option maxHeartbeats 8000000 in
set_option maxRecDepth 1000000 in
theorem learn_yes (P n : Nat) (T d q : Int) (L : Nat → Sx) (w : World) (M : Md w P T d L) (hn : n < 365) :
    Calls Tryd.prog 52 #[.pointer (some ⟨P, 0, none⟩), .int .i64 (n : Int), .int .i64 q] w fun e w' => e = .returned (.tuple #[]) ∧ Chg w w' P (7 + n * 4) ((L n).learn T d q) := by
  have K := Hid.mk (fun w => known_any (n : Int) w)
  have hd : decide (0 ≤ (n : Int) ∧ (n : Int) < 365) = true := by simp; omega
  rw [hd] at K
  clear hd
  have A4 := M.ctx n hn
  have F := M.fit n
  have C1 := Hid.mk (quotient_any P T d q w M.hd M.good)
  have h2 := M.hd.c2
  have ⟨a0, a1⟩ := add_a T d q M.good (L n)
  have ⟨x0, x1⟩ := qs_in T d q M.good
  obtain ⟨f1, f2, f3, f4, f5, -, -⟩ := age_fit T d q M.good (L n) F
  have HL : Hid ((L n).learn T d q = ((((L n).add T d q).age)).follow) := Hid.mk rfl
  have ea : (L n).add T d q = ⟨(L n).A + mg (ct q (-rg T d) (rg T d)), (L n).B + ct q (-rg T d) (rg T d) * (2 * d + 1), (L n).S, (L n).N⟩ := rfl
  have ⟨g0, g1⟩ := rg_pos T d M.good
  have y0 := ct_lo (n := q) (l := -rg T d) (h := rg T d) (by omega)
  have y1 := ct_hi (n := q) (l := -rg T d) (h := rg T d)
  have R0 := Hid.mk (Chg.refl A4)
  rw [ea] at HL a0 a1 f1 f2 f3 f4 f5
  clear ea
  obtain ⟨u0, u1, v0, v1, s0, s1, n0, n1⟩ := F
  generalize (L n).learn T d q = res at *
  generalize L n = s at *
  obtain ⟨A, B, S, N⟩ := s
  dsimp only at *
  have CM := Hid.mk (fun w => mag_any (ct q (-rg T d) (rg T d)) w (by omega) (by omega))
  generalize mg (ct q (-rg T d) (rg T d)) = m at *
  generalize ct q (-rg T d) (rg T d) = c at *
  have qx : IntKind.i64.wrap (c * (2 * d + 1)) = c * (2 * d + 1) := wrap_i (by omega) (by omega)
  obtain ⟨X, hX⟩ : ∃ X, c * (2 * d + 1) = X := ⟨_, rfl⟩
  rw [hX] at x0 x1 f1 f2 f3 f4 f5 HL
  replace qx := qx.trans hX
  clear hX M
  have Hf3 := Hid.mk f3
  have HB : Hid (-1000000 ≤ (Sx.age ⟨A + m, B + X, S, N⟩).B ∧ (Sx.age ⟨A + m, B + X, S, N⟩).B ≤ 1000000) := Hid.mk (by unfold Sx.age; split <;> dsimp only <;> omega)
  clear f3 f1 f2
  have qa : IntKind.i64.wrap (A + m) = A + m := wrap_i (by omega) (by omega)
  have qb : IntKind.i64.wrap (B + X) = B + X := wrap_i (by omega) (by omega)
  go_enter Tryd.func52, Tryd.ntmps52
  go_wp2_with (go_at_call 74; refine (K.out _).mono ?_; rintro e w' ⟨rfl, rfl⟩)
  refine C1.out.mono ?_
  rintro e w1 ⟨rfl, m1, rfl⟩
  obtain ⟨w1, hw1, R1, k2⟩ : ∃ w1, w'.drewN m1 = w1 ∧ Hid (Chg w' w1 P (7 + n * 4) ⟨A, B, S, N⟩) ∧ w1.cell? ⟨P, 2, none⟩ = some (.int .i64 (2 * d + 1)) := ⟨_, rfl, Hid.mk (R0.out.drewN m1), by rw [cell_drewN]; exact h2⟩
  rw [hw1]
  clear hw1
  have k0 := R1.out.now.ca
  have z0 := R1.out.now.fz (7 + n * 4)
  dsimp only at k0
  go_wp2
  go_region_with (go_at_call 76; refine (CM.out _).mono ?_; rintro e w2 ⟨rfl, rfl⟩)
  all_goals
    obtain ⟨w2, hw2, R2⟩ : ∃ w2, (w1.setCell ⟨P, 7 + n * 4, none⟩ (.int .i64 (A + m))).drew = w2 ∧ Hid (Chg w' w2 P (7 + n * 4) ⟨A + m, B, S, N⟩) := ⟨_, rfl, Hid.mk ((R1.out.set 0 (by omega) (A + m)).drewN 1)⟩
    rw [hw2]
    clear hw2
    have j1 := R2.out.now.cb
    have z1 := R2.out.now.fz (7 + n * 4 + 1)
    have j2 : w2.cell? ⟨P, 2, none⟩ = some (.int .i64 (2 * d + 1)) := (R2.out.other 2 (by omega)).trans h2
    dsimp only at j1
    go_wp2
    go_region_law (fail)
    all_goals
      obtain ⟨w3, hw3, R3⟩ : ∃ w3, (w2.setCell ⟨P, 7 + n * 4 + 1, none⟩ (.int .i64 (B + X))).drew = w3 ∧ Hid (Chg w' w3 P (7 + n * 4) ⟨A + m, B + X, S, N⟩) := ⟨_, rfl, Hid.mk ((R2.out.set 1 (by omega) (B + X)).drewN 1)⟩
      rw [hw3]
      clear hw3
      go_wp2_with (fail)
      refine (age_any P (7 + n * 4) ⟨A + m, B + X, S, N⟩ w3 R3.out.now (by dsimp only; omega) (by dsimp only; omega) (by dsimp only; omega) (by dsimp only; omega) (by dsimp only; omega) (by dsimp only; omega)).mono ?_
      rintro e w4 ⟨rfl, c4⟩
      have R4 := Hid.mk (R3.out.trans c4)
      clear c4
      go_wp2_with (fail)
      refine (follow_any P (7 + n * 4) _ w4 R4.out.now HB.out.1 HB.out.2 (by rw [Hf3.out]; omega) (by rw [Hf3.out]; omega) (by omega) (by omega)).mono ?_
      rintro e w5 ⟨rfl, c5⟩
      go_wp2
      go_end0
      exact ⟨rfl, by rw [HL.out]; exact R4.out.trans c5⟩

/-- What all contexts have learnt behind a Learn. -/
def lL (T d : Int) (L : Nat → Sx) (k q : Int) : Nat → Sx := if 0 ≤ k ∧ k < 365 then upd L k.toNat ((L k.toNat).learn T d q) else L

set_option maxHeartbeats 4000000 in
theorem learn_any (P : Nat) (T d k q : Int) (L : Nat → Sx) (w : World) (M : Md w P T d L) :
    Calls Tryd.prog 52 #[.pointer (some ⟨P, 0, none⟩), .int .i64 k, .int .i64 q] w fun e w' => e = .returned (.tuple #[]) ∧ Md w' P T d (lL T d L k q) ∧ Kept [P] w w' := by
  unfold lL
  by_cases h : 0 ≤ k ∧ k < 365
  · rw [if_pos h]
    obtain ⟨n, rfl, hn⟩ := ctx_nat h
    rw [Int.toNat_natCast]
    refine (learn_yes P n T d q L w M hn).mono ?_
    rintro e w' ⟨rfl, hc⟩
    exact ⟨rfl, M.chg hn (learn_fit T d q M.good _ (M.fit n)).1 hc, hc.kept⟩
  · rw [if_neg h]
    have K := Hid.mk (fun w => known_any k w)
    rw [decide_eq_false h] at K
    have HM := Hid.mk M
    clear h M
    go_enter Tryd.func52, Tryd.ntmps52
    go_wp2_with (go_at_call 74; refine (K.out _).mono ?_; rintro e w' ⟨rfl, rfl⟩)
    (try simp only [Exit.inBlock, Exit.then]); refine bodyPost_ret (results_none rfl _ _ _) rfl ?_
    exact ⟨rfl, HM.out, Kept.refl _ _⟩
end Go.Proofs.YtahoeodpjdbdkaaDoor

namespace Go.Proofs.YtahoeodpjdbdkaaDoor
open Go.RowKit

theorem mtab_int (x : Int) (h0 : 0 ≤ x) (h : x.toNat < Lib.len8tab.size) : wrap64 ((Lib.len8tab[x.toNat]'h).toNat : Int) = (Lib.bitLen x.toNat : Int) ∧ Lib.bitLen x.toNat ≤ 8 := by
  have h2 : x.toNat < 256 := by rw [← Lib.len8tab_size]; exact h
  have hl : Lib.bitLen x.toNat ≤ 8 := Lib.bitLen_le8 ⟨x.toNat, h2⟩
  have e := Lib.len8_of x h0 (by omega)
  unfold Lib.len8 at e
  rw [getElem?_pos Lib.len8tab x.toNat h, Option.getD_some] at e
  refine ⟨?_, hl⟩
  rw [e]
  unfold wrap64
  omega
theorem bl_iff (x k : Nat) (hx : x < 4096) (hk : k < 13) : 2 ^ k ≤ x ↔ k < Lib.bitLen x := by
  constructor
  · intro h
    rw [Lib.bitLen_shift k x h (by omega)]
    have h1 : x / 2 ^ k ≠ 0 := by
      have := Nat.div_pos h (Nat.pow_pos (by omega)); omega
    have h2 : x / 2 ^ k ≤ x := Nat.div_le_self _ _
    rw [Lib.bitLen_half _ h1 (by omega)]
    omega
  · intro h
    by_cases hc : 2 ^ k ≤ x
    · exact hc
    · have := Lib.bitLen_le x k (by omega) (by omega); omega
theorem bl_le (x : Nat) (hx : x < 4096) : Lib.bitLen x ≤ 12 := Lib.bitLen_le x 12 (by omega) hx

set_option maxHeartbeats 4000000 in
set_option maxRecDepth 100000 in
theorem len64_any (x : Int) (w : World) (h0 : 0 ≤ x) (h1 : x ≤ 4095) :
    Calls Tryd.prog 97 #[.int .u64 x] w fun e w' => e = .returned (.int .i64 (Lib.bitLen x.toNat)) ∧ w' = w := by
  have hsz := Lib.len8tab_size
  by_cases c2 : x < 256
  · go_enter Tryd.func97, Tryd.ntmps97
    go_wp2
    go_ret
    refine ⟨congrArg Ending.returned (congrArg (Value.int IntKind.i64) ?_), rfl⟩
    have t := mtab_int (x) (by omega) (by rw [Lib.len8tab_size]; omega)
    rw [t.1]
    unfold wrap64
    omega
  · go_enter Tryd.func97, Tryd.ntmps97
    go_wp2
    go_ret
    refine ⟨congrArg Ending.returned (congrArg (Value.int IntKind.i64) ?_), rfl⟩
    have t := mtab_int (x / 256) (by omega) (by rw [Lib.len8tab_size]; omega)
    rw [t.1]
    have s := Lib.bitLen_shift8 x.toNat (by omega) (by omega)
    have e : (x / 256).toNat = x.toNat / 256 := by omega
    have l := t.2
    rw [e] at l ⊢
    unfold wrap64
    omega

set_option maxHeartbeats 4000000 in
set_option maxRecDepth 100000 in
theorem mlen_any (x : Int) (w : World) (h0 : 0 ≤ x) (h1 : x ≤ 4095) :
    Calls Tryd.prog 84 #[.int .u64 x] w fun e w' => e = .returned (.int .i64 (Lib.bitLen x.toNat)) ∧ w' = w := by
  have C := Hid.mk (len64_any x w h0 h1)
  go_enter Tryd.func84, Tryd.ntmps84
  go_wp2_with (go_at_call 97; refine C.out.mono ?_; rintro e w' ⟨rfl, rfl⟩)
  go_ret
  exact ⟨rfl, rfl⟩

set_option maxHeartbeats 4000000 in
set_option maxRecDepth 100000 in
theorem wide_any (P : Nat) (T d : Int) (w : World) (H : Hd w P T d) (G : Gd T d) : Calls Tryd.prog 58 #[.pointer (some ⟨P, 0, none⟩)] w fun e w' => e = .returned (.int .i64 (Lib.bitLen (rg T d - 1).toNat : Int)) ∧ w' = w := by
  have ⟨g0, g1⟩ := rg_pos T d G
  have h3 := H.c3
  have C := Hid.mk (mlen_any (rg T d - 1) w (by omega) (by omega))
  obtain ⟨b, hb⟩ : ∃ b, b = Lib.bitLen (rg T d - 1).toNat := ⟨_, rfl⟩
  rw [← hb] at C ⊢
  clear hb
  generalize rg T d = K at *
  clear H G
  go_enter Tryd.func58, Tryd.ntmps58
  go_wp2_with (go_at_call 84; refine C.out.mono ?_; rintro e w' ⟨rfl, rfl⟩)
  go_ret
  exact ⟨rfl, rfl⟩

end Go.Proofs.YtahoeodpjdbdkaaDoor

namespace Go.Proofs.YtahoeodpjdbdkaaDoor
open Go.RowKit

theorem bitLen_up (x : Nat) (h : x < 4096) : x < 2 ^ Lib.bitLen x := by
  have h1 := bl_le x h
  have h2 := bl_iff x (Lib.bitLen x) h (by omega)
  omega

/-- A walk's state: what the contexts have learnt, the rate, what came back, how far it is. -/
structure Wk where
  L : Nat → Sx
  r : Nat
  b : Nat → Int
  t : Nat

/-- The neighbours. -/
def nA (T : Int) (W : Nat) (b : Nat → Int) (t : Nat) : Int := if t < W then (if t = 0 then (T + 1) / 2 else b (t - 1)) else if 0 < t % W then b (t - 1) else b (t - W)
def nB (T : Int) (W : Nat) (b : Nat → Int) (t : Nat) : Int := if t < W then nA T W b t else b (t - W)
def nC (T : Int) (W : Nat) (b : Nat → Int) (t : Nat) : Int := if t < W then nA T W b t else if 0 < t % W then b (t - W - 1) else b (t - W)
def nE (T : Int) (W : Nat) (b : Nat → Int) (t : Nat) : Int := if t < W then nA T W b t else if t % W + 1 < W then b (t - W + 1) else b (t - W)
/-- The context, the sign, the guess. -/
def xk (T d : Int) (W : Nat) (s : Wk) : Int := fc T d (nA T W s.b s.t) (nB T W s.b s.t) (nC T W s.b s.t) (nE T W s.b s.t)
def xs (T d : Int) (W : Nat) (s : Wk) : Int := fs T d (nA T W s.b s.t) (nB T W s.b s.t) (nC T W s.b s.t) (nE T W s.b s.t)
def xp (T d : Int) (W : Nat) (s : Wk) : Int := if xk T d W s = 0 then nA T W s.b s.t else gs T s.L (xk T d W s) (xs T d W s) (nA T W s.b s.t) (nB T W s.b s.t) (nC T W s.b s.t)
/-- How many samples are left in the row. -/
def rom (W t : Nat) : Nat := W - t % W
def fil (b : Nat → Int) (t n : Nat) (v : Int) : Nat → Int := fun i => if t ≤ i ∧ i < t + n then v else b i
def fld (q : Int) : Nat := if q < 0 then (-2 * q - 1).toNat else (2 * q).toNat
def wde (T d : Int) : Nat := Lib.bitLen (rg T d - 1).toNat
/-- Behind a run; behind a sample. -/
def gor (T : Int) (W : Nat) (s : Wk) (n : Nat) : Wk := ⟨s.L, rr s.r n (rom W s.t), fil s.b s.t n (nA T W s.b s.t), s.t + n⟩
def goo (T d : Int) (s : Wk) (k g p q : Int) : Wk := ⟨lL T d s.L k q, s.r, fil s.b s.t 1 (gro T d p (g * q)), s.t + 1⟩
/-- One round, by what was chosen. -/
def itr (T d : Int) (W : Nat) (s : Wk) (c : Nat × Int) : Wk :=
  if xk T d W s = 0 then (if c.1 = rom W s.t then gor T W s c.1 else goo T d (gor T W s c.1) 0 (xs T d W s) (nA T W s.b s.t) c.2) else goo T d s (xk T d W s) (xs T d W s) (xp T d W s) c.2
/-- Bits behind bits: a number and how many they are. -/
def ap (x : Nat × Nat) (w v : Nat) : Nat × Nat := (x.1 * 2 ^ w + v, x.2 + w)
def btr (W : Nat) (s : Wk) (n : Nat) (x : Nat × Nat) : Nat × Nat := ap x (rw_ s.r n (rom W s.t)) (rf s.r n (rom W s.t))
def bto (T d : Int) (s : Wk) (k : Int) (least : Nat) (q : Int) (x : Nat × Nat) : Nat × Nat := ap x (gw (fld q - least) (po s.L k) (wde T d)) (gf (fld q - least) (po s.L k))
def bit (T d : Int) (W : Nat) (s : Wk) (c : Nat × Int) (x : Nat × Nat) : Nat × Nat :=
  if xk T d W s = 0 then (if c.1 = rom W s.t then btr W s c.1 x else bto T d (gor T W s c.1) 0 1 c.2 (btr W s c.1 x)) else bto T d s (xk T d W s) 0 c.2 x

/-- How many are near one. -/
def nea (d a v : Int) : Bool := decide (v - a ≤ d ∧ a - v ≤ d)
def rnl (f : Nat → Int) (a d : Int) : Nat → Nat → Nat
  | _, 0 => 0
  | t, m + 1 => if nea d a (f t) then rnl f a d (t + 1) m + 1 else 0
/-- What the coder chooses. -/
def cE (T d : Int) (W : Nat) (f : Nat → Int) (s : Wk) : Nat × Int :=
  if xk T d W s = 0 then (rnl f (nA T W s.b s.t) d s.t (rom W s.t), shr T d (xs T d W s * (f (s.t + rnl f (nA T W s.b s.t) d s.t (rom W s.t)) - nA T W s.b s.t))) else (0, shr T d (xs T d W s * (f s.t - xp T d W s)))

theorem nea_iff (d a v : Int) : nea d a v = true ↔ (v - a ≤ d ∧ a - v ≤ d) := by simp [nea]
theorem rnl_le (f : Nat → Int) (a d : Int) (m : Nat) : ∀ t, rnl f a d t m ≤ m := by
  induction m with
  | zero => intro t; simp [rnl]
  | succ m ih => intro t; unfold rnl; have := ih (t + 1); split <;> omega
theorem rnl_in (f : Nat → Int) (a d : Int) (m : Nat) : ∀ t i, i < rnl f a d t m → nea d a (f (t + i)) = true := by
  induction m with
  | zero => intro t i h; simp [rnl] at h
  | succ m ih =>
    intro t i h
    unfold rnl at h
    split at h
    · cases i with
      | zero => simpa using ‹_›
      | succ i => have := ih (t + 1) i (by omega); rwa [show t + 1 + i = t + (i + 1) by omega] at this
    · omega
theorem rnl_end (f : Nat → Int) (a d : Int) (m : Nat) : ∀ t, rnl f a d t m < m → nea d a (f (t + rnl f a d t m)) = false := by
  induction m with
  | zero => intro t h; omega
  | succ m ih =>
    intro t h
    unfold rnl at h ⊢
    split at h
    · rename_i h1
      have := ih (t + 1) (by omega)
      rw [if_pos h1, show t + (rnl f a d (t + 1) m + 1) = t + 1 + rnl f a d (t + 1) m by omega]; exact this
    · rename_i h1
      rw [if_neg h1]; simpa using h1
theorem rnl_is (f : Nat → Int) (a d : Int) (m t n : Nat) (hn : n ≤ m) (h1 : ∀ i, i < n → nea d a (f (t + i)) = true) (h2 : n < m → nea d a (f (t + n)) = false) : rnl f a d t m = n := by
  rcases Nat.lt_trichotomy (rnl f a d t m) n with h | h | h
  · have := rnl_end f a d m t (by omega); rw [h1 _ h] at this; cases this
  · exact h
  · have := rnl_in f a d m t n h; rw [h2 (by have := rnl_le f a d m t; omega)] at this; cases this

theorem fc_lo (T d a b c e : Int) : 0 ≤ fc T d a b c e := by unfold fc mg; split <;> omega
theorem fc_hi (T d a b c e : Int) : fc T d a b c e < 365 := by have := fk_lo T d a b c e; have := fk_hi T d a b c e; unfold fc mg; split <;> omega
theorem fs_one (T d a b c e : Int) : fs T d a b c e = 1 ∨ fs T d a b c e = -1 := by unfold fs; split <;> simp
theorem fs_zero (T d a b c e : Int) (h : fc T d a b c e = 0) : fs T d a b c e = 1 := by
  unfold fc mg at h; unfold fs; split at h <;> (rw [if_neg (by omega)])
theorem xk_lo (T d : Int) (W : Nat) (s : Wk) : 0 ≤ xk T d W s := fc_lo ..
theorem xk_hi (T d : Int) (W : Nat) (s : Wk) : xk T d W s < 365 := fc_hi ..
theorem xs_one (T d : Int) (W : Nat) (s : Wk) : xs T d W s = 1 ∨ xs T d W s = -1 := fs_one ..
theorem xs_zero (T d : Int) (W : Nat) (s : Wk) (h : xk T d W s = 0) : xs T d W s = 1 := fs_zero _ _ _ _ _ _ h

/-- What holds of a state. -/
structure Wk.In (T : Int) (s : Wk) : Prop where
  fit : ∀ k, (s.L k).Fit
  rate : s.r ≤ 22
  bk : ∀ i, i < s.t → 0 ≤ s.b i ∧ s.b i ≤ T

theorem Gd.t0 {T d : Int} (G : Gd T d) : 1023 ≤ T ∧ T ≤ 4095 := by rcases G.top with h | h <;> omega
theorem nA_in {T d : Int} (G : Gd T d) {W : Nat} {s : Wk} (h : s.In T) (hW : 1 ≤ W) : 0 ≤ nA T W s.b s.t ∧ nA T W s.b s.t ≤ T := by
  have ht := G.t0
  unfold nA
  split
  · split
    · omega
    · exact h.bk _ (by omega)
  · split
    · exact h.bk _ (by omega)
    · exact h.bk _ (by omega)
theorem nB_in {T d : Int} (G : Gd T d) {W : Nat} {s : Wk} (h : s.In T) (hW : 1 ≤ W) : 0 ≤ nB T W s.b s.t ∧ nB T W s.b s.t ≤ T := by
  unfold nB
  split
  · exact nA_in G h hW
  · exact h.bk _ (by omega)
theorem nC_in {T d : Int} (G : Gd T d) {W : Nat} {s : Wk} (h : s.In T) (hW : 1 ≤ W) : 0 ≤ nC T W s.b s.t ∧ nC T W s.b s.t ≤ T := by
  unfold nC
  split
  · exact nA_in G h hW
  · split
    · exact h.bk _ (by omega)
    · exact h.bk _ (by omega)
theorem nE_in {T d : Int} (G : Gd T d) {W : Nat} {s : Wk} (h : s.In T) (hW : 1 ≤ W) : 0 ≤ nE T W s.b s.t ∧ nE T W s.b s.t ≤ T := by
  unfold nE
  split
  · exact nA_in G h hW
  · split
    · have : s.t % W < W := Nat.mod_lt _ (by omega)
      by_cases h2 : W = 1
      · subst h2; omega
      · exact h.bk _ (by omega)
    · exact h.bk _ (by omega)
theorem gs_in {T d : Int} (G : Gd T d) (L : Nat → Sx) (k s a b c : Int) : 0 ≤ gs T L k s a b c ∧ gs T L k s a b c ≤ T := by
  have ht := G.t0
  have m := med_in (c := ct c 0 T) (ct_lo (n := a) (l := 0) (h := T) (by omega)) (ct_hi (n := a) (l := 0) (h := T)) (ct_lo (n := b) (l := 0) (h := T) (by omega)) (ct_hi (n := b) (l := 0) (h := T))
  unfold gs
  split
  · split
    · exact ⟨ct_lo (by omega), ct_hi⟩
    · exact ⟨ct_lo (by omega), ct_hi⟩
  · exact m
theorem xp_in {T d : Int} (G : Gd T d) {W : Nat} {s : Wk} (h : s.In T) (hW : 1 ≤ W) : 0 ≤ xp T d W s ∧ xp T d W s ≤ T := by
  unfold xp
  split
  · exact nA_in G h hW
  · exact gs_in G ..
theorem gro_in {T d : Int} (G : Gd T d) (p q : Int) : 0 ≤ gro T d p q ∧ gro T d p q ≤ T := by
  have ht := G.t0
  unfold gro
  exact ⟨ct_lo (by omega), ct_hi⟩

theorem rom_pos {W t : Nat} (hW : 1 ≤ W) : 1 ≤ rom W t ∧ rom W t ≤ W := by have := Nat.mod_lt t (show 0 < W by omega); unfold rom; omega
theorem rom_in {W H t : Nat} (hW : 1 ≤ W) (ht : t < W * H) : t + rom W t ≤ W * H := by
  have h1 := Nat.mod_lt t (show 0 < W by omega)
  have h2 := Nat.div_add_mod t W
  have h3 : t / W < H := Nat.div_lt_of_lt_mul ht
  have h4 : W * (t / W + 1) ≤ W * H := Nat.mul_le_mul_left _ h3
  rw [Nat.mul_add, Nat.mul_one] at h4
  unfold rom; omega

theorem fil_same (b : Nat → Int) (t n : Nat) (v : Int) (i : Nat) (h : i < t) : fil b t n v i = b i := by unfold fil; rw [if_neg (by omega)]
theorem fil_in (b : Nat → Int) (t n : Nat) (v : Int) (i : Nat) (h : t ≤ i) (h2 : i < t + n) : fil b t n v i = v := by unfold fil; rw [if_pos ⟨h, h2⟩]

theorem gor_in {T d : Int} (G : Gd T d) {W : Nat} {s : Wk} (h : s.In T) (hW : 1 ≤ W) (n : Nat) : (gor T W s n).In T := by
  refine ⟨h.fit, rr_le _ _ _, ?_⟩
  intro i hi
  show 0 ≤ fil _ _ _ _ i ∧ fil _ _ _ _ i ≤ T
  by_cases hc : i < s.t
  · rw [fil_same _ _ _ _ _ hc]; exact h.bk _ hc
  · rw [fil_in _ _ _ _ _ (by omega) hi]; exact nA_in G h hW
theorem lL_fit {T d : Int} (G : Gd T d) {L : Nat → Sx} (h : ∀ k, (L k).Fit) (k q : Int) : ∀ j, (lL T d L k q j).Fit := by
  intro j
  unfold lL
  split
  · unfold upd; split
    · exact (learn_fit T d q G _ (h _)).1
    · exact h _
  · exact h _
theorem goo_in {T d : Int} (G : Gd T d) {s : Wk} (h : s.In T) (k g p q : Int) : (goo T d s k g p q).In T := by
  refine ⟨lL_fit G h.fit k q, h.rate, ?_⟩
  intro i hi
  show 0 ≤ fil _ _ _ _ i ∧ fil _ _ _ _ i ≤ T
  by_cases hc : i < s.t
  · rw [fil_same _ _ _ _ _ hc]; exact h.bk _ hc
  · rw [fil_in _ _ _ _ _ (by omega) hi]; exact gro_in G ..
theorem itr_in {T d : Int} (G : Gd T d) {W : Nat} {s : Wk} (h : s.In T) (hW : 1 ≤ W) (c : Nat × Int) : (itr T d W s c).In T := by
  unfold itr
  split
  · split
    · exact gor_in G h hW _
    · exact goo_in G (gor_in G h hW _) _ _ _ _
  · exact goo_in G h _ _ _ _
theorem itr_lt {T d : Int} {W : Nat} {s : Wk} (hW : 1 ≤ W) (c : Nat × Int) : s.t < (itr T d W s c).t := by
  have := rom_pos (t := s.t) hW
  unfold itr
  split
  · split
    · show s.t < s.t + c.1; omega
    · show s.t < s.t + c.1 + 1; omega
  · show s.t < s.t + 1; omega
theorem itr_le {T d : Int} {W H : Nat} {s : Wk} (hW : 1 ≤ W) (ht : s.t < W * H) (c : Nat × Int) (hc : c.1 ≤ rom W s.t) : (itr T d W s c).t ≤ W * H := by
  have := rom_in hW ht
  unfold itr
  split
  · split
    · show s.t + c.1 ≤ _; omega
    · show s.t + c.1 + 1 ≤ _; omega
  · show s.t + 1 ≤ _; omega
theorem itr_old {T d : Int} {W : Nat} {s : Wk} (c : Nat × Int) (i : Nat) (hi : i < s.t) : (itr T d W s c).b i = s.b i := by
  unfold itr
  split
  · split
    · exact fil_same _ _ _ _ _ hi
    · show fil (fil _ _ _ _) (s.t + c.1) _ _ i = _
      rw [fil_same _ _ _ _ _ (by omega), fil_same _ _ _ _ _ hi]
  · exact fil_same _ _ _ _ _ hi
theorem cE_le (T d : Int) (W : Nat) (f : Nat → Int) (s : Wk) : (cE T d W f s).1 ≤ rom W s.t := by
  unfold cE
  split
  · exact rnl_le _ _ _ _ _
  · exact Nat.zero_le _

theorem fld_lt {T d q : Int} (G : Gd T d) (h0 : -(rg T d / 2) ≤ q) (h1 : q ≤ (rg T d - 1) / 2) : (fld q : Int) < rg T d := by
  have := rg_pos T d G
  unfold fld; split <;> omega
theorem wde_in {T d : Int} (G : Gd T d) : 1 ≤ wde T d ∧ wde T d ≤ 12 := by
  have := rg_pos T d G
  have h1 := Lib.bitLen_le (rg T d - 1).toNat 12 (by omega) (by omega)
  have h2 := Lib.bitLen_half (rg T d - 1).toNat (by omega) (by omega)
  unfold wde; omega
theorem lt_wde {T d : Int} (G : Gd T d) (v : Nat) (h : (v : Int) < rg T d) : v < 2 ^ wde T d := by
  have := rg_pos T d G
  have h1 := bitLen_up (rg T d - 1).toNat (by omega)
  unfold wde
  omega

/-- What the coder chooses is near. -/
theorem cE_q {T d : Int} (G : Gd T d) {W : Nat} {f : Nat → Int} {s : Wk} (h : s.In T) (hW : 1 ≤ W) (hf : ∀ i, 0 ≤ f i ∧ f i ≤ T) : (fld (cE T d W f s).2 : Int) < rg T d := by
  unfold cE
  split
  · have := near_all T d (f (s.t + rnl f (nA T W s.b s.t) d s.t (rom W s.t))) (nA T W s.b s.t) (xs T d W s) G (xs_one ..) (nA_in G h hW).1 (nA_in G h hW).2 (hf _).1 (hf _).2
    simp only at this
    exact fld_lt G this.2.2.2.2.2.1 this.2.2.2.2.2.2
  · have := near_all T d (f s.t) (xp T d W s) (xs T d W s) G (xs_one ..) (xp_in G h hW).1 (xp_in G h hW).2 (hf _).1 (hf _).2
    simp only at this
    exact fld_lt G this.2.2.2.2.2.1 this.2.2.2.2.2.2
theorem cE_run {T d : Int} (G : Gd T d) {W : Nat} {f : Nat → Int} {s : Wk} (h : s.In T) (hW : 1 ≤ W) (hf : ∀ i, 0 ≤ f i ∧ f i ≤ T) (hk : xk T d W s = 0) (hn : (cE T d W f s).1 < rom W s.t) : 1 ≤ fld (cE T d W f s).2 := by
  have ha := nA_in G h hW
  unfold cE at hn ⊢
  rw [if_pos hk] at hn ⊢
  have he := rnl_end f (nA T W s.b s.t) d (rom W s.t) s.t hn
  generalize rnl f (nA T W s.b s.t) d s.t (rom W s.t) = n at *
  have hx : ¬ (f (s.t + n) - nA T W s.b s.t ≤ d ∧ nA T W s.b s.t - f (s.t + n) ≤ d) := by intro hh; rw [(nea_iff _ _ _).2 hh] at he; cases he
  have := far_all T d (f (s.t + n)) (nA T W s.b s.t) G ha.1 ha.2 (hf _).1 (hf _).2 (by omega)
  rw [xs_zero T d W s hk, Int.one_mul]
  unfold fld
  split <;> omega

/-- Each round is within the tolerance. -/
theorem itr_near {T d : Int} (G : Gd T d) {W : Nat} {f : Nat → Int} {s : Wk} (h : s.In T) (hW : 1 ≤ W) (hf : ∀ i, 0 ≤ f i ∧ f i ≤ T) (i : Nat) (h0 : s.t ≤ i) (h1 : i < (itr T d W s (cE T d W f s)).t) :
    -d ≤ (itr T d W s (cE T d W f s)).b i - f i ∧ (itr T d W s (cE T d W f s)).b i - f i ≤ d := by
  have ha := nA_in G h hW
  by_cases hk : xk T d W s = 0
  · have e : cE T d W f s = (rnl f (nA T W s.b s.t) d s.t (rom W s.t), shr T d (xs T d W s * (f (s.t + rnl f (nA T W s.b s.t) d s.t (rom W s.t)) - nA T W s.b s.t))) := by unfold cE; rw [if_pos hk]
    rw [e] at h1 ⊢
    have hr := rnl_in f (nA T W s.b s.t) d (rom W s.t) s.t
    have hl := rnl_le f (nA T W s.b s.t) d (rom W s.t) s.t
    generalize rnl f (nA T W s.b s.t) d s.t (rom W s.t) = n at *
    unfold itr at h1 ⊢
    rw [if_pos hk] at h1 ⊢
    dsimp only at h1 ⊢
    have hin : i < s.t + n → -d ≤ nA T W s.b s.t - f i ∧ nA T W s.b s.t - f i ≤ d := by
      intro hi
      have := (nea_iff _ _ _).1 (hr (i - s.t) (by omega))
      rw [show s.t + (i - s.t) = i by omega] at this
      omega
    by_cases hn : n = rom W s.t
    · rw [if_pos hn] at h1 ⊢
      have h1 : i < s.t + n := h1
      show -d ≤ fil _ _ _ _ i - f i ∧ fil _ _ _ _ i - f i ≤ d
      rw [fil_in _ _ _ _ _ h0 h1]; exact hin h1
    · rw [if_neg hn] at h1 ⊢
      have h1 : i < s.t + n + 1 := h1
      show -d ≤ fil (fil _ _ _ _) (s.t + n) 1 _ i - f i ∧ fil (fil _ _ _ _) (s.t + n) 1 _ i - f i ≤ d
      by_cases hi : i < s.t + n
      · rw [fil_same _ _ _ _ _ hi, fil_in _ _ _ _ _ h0 hi]; exact hin hi
      · obtain rfl : i = s.t + n := by omega
        rw [fil_in _ _ _ _ _ (by omega) (by omega)]
        have := near_all T d (f (s.t + n)) (nA T W s.b s.t) (xs T d W s) G (xs_one ..) ha.1 ha.2 (hf _).1 (hf _).2
        simp only at this
        exact ⟨this.2.2.1, this.2.2.2.1⟩
  · have e : cE T d W f s = (0, shr T d (xs T d W s * (f s.t - xp T d W s))) := by unfold cE; rw [if_neg hk]
    rw [e] at h1 ⊢
    unfold itr at h1 ⊢
    rw [if_neg hk] at h1 ⊢
    have h1 : i < s.t + 1 := h1
    obtain rfl : i = s.t := by omega
    show -d ≤ fil _ _ _ _ _ - f _ ∧ fil _ _ _ _ _ - f _ ≤ d
    rw [fil_in _ _ _ _ _ (by omega) (by omega)]
    have := near_all T d (f s.t) (xp T d W s) (xs T d W s) G (xs_one ..) (xp_in G h hW).1 (xp_in G h hW).2 (hf _).1 (hf _).2
    simp only at this
    exact ⟨this.2.2.1, this.2.2.2.1⟩

/-- Coded again, what came back makes the same round. -/
theorem itr_again {T d : Int} (G : Gd T d) {W : Nat} {f g : Nat → Int} {s : Wk} (h : s.In T) (hW : 1 ≤ W) (hf : ∀ i, 0 ≤ f i ∧ f i ≤ T)
    (hg : ∀ i, s.t ≤ i → i < (itr T d W s (cE T d W f s)).t → g i = (itr T d W s (cE T d W f s)).b i) :
    itr T d W s (cE T d W g s) = itr T d W s (cE T d W f s) ∧ (∀ x, bit T d W s (cE T d W g s) x = bit T d W s (cE T d W f s) x) := by
  have ha := nA_in G h hW
  have hd := G.lo
  by_cases hk : xk T d W s = 0
  · have e : cE T d W f s = (rnl f (nA T W s.b s.t) d s.t (rom W s.t), shr T d (xs T d W s * (f (s.t + rnl f (nA T W s.b s.t) d s.t (rom W s.t)) - nA T W s.b s.t))) := by unfold cE; rw [if_pos hk]
    have e2 : cE T d W g s = (rnl g (nA T W s.b s.t) d s.t (rom W s.t), shr T d (xs T d W s * (g (s.t + rnl g (nA T W s.b s.t) d s.t (rom W s.t)) - nA T W s.b s.t))) := by unfold cE; rw [if_pos hk]
    rw [e] at hg
    rw [e, e2]
    have hr := rnl_in f (nA T W s.b s.t) d (rom W s.t) s.t
    have hl := rnl_le f (nA T W s.b s.t) d (rom W s.t) s.t
    have he := rnl_end f (nA T W s.b s.t) d (rom W s.t) s.t
    generalize rnl f (nA T W s.b s.t) d s.t (rom W s.t) = n at *
    unfold itr bit
    unfold itr at hg
    simp only [if_pos hk] at hg ⊢
    by_cases hn : n = rom W s.t
    · simp only [if_pos hn] at hg
      have hG : ∀ i, i < n → g (s.t + i) = nA T W s.b s.t := by
        intro i hi
        have := hg (s.t + i) (by omega) (show s.t + i < s.t + n by omega)
        rw [this]
        exact fil_in _ _ _ _ _ (by omega) (by omega)
      have hR : rnl g (nA T W s.b s.t) d s.t (rom W s.t) = n := rnl_is _ _ _ _ _ _ hl (fun i hi => by rw [hG i hi]; exact (nea_iff _ _ _).2 (by omega)) (by omega)
      rw [hR]
      simp only [if_pos hn]
      exact ⟨trivial, fun _ => trivial⟩
    · simp only [if_neg hn] at hg
      have hG : ∀ i, i < n → g (s.t + i) = nA T W s.b s.t := by
        intro i hi
        have := hg (s.t + i) (by omega) (show s.t + i < s.t + n + 1 by omega)
        rw [this]
        show fil (fil _ _ _ _) (s.t + n) 1 _ (s.t + i) = _
        rw [fil_same _ _ _ _ _ (by omega)]
        exact fil_in _ _ _ _ _ (by omega) (by omega)
      have hv := hg (s.t + n) (by omega) (show s.t + n < s.t + n + 1 by omega)
      have hv2 : g (s.t + n) = gro T d (nA T W s.b s.t) (xs T d W s * shr T d (xs T d W s * (f (s.t + n) - nA T W s.b s.t))) := by
        rw [hv]; exact fil_in _ _ _ _ _ (by show s.t + n ≤ _; omega) (by show s.t + n < s.t + n + 1; omega)
      have ho := xs_zero T d W s hk
      have hne : ¬ (f (s.t + n) - nA T W s.b s.t ≤ d ∧ nA T W s.b s.t - f (s.t + n) ≤ d) := by intro hh; have := he (by omega); rw [(nea_iff _ _ _).2 hh] at this; cases this
      have hfar := far_all T d (f (s.t + n)) (nA T W s.b s.t) G ha.1 ha.2 (hf _).1 (hf _).2 (by omega)
      have hna := near_all T d (f (s.t + n)) (nA T W s.b s.t) (xs T d W s) G (xs_one ..) ha.1 ha.2 (hf _).1 (hf _).2
      simp only at hna
      have hR : rnl g (nA T W s.b s.t) d s.t (rom W s.t) = n := by
        refine rnl_is _ _ _ _ _ _ hl (fun i hi => by rw [hG i hi]; exact (nea_iff _ _ _).2 (by omega)) (fun _ => ?_)
        rw [hv2, ho, Int.one_mul, Int.one_mul]
        unfold nea
        rw [decide_eq_false]
        omega
      rw [hR]
      have hq : shr T d (xs T d W s * (g (s.t + n) - nA T W s.b s.t)) = shr T d (xs T d W s * (f (s.t + n) - nA T W s.b s.t)) := by
        rw [hv2]; exact hna.2.2.2.2.1
      rw [hq]
      exact ⟨rfl, fun _ => rfl⟩
  · have e : cE T d W f s = (0, shr T d (xs T d W s * (f s.t - xp T d W s))) := by unfold cE; rw [if_neg hk]
    have e2 : cE T d W g s = (0, shr T d (xs T d W s * (g s.t - xp T d W s))) := by unfold cE; rw [if_neg hk]
    rw [e] at hg
    rw [e, e2]
    unfold itr at hg
    rw [if_neg hk] at hg
    have hna := near_all T d (f s.t) (xp T d W s) (xs T d W s) G (xs_one ..) (xp_in G h hW).1 (xp_in G h hW).2 (hf _).1 (hf _).2
    simp only at hna
    have hv := hg s.t (by omega) (show s.t < s.t + 1 by omega)
    have hv2 : g s.t = gro T d (xp T d W s) (xs T d W s * shr T d (xs T d W s * (f s.t - xp T d W s))) := by
      rw [hv]; exact fil_in _ _ _ _ _ (by omega) (by omega)
    rw [hv2, hna.2.2.2.2.1]
    exact ⟨rfl, fun _ => rfl⟩

/-- The rounds. -/
def stp (T d : Int) (W : Nat) (c : Wk → Nat × Int) (s : Wk) : Nat → Wk
  | 0 => s
  | j + 1 => itr T d W (stp T d W c s j) (c (stp T d W c s j))
def wrt (T d : Int) (W : Nat) (c : Wk → Nat × Int) (s : Wk) : Nat → Nat × Nat
  | 0 => (1, 8)
  | j + 1 => bit T d W (stp T d W c s j) (c (stp T d W c s j)) (wrt T d W c s j)
theorem stp_in {T d : Int} (G : Gd T d) {W : Nat} {s : Wk} (c : Wk → Nat × Int) (h : s.In T) (hW : 1 ≤ W) (j : Nat) : (stp T d W c s j).In T := by
  induction j with
  | zero => exact h
  | succ j ih => exact itr_in G ih hW _
theorem stp_old {T d : Int} {W : Nat} {s : Wk} (c : Wk → Nat × Int) (hW : 1 ≤ W) (i j : Nat) (hij : i ≤ j) (p : Nat) (hp : p < (stp T d W c s i).t) : (stp T d W c s j).b p = (stp T d W c s i).b p ∧ p < (stp T d W c s j).t := by
  induction j with
  | zero => obtain rfl : i = 0 := by omega
            exact ⟨rfl, hp⟩
  | succ j ih =>
    by_cases e : i = j + 1
    · subst e; exact ⟨rfl, hp⟩
    · obtain ⟨h1, h2⟩ := ih (by omega)
      have h3 := itr_lt (T := T) (d := d) (s := stp T d W c s j) hW (c (stp T d W c s j))
      exact ⟨(itr_old _ p h2).trans h1, Nat.lt_trans h2 h3⟩
theorem stp_lt {T d : Int} {W : Nat} {s : Wk} (c : Wk → Nat × Int) (hW : 1 ≤ W) (i j : Nat) (hij : i < j) : (stp T d W c s i).t < (stp T d W c s j).t := by
  induction j with
  | zero => omega
  | succ j ih =>
    have h3 := itr_lt (T := T) (d := d) (s := stp T d W c s j) hW (c (stp T d W c s j))
    have h3 : (stp T d W c s j).t < (stp T d W c s (j + 1)).t := h3
    by_cases e : i = j
    · subst e; exact h3
    · have := ih (by omega); omega
theorem stp_ge {T d : Int} {W : Nat} {s : Wk} (c : Wk → Nat × Int) (hW : 1 ≤ W) (j : Nat) : j ≤ (stp T d W c s j).t := by
  induction j with
  | zero => omega
  | succ j ih => have := stp_lt (T := T) (d := d) (s := s) c hW j (j + 1) (by omega); omega

/-- P10.2, of the walk alone. -/
theorem stp_again {T d : Int} (G : Gd T d) {W : Nat} {f g : Nat → Int} {s : Wk} (h : s.In T) (hW : 1 ≤ W) (hf : ∀ i, 0 ≤ f i ∧ f i ≤ T) (J : Nat)
    (hg : ∀ i, i < (stp T d W (cE T d W f) s J).t → g i = (stp T d W (cE T d W f) s J).b i) (j : Nat) (hj : j ≤ J) :
    stp T d W (cE T d W g) s j = stp T d W (cE T d W f) s j ∧ wrt T d W (cE T d W g) s j = wrt T d W (cE T d W f) s j := by
  induction j with
  | zero => exact ⟨rfl, rfl⟩
  | succ j ih =>
    obtain ⟨e1, e2⟩ := ih (by omega)
    have hin := stp_in G (cE T d W f) h hW j
    have := itr_again (g := g) G hin hW hf (fun i _ h2 => by
      have := stp_old (T := T) (d := d) (s := s) (cE T d W f) hW (j + 1) J hj i h2
      rw [hg i this.2, this.1]; rfl)
    constructor
    · show itr _ _ _ (stp T d W (cE T d W g) s j) _ = _
      rw [e1]; exact this.1
    · show bit _ _ _ (stp T d W (cE T d W g) s j) _ _ = _
      rw [e1, e2]; exact this.2 _
/-- P10.1, of the walk alone. -/
theorem stp_near {T d : Int} (G : Gd T d) {W : Nat} {f : Nat → Int} {s : Wk} (h : s.In T) (hW : 1 ≤ W) (hf : ∀ i, 0 ≤ f i ∧ f i ≤ T) (h0 : s.t = 0) (j : Nat) (i : Nat) (hi : i < (stp T d W (cE T d W f) s j).t) :
    -d ≤ (stp T d W (cE T d W f) s j).b i - f i ∧ (stp T d W (cE T d W f) s j).b i - f i ≤ d := by
  induction j with
  | zero => have : i < s.t := hi
            omega
  | succ j ih =>
    by_cases hc : i < (stp T d W (cE T d W f) s j).t
    · have := stp_old (T := T) (d := d) (s := s) (cE T d W f) hW j (j + 1) (by omega) i hc
      rw [this.1]; exact ih hc
    · exact itr_near G (stp_in G _ h hW j) hW hf i (by omega) hi
end Go.Proofs.YtahoeodpjdbdkaaDoor

namespace Go.Proofs.YtahoeodpjdbdkaaDoor
open Go.RowKit

theorem ne_ty {w : World} {a b t u : Nat} {x y : Array Value} {p q : Nat × Nat} (h1 : w.heap[a]? = some (.cells x t p)) (h2 : w.heap[b]? = some (.cells y u q)) (h : t ≠ u) : a ≠ b := by
  rintro rfl
  rw [h1] at h2
  simp at h2
  exact h h2.2.1

/-- The six cells of a walk. -/
abbrev wc (W : Nat) (D : Int) (P X G n : Nat) (t : Int) (ext : List Value) : List Value :=
  [.int .i64 (W : Int), .int .i64 D, .pointer (some ⟨P, 0, none⟩), .pointer (some ⟨X, 0, none⟩), .slice (some ⟨G, 0, none⟩) n n, .int .i64 t] ++ ext

/-- A walk in memory. -/
structure Wm (w : World) (B P X G ty : Nat) (T d D : Int) (W n : Nat) (ext : List Value) (s : Wk) : Prop where
  blk : w.heap[B]? = some (.cells (wc W D P X G n (s.t : Int) ext).toArray ty (0, 0))
  md : Md w P T d s.L
  co : CoderAt w X s.r
  row : ∃ cs : List Value, w.heap[G]? = some (.cells cs.toArray 41 (0, 0)) ∧ cs.length = n ∧ ∀ i, i < s.t → cs[i]? = some (.int .u16 (s.b i))
  ty : ty = 65 ∨ ty = 57

theorem Wm.ne {w : World} {B P X G ty : Nat} {T d D : Int} {W n : Nat} {ext : List Value} {s : Wk} (h : Wm w B P X G ty T d D W n ext s) : B ≠ P ∧ B ≠ X ∧ B ≠ G ∧ P ≠ X ∧ P ≠ G ∧ X ≠ G := by
  obtain ⟨cs, hr, _⟩ := h.row
  obtain ⟨ps, hp, _⟩ := h.md.blk
  have hx := h.co.1
  have ht := h.ty
  exact ⟨ne_ty h.blk hp (by omega), ne_ty h.blk hx (by omega), ne_ty h.blk hr (by omega), ne_ty hp hx (by omega), ne_ty hp hr (by omega), ne_ty hx hr (by omega)⟩

theorem Wm.keep {w w' : World} {B P X G ty : Nat} {T d D : Int} {W n : Nat} {ext : List Value} {s : Wk} {ks : List Nat} (h : Wm w B P X G ty T d D W n ext s) (hk : Kept ks w w') (h0 : B ∉ ks ∧ P ∉ ks ∧ X ∉ ks ∧ G ∉ ks) : Wm w' B P X G ty T d D W n ext s := by
  obtain ⟨cs, hr, hl, hc⟩ := h.row
  exact ⟨hk.heap h.blk h0.1, h.md.keep hk h0.2.1, h.co.kept hk h0.2.2.1, ⟨cs, hk.heap hr h0.2.2.2, hl, hc⟩, h.ty⟩
theorem Wm.drewN {w : World} {B P X G ty : Nat} {T d D : Int} {W n : Nat} {ext : List Value} {s : Wk} (h : Wm w B P X G ty T d D W n ext s) (q : Nat) : Wm (w.drewN q) B P X G ty T d D W n ext s := h.keep ((Kept.refl [] w).drewN q) (by simp)

/-- The cells as facts. -/
structure Wf (w : World) (B P X G : Nat) (D : Int) (W n : Nat) (t : Int) : Prop where
  c0 : w.cell? ⟨B, 0, none⟩ = some (.int .i64 (W : Int))
  c1 : w.cell? ⟨B, 1, none⟩ = some (.int .i64 D)
  c2 : w.cell? ⟨B, 2, none⟩ = some (.pointer (some ⟨P, 0, none⟩))
  c3 : w.cell? ⟨B, 3, none⟩ = some (.pointer (some ⟨X, 0, none⟩))
  c4 : w.cell? ⟨B, 4, none⟩ = some (.slice (some ⟨G, 0, none⟩) n n)
  c5 : w.cell? ⟨B, 5, none⟩ = some (.int .i64 t)
  fz : ∀ i, w.frozen? ⟨B, i, none⟩ = false

theorem Wm.fact {w : World} {B P X G ty : Nat} {T d D : Int} {W n : Nat} {ext : List Value} {s : Wk} (h : Wm w B P X G ty T d D W n ext s) : Wf w B P X G D W n (s.t : Int) := by
  have hb := h.blk
  refine ⟨?_, ?_, ?_, ?_, ?_, ?_, ?_⟩ <;> simp [World.cell?, World.frozen?, hb]
theorem Wm.cel {w : World} {B P X G ty : Nat} {T d D : Int} {W n : Nat} {ext : List Value} {s : Wk} (h : Wm w B P X G ty T d D W n ext s) (i : Nat) (hi : i < s.t) : w.cell? ⟨G, i, none⟩ = some (.int .u16 (s.b i)) := by
  obtain ⟨cs, hr, hl, hc⟩ := h.row
  rw [cell_of_row _ _ _ _ _ _ hr]
  simpa using hc i hi
theorem Wm.any {w : World} {B P X G ty : Nat} {T d D : Int} {W n : Nat} {ext : List Value} {s : Wk} (h : Wm w B P X G ty T d D W n ext s) (i : Nat) (hi : i < n) : (∃ u, w.cell? ⟨G, i, none⟩ = some u) ∧ w.frozen? ⟨G, i, none⟩ = false := by
  obtain ⟨cs, hr, hl, hc⟩ := h.row
  exact ⟨row_cell_at hr (by omega), by simp [World.frozen?, hr]⟩

/-- One sample more. -/
theorem Wm.put {w : World} {B P X G ty : Nat} {T d D : Int} {W n : Nat} {ext : List Value} {s : Wk} (h : Wm w B P X G ty T d D W n ext s) (ht : s.t < n) (v : Int) (b' : Nat → Int) (hb : ∀ i, i < s.t → b' i = s.b i) (hv : b' s.t = v) :
    Wm ((w.setCell ⟨G, s.t, none⟩ (.int .u16 v)).setCell ⟨B, 5, none⟩ (.int .i64 ((s.t + 1 : Nat) : Int))) B P X G ty T d D W n ext ⟨s.L, s.r, b', s.t + 1⟩ := by
  obtain ⟨n1, n2, n3, n4, n5, n6⟩ := h.ne
  have k1 : Kept [G] w (w.setCell ⟨G, s.t, none⟩ (.int .u16 v)) := (Kept.refl _ _).setCell (by simp) _
  have k2 : Kept [B] (w.setCell ⟨G, s.t, none⟩ (.int .u16 v)) ((w.setCell ⟨G, s.t, none⟩ (.int .u16 v)).setCell ⟨B, 5, none⟩ (.int .i64 ((s.t + 1 : Nat) : Int))) := (Kept.refl _ _).setCell (by simp) _
  have k : Kept [B, G] w ((w.setCell ⟨G, s.t, none⟩ (.int .u16 v)).setCell ⟨B, 5, none⟩ (.int .i64 ((s.t + 1 : Nat) : Int))) := (k1.mono (l2 := [B, G]) (by simp)).step k2 (by simp)
  obtain ⟨cs, hr, hl, hc⟩ := h.row
  refine ⟨?_, h.md.keep k (by simp; omega), h.co.kept k (by simp; omega), ⟨cs.set s.t (.int .u16 v), ?_, by simpa using hl, ?_⟩, h.ty⟩
  · rw [heap_setCell_at (k1.heap h.blk (by simp; omega))]
    simp [wc]
  · refine k2.heap ?_ (by simp; omega)
    rw [heap_setCell_at hr]
    simp
  · intro i hi
    have hi : i < s.t + 1 := hi
    show _ = some (Value.int .u16 (b' i))
    rw [List.getElem?_set]
    by_cases e : s.t = i
    · subst e; rw [if_pos rfl, if_pos (by omega), hv]
    · rw [if_neg e, hb i (by omega)]; exact hc i (by omega)

theorem u16_in {v : Int} (h0 : 0 ≤ v) (h1 : v ≤ 65535) : IntKind.u16.wrap v = v := by
  simp only [IntKind.wrap, IntKind.bits, IntKind.signed]; simp; omega

set_option maxHeartbeats 4000000 in
set_option maxRecDepth 1000000 in
theorem fill_any (B P X G ty : Nat) (T d D : Int) (W n : Nat) (ext : List Value) (s : Wk) (m v : Int) (w : World) (h : Wm w B P X G ty T d D W n ext s) (m0 : 0 ≤ m) (hm : s.t + m.toNat ≤ n) (hn : n ≤ 4194304) (v0 : 0 ≤ v) (v1 : v ≤ 65535) :
    Calls Tryd.prog 49 #[.pointer (some ⟨B, 0, none⟩), .int .i64 m, .int .i64 v] w fun e w' => e = .returned (.tuple #[]) ∧ Wm w' B P X G ty T d D W n ext ⟨s.L, s.r, fil s.b s.t m.toNat v, s.t + m.toNat⟩ ∧ Kept [B, G] w w' := by
  have hv := u16_in v0 v1
  have HW := Hid.mk h
  clear h
  obtain ⟨M, rfl⟩ := Int.eq_ofNat_of_zero_le m0
  rw [Int.toNat_natCast] at hm ⊢
  have hm' : M ≤ 4194304 := by omega
  go_enter Tryd.func49, Tryd.ntmps49
  go_wp2
  go_loopw [7] (fun i wr => ∃ k : Nat, k ≤ M ∧ i = .int .i64 (k : Int) ∧ Wm wr B P X G ty T d D W n ext ⟨s.L, s.r, fil s.b s.t k v, s.t + k⟩ ∧ Kept [B, G] w wr) (fun i _ => M - (intOf i).toNat)
  case atStart => exact ⟨0, by omega, rfl, by have := HW.out; obtain ⟨a, b, c, ⟨cs, x, y, z⟩, e⟩ := this; exact ⟨a, b, c, ⟨cs, x, y, fun i hi => by rw [z i hi]; show _ = some (Value.int .u16 (fil _ _ _ _ i)); rw [fil_same _ _ _ _ _ (by simpa using hi)]⟩, e⟩, Kept.refl _ _⟩
  case round =>
    obtain ⟨k, hk, rfl, hw, hkk⟩ := hrel
    have F := hw.fact
    have HK := Hid.mk hkk
    have Hw := Hid.mk hw
    have hne := hw.ne
    by_cases hlt : k < M
    · obtain ⟨⟨u, hu⟩, hf⟩ := hw.any (s.t + k) (by omega)
      obtain ⟨-, -, -, -, c4, c5, fz⟩ := F
      have c5 : wr.cell? ⟨B, 5, none⟩ = some (.int .i64 ((s.t : Int) + k)) := c5
      have f5 := fz 5
      have hBG : ¬ B = G := by omega
      have hGB : ¬ G = B := by omega
      have ix : (s.t : Int) + k < n := by omega
      have ix0 : (0 : Int) ≤ (s.t : Int) + k := by omega
      have et : ((s.t : Int) + k).toNat = s.t + k := by omega
      have hu : wr.cell? ⟨G, ((s.t : Int) + k).toNat, none⟩ = some u := by rw [et]; exact hu
      have hf : wr.frozen? ⟨G, ((s.t : Int) + k).toNat, none⟩ = false := by rw [et]; exact hf
      have ET := Hid.mk et
      clear hw hkk fz hne et hm
      go_wp2
      go_region_law (fail)
      all_goals
        obtain ⟨w2, hw2, e5, g5, HW2⟩ : ∃ w2, (wr.setCell ⟨G, ((s.t : Int) + k).toNat, none⟩ (.int .u16 v)).drew = w2 ∧ w2.cell? ⟨B, 5, none⟩ = some (.int .i64 ((s.t : Int) + k)) ∧ w2.frozen? ⟨B, 5, none⟩ = false ∧ Hid (w2 = (wr.setCell ⟨G, s.t + k, none⟩ (.int .u16 v)).drew) := ⟨_, rfl, by
          show (World.setCell _ _ _).cell? _ = _
          rw [World.cell?_setCell_other _ _ _ _ (by simp <;> omega)]; exact c5, by simpa [go_sem] using f5, by rw [ET.out]; exact Hid.mk rfl⟩
        rw [hw2]
        clear hw2
        go_wp2
        go_roundw
        case rel =>
          have hp := Hw.out.put (by show s.t + k < n; omega) v (fil s.b s.t (k + 1) v) (fun i hi => by
            have hi : i < s.t + k := hi
            show fil _ _ _ _ i = fil _ _ _ _ i
            unfold fil
            by_cases hc : s.t ≤ i
            · rw [if_pos ⟨hc, by omega⟩, if_pos ⟨hc, hi⟩]
            · rw [if_neg (by omega), if_neg (by omega)]) (fil_in _ _ _ _ _ (by show s.t ≤ s.t + k; omega) (by show s.t + k < _; omega))
          have e : ((s.t : Int) + k + 1) = ((s.t + k + 1 : Nat) : Int) := by omega
          refine ⟨k + 1, by omega, by go_num, ?_, ?_⟩
          · rw [HW2.out, e]
            exact hp.keep (ks := []) ((Kept.refl [] _).drewN 1) (by simp)
          · rw [HW2.out]
            exact ((HK.out.setCell (p := ⟨G, s.t + k, none⟩) (by simp) _).drew).setCell (p := ⟨B, 5, none⟩) (by simp) _
        case measure => simp [intOf]; omega
    · obtain rfl : M = k := by omega
      go_wp2
      go_end0
      exact ⟨rfl, Hw.out, HK.out⟩
end Go.Proofs.YtahoeodpjdbdkaaDoor
