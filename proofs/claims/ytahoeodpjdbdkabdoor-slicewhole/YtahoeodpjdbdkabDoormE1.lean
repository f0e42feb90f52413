import Derived.Test.YtahoeodpjdbdkabDoormA5
import Derived.Test.YtahoeodpjdbdkabDoormB1Z
namespace Go.Proofs.YtahoeodpjdbdkabDoor
open Go.RowKit

set_option maxHeartbeats 8000000 in
set_option maxRecDepth 1000000 in
theorem learn_yes (P n : Nat) (T d q : Int) (L : Nat → Sx) (w : World) (M : Md w P T d L) (hn : n < 365) :
    Calls Tryd.prog 51 #[.pointer (some ⟨P, 0, none⟩), .int .i64 (n : Int), .int .i64 q] w fun e w' => e = .returned (.tuple #[]) ∧ Chg w w' P (7 + n * 4) ((L n).learn T d q) := by
  have K := Hid.mk (fun w => known_any (n : Int) w)
  have hd : decide (0 ≤ (n : Int) ∧ (n : Int) < 365) = true := by simp; omega
  rw [hd] at K
  clear hd
  have A4 := M.ctx n hn
  have F := M.fit n
  have C1 := Hid.mk (quotient_any P T d q w M.hd M.good)
  have h2 := M.hd.c2
  have ⟨a0, a1⟩ := add_a T d q M.good (L n)
  have ⟨x0, x1⟩ := qs_in T d q M.good
  obtain ⟨f1, f2, f3, f4, f5, -, -⟩ := age_fit T d q M.good (L n) F
  have HL : Hid ((L n).learn T d q = ((((L n).add T d q).age)).follow) := Hid.mk rfl
  have ea : (L n).add T d q = ⟨(L n).A + mg (ct q (-rg T d) (rg T d)), (L n).B + ct q (-rg T d) (rg T d) * (2 * d + 1), (L n).S, (L n).N⟩ := rfl
  have ⟨g0, g1⟩ := rg_pos T d M.good
  have y0 := ct_lo (n := q) (l := -rg T d) (h := rg T d) (by omega)
  have y1 := ct_hi (n := q) (l := -rg T d) (h := rg T d)
  have R0 := Hid.mk (Chg.refl A4)
  rw [ea] at HL a0 a1 f1 f2 f3 f4 f5
  clear ea
  obtain ⟨u0, u1, v0, v1, s0, s1, n0, n1⟩ := F
  generalize (L n).learn T d q = res at *
  generalize L n = s at *
  obtain ⟨A, B, S, N⟩ := s
  dsimp only at *
  have CM := Hid.mk (fun w => mag_any (ct q (-rg T d) (rg T d)) w (by omega) (by omega))
  generalize mg (ct q (-rg T d) (rg T d)) = m at *
  generalize ct q (-rg T d) (rg T d) = c at *
  have qx : IntKind.i64.wrap (c * (2 * d + 1)) = c * (2 * d + 1) := wrap_i (by omega) (by omega)
  obtain ⟨X, hX⟩ : ∃ X, c * (2 * d + 1) = X := ⟨_, rfl⟩
  rw [hX] at x0 x1 f1 f2 f3 f4 f5 HL
  replace qx := qx.trans hX
  clear hX M
  have Hf3 := Hid.mk f3
  have HB : Hid (-1000000 ≤ (Sx.age ⟨A + m, B + X, S, N⟩).B ∧ (Sx.age ⟨A + m, B + X, S, N⟩).B ≤ 1000000) := Hid.mk (by unfold Sx.age; split <;> dsimp only <;> omega)
  clear f3 f1 f2
  have qa : IntKind.i64.wrap (A + m) = A + m := wrap_i (by omega) (by omega)
  have qb : IntKind.i64.wrap (B + X) = B + X := wrap_i (by omega) (by omega)
  go_enter Tryd.func51, Tryd.ntmps51
  go_wp2_with (go_at_call 73; refine (K.out _).mono ?_; rintro e w' ⟨rfl, rfl⟩)
  refine C1.out.mono ?_
  rintro e w1 ⟨rfl, m1, rfl⟩
  obtain ⟨w1, hw1, R1, k2⟩ : ∃ w1, w'.drewN m1 = w1 ∧ Hid (Chg w' w1 P (7 + n * 4) ⟨A, B, S, N⟩) ∧ w1.cell? ⟨P, 2, none⟩ = some (.int .i64 (2 * d + 1)) := ⟨_, rfl, Hid.mk (R0.out.drewN m1), by rw [cell_drewN]; exact h2⟩
  rw [hw1]
  clear hw1
  have k0 := R1.out.now.ca
  have z0 := R1.out.now.fz (7 + n * 4)
  dsimp only at k0
  go_wp2
  go_region_with (go_at_call 75; refine (CM.out _).mono ?_; rintro e w2 ⟨rfl, rfl⟩)
  all_goals
    obtain ⟨w2, hw2, R2⟩ : ∃ w2, (w1.setCell ⟨P, 7 + n * 4, none⟩ (.int .i64 (A + m))).drew = w2 ∧ Hid (Chg w' w2 P (7 + n * 4) ⟨A + m, B, S, N⟩) := ⟨_, rfl, Hid.mk ((R1.out.set 0 (by omega) (A + m)).drewN 1)⟩
    rw [hw2]
    clear hw2
    have j1 := R2.out.now.cb
    have z1 := R2.out.now.fz (7 + n * 4 + 1)
    have j2 : w2.cell? ⟨P, 2, none⟩ = some (.int .i64 (2 * d + 1)) := (R2.out.other 2 (by omega)).trans h2
    dsimp only at j1
    go_wp2
    go_region_law (fail)
    all_goals
      obtain ⟨w3, hw3, R3⟩ : ∃ w3, (w2.setCell ⟨P, 7 + n * 4 + 1, none⟩ (.int .i64 (B + X))).drew = w3 ∧ Hid (Chg w' w3 P (7 + n * 4) ⟨A + m, B + X, S, N⟩) := ⟨_, rfl, Hid.mk ((R2.out.set 1 (by omega) (B + X)).drewN 1)⟩
      rw [hw3]
      clear hw3
      go_wp2_with (fail)
      refine (age_any P (7 + n * 4) ⟨A + m, B + X, S, N⟩ w3 R3.out.now (by dsimp only; omega) (by dsimp only; omega) (by dsimp only; omega) (by dsimp only; omega) (by dsimp only; omega) (by dsimp only; omega)).mono ?_
      rintro e w4 ⟨rfl, c4⟩
      have R4 := Hid.mk (R3.out.trans c4)
      clear c4
      go_wp2_with (fail)
      refine (follow_any P (7 + n * 4) _ w4 R4.out.now HB.out.1 HB.out.2 (by rw [Hf3.out]; omega) (by rw [Hf3.out]; omega) (by omega) (by omega)).mono ?_
      rintro e w5 ⟨rfl, c5⟩
      go_wp2
      go_end0
      exact ⟨rfl, by rw [HL.out]; exact R4.out.trans c5⟩

/-- What all contexts have learnt behind a Learn. -/
def lL (T d : Int) (L : Nat → Sx) (k q : Int) : Nat → Sx := if 0 ≤ k ∧ k < 365 then upd L k.toNat ((L k.toNat).learn T d q) else L

set_option maxHeartbeats 4000000 in
theorem learn_any (P : Nat) (T d k q : Int) (L : Nat → Sx) (w : World) (M : Md w P T d L) :
    Calls Tryd.prog 51 #[.pointer (some ⟨P, 0, none⟩), .int .i64 k, .int .i64 q] w fun e w' => e = .returned (.tuple #[]) ∧ Md w' P T d (lL T d L k q) ∧ Kept [P] w w' := by
  unfold lL
  by_cases h : 0 ≤ k ∧ k < 365
  · rw [if_pos h]
    obtain ⟨n, rfl, hn⟩ := ctx_nat h
    rw [Int.toNat_natCast]
    refine (learn_yes P n T d q L w M hn).mono ?_
    rintro e w' ⟨rfl, hc⟩
    exact ⟨rfl, M.chg hn (learn_fit T d q M.good _ (M.fit n)).1 hc, hc.kept⟩
  · rw [if_neg h]
    have K := Hid.mk (fun w => known_any k w)
    rw [decide_eq_false h] at K
    have HM := Hid.mk M
    clear h M
    go_enter Tryd.func51, Tryd.ntmps51
    go_wp2_with (go_at_call 73; refine (K.out _).mono ?_; rintro e w' ⟨rfl, rfl⟩)
    (try simp only [Exit.inBlock, Exit.then]); refine bodyPost_ret (results_none rfl _ _ _) rfl ?_
    exact ⟨rfl, HM.out, Kept.refl _ _⟩
end Go.Proofs.YtahoeodpjdbdkabDoor
