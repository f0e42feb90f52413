import Derived.Test.YthhegomjipbdbaaGreatDoormA1Z
namespace Go.Proofs.YthhegomjipbdbaaGreatDoor
open Go.RowKit

/-- A model in memory: what each context has learnt is L. -/
structure Md (w : World) (P : Nat) (T d : Int) (L : Nat → Sx) : Prop where
  good : Gd T d
  hd : Hd w P T d
  blk : ∃ cs, w.heap[P]? = some (.cells cs 197 (0, 0)) ∧ cs.size = 1467
  ctx : ∀ k, k < 365 → At4 w P (7 + k * 4) (L k)
  fit : ∀ k, (L k).Fit

theorem At4.keep {w w' : World} {P o : Nat} {s : Sx} {ks : List Nat} (h : At4 w P o s) (hk : Kept ks w w') (hn : P ∉ ks) : At4 w' P o s := by
  obtain ⟨⟨cs, hb, hl⟩, h1, h2, h3, h4⟩ := h
  have hb' := hk.heap hb hn
  refine ⟨⟨cs, hb', hl⟩, ?_, ?_, ?_, ?_⟩
  · rw [cell_of_row _ _ _ _ _ _ hb'] ; rw [cell_of_row _ _ _ _ _ _ hb] at h1; exact h1
  · rw [cell_of_row _ _ _ _ _ _ hb'] ; rw [cell_of_row _ _ _ _ _ _ hb] at h2; exact h2
  · rw [cell_of_row _ _ _ _ _ _ hb'] ; rw [cell_of_row _ _ _ _ _ _ hb] at h3; exact h3
  · rw [cell_of_row _ _ _ _ _ _ hb'] ; rw [cell_of_row _ _ _ _ _ _ hb] at h4; exact h4
theorem Hd.keep {w w' : World} {P : Nat} {T d : Int} {ks : List Nat} {cs : Array Value} (h : Hd w P T d) (hb : w.heap[P]? = some (.cells cs 197 (0, 0))) (hk : Kept ks w w') (hn : P ∉ ks) : Hd w' P T d := by
  have hb' := hk.heap hb hn
  obtain ⟨h0, h1, h2, h3, h4, h5, h6⟩ := h
  rw [cell_of_row _ _ _ _ _ _ hb] at h0 h1 h2 h3 h4 h5 h6
  refine ⟨?_, ?_, ?_, ?_, ?_, ?_, ?_⟩
  all_goals (rw [cell_of_row _ _ _ _ _ _ hb']; assumption)
theorem Md.keep {w w' : World} {P : Nat} {T d : Int} {L : Nat → Sx} {ks : List Nat} (h : Md w P T d L) (hk : Kept ks w w') (hn : P ∉ ks) : Md w' P T d L := by
  obtain ⟨cs, hb, hs⟩ := h.blk
  exact ⟨h.good, h.hd.keep hb hk hn, ⟨cs, hk.heap hb hn, hs⟩, fun k hk' => (h.ctx k hk').keep hk hn, h.fit⟩
theorem Md.drewN {w : World} {P : Nat} {T d : Int} {L : Nat → Sx} (h : Md w P T d L) (n : Nat) : Md (w.drewN n) P T d L := h.keep ((Kept.refl [] w).drewN n) (by simp)

/-- One context has learnt otherwise. -/
def upd (L : Nat → Sx) (k : Nat) (s : Sx) : Nat → Sx := fun j => if j = k then s else L j
theorem Md.chg {w w' : World} {P : Nat} {T d : Int} {L : Nat → Sx} (h : Md w P T d L) {k : Nat} (hk : k < 365) {s : Sx} (hs : s.Fit) (hc : Chg w w' P (7 + k * 4) s) : Md w' P T d (upd L k s) := by
  obtain ⟨cs, hb, hz⟩ := h.blk
  obtain ⟨cs', hb', hz'⟩ := hc.size cs hb
  refine ⟨h.good, ?_, ⟨cs', hb', by omega⟩, ?_, ?_⟩
  · obtain ⟨h0, h1, h2, h3, h4, h5, h6⟩ := h.hd
    exact ⟨by rw [hc.other _ (by omega)]; exact h0, by rw [hc.other _ (by omega)]; exact h1, by rw [hc.other _ (by omega)]; exact h2, by rw [hc.other _ (by omega)]; exact h3, by rw [hc.other _ (by omega)]; exact h4, by rw [hc.other _ (by omega)]; exact h5, by rw [hc.other _ (by omega)]; exact h6⟩
  · intro j hj
    by_cases e : j = k
    · subst e; unfold upd; rw [if_pos rfl]; exact hc.now
    · unfold upd; rw [if_neg e]
      have a := h.ctx j hj
      exact ⟨⟨cs', hb', by omega⟩, by rw [hc.other _ (by omega)]; exact a.ca, by rw [hc.other _ (by omega)]; exact a.cb, by rw [hc.other _ (by omega)]; exact a.cs, by rw [hc.other _ (by omega)]; exact a.cn⟩
  · intro j; unfold upd; split
    · exact hs
    · exact h.fit j

/-- A context's number as a number of Go. -/
theorem ctx_nat {k : Int} (h : 0 ≤ k ∧ k < 365) : ∃ n : Nat, k = (n : Int) ∧ n < 365 := ⟨k.toNat, by omega, by omega⟩

theorem results_tmp4 {fn : Func} {t u v x : Tmp} (h : fn.results = #[.tmp t, .tmp u, .tmp v, .tmp x]) (tmps : Array Value) (P : Program) (w : World) :
    (results fn tmps).run P w = .ok (.tuple #[tmps.getD t undef, tmps.getD u undef, tmps.getD v undef, tmps.getD x undef]) w := by
  simp [results, h]
theorem four_new (w : World) (a b c d : Value) (t : Nat) : ∃ w1, w.alloc (.cells #[a, b, c, d] t (0, 0)) = w1 ∧ Kept [] w w1 ∧ w1.cell? ⟨w.heap.size, 0, none⟩ = some a ∧ w1.cell? ⟨w.heap.size, 1, none⟩ = some b ∧ w1.cell? ⟨w.heap.size, 2, none⟩ = some c ∧ w1.cell? ⟨w.heap.size, 3, none⟩ = some d :=
  ⟨_, rfl, alloc_kept _ _, alloc_cell _ _ _ _ _ rfl, alloc_cell _ _ _ _ _ rfl, alloc_cell _ _ _ _ _ rfl, alloc_cell _ _ _ _ _ rfl⟩

/-- What is told of a number: of a context, or of none. -/
def so (L : Nat → Sx) (k : Int) : Sx := if 0 ≤ k ∧ k < 365 then L k.toNat else ⟨0, 0, 0, 0⟩
theorem so_in (L : Nat → Sx) (n : Nat) (h : n < 365) : so L (n : Int) = L n := by unfold so; rw [if_pos (by omega)]; simp
theorem so_out (L : Nat → Sx) (k : Int) (h : ¬ (0 ≤ k ∧ k < 365)) : so L k = ⟨0, 0, 0, 0⟩ := if_neg h

/-- The parameter of what was learnt. -/
def pmf (A N : Int) : Nat → Nat → Nat
  | 0, k => k
  | f + 1, k => if N * 2 ^ k < A then pmf A N f (k + 1) else k
def pm (s : Sx) : Nat := pmf s.A s.N 15 0

set_option maxHeartbeats 4000000 in
theorem param_yes (P n : Nat) (T d : Int) (L : Nat → Sx) (w : World) (M : Md w P T d L) (hn : n < 365) :
    Calls Tryz.prog 154 #[.pointer (some ⟨P, 0, none⟩), .int .i64 (n : Int)] w fun e w' => e = .returned (.int .i64 (pm (L n) : Int)) ∧ Kept [] w w' := by
  have A := M.ctx n hn
  have F := M.fit n
  have K := Hid.mk (fun w => known_any (n : Int) w)
  have hd : decide (0 ≤ (n : Int) ∧ (n : Int) < 365) = true := by simp; omega
  rw [hd] at K
  clear hd
  obtain ⟨⟨cs, hb, hl⟩, h1, h2, h3, h4⟩ := A
  generalize L n = s at *
  obtain ⟨a0, a1, -, -, -, -, n0, n1⟩ := F
  obtain ⟨A, B, S, N⟩ := s
  dsimp only at *
  have HP : Hid (pm ⟨A, B, S, N⟩ = pmf A N 15 0) := Hid.mk rfl
  generalize pm ⟨A, B, S, N⟩ = R at *
  clear M hb hl
  go_enter Tryz.func154, Tryz.ntmps154
  go_wp2_with (go_at_call 166; refine (K.out _).mono ?_; rintro e w' ⟨rfl, rfl⟩)
  obtain ⟨w2, hw2, k2, z0, z1, z2, z3⟩ := four_new w' (.int .i64 A) (.int .i64 B) (.int .i64 S) (.int .i64 N) 194
  rw [hw2]
  clear hw2
  have KK := Hid.mk k2
  clear h1 h2 h3 h4 k2 K
  generalize w'.heap.size = Q at *
  go_loopw [6] (fun i wr => ∃ k : Nat, k ≤ 15 ∧ i = .int .i64 (k : Int) ∧ R = pmf A N (15 - k) k ∧ Kept [] w' wr ∧ wr.cell? ⟨Q, 0, none⟩ = some (.int .i64 A) ∧ wr.cell? ⟨Q, 3, none⟩ = some (.int .i64 N)) (fun i _ => 15 - (intOf i).toNat)
  case atStart => exact ⟨0, by omega, rfl, HP.out, KK.out, z0, z3⟩
  case round =>
    obtain ⟨k, hk, rfl, hr, hkw, y0, y3⟩ := hrel
    have HR := Hid.mk hr
    have HW := Hid.mk hkw
    clear hr hkw z0 z1 z2 z3
    by_cases hlt : k < 15
    · have ix : (k : Int) < 15 := by omega
      have p0 : (0 : Int) < 2 ^ k := Int.pow_pos (by omega)
      have p1 : (2 : Int) ^ k ≤ 32768 := by
        have := Nat.pow_le_pow_right (n := 2) (by omega) hk
        have e : ((2 ^ k : Nat) : Int) = (2 : Int) ^ k := by simp
        omega
      have q0 : 0 ≤ N * 2 ^ k := Int.mul_nonneg (by omega) (by omega)
      have q1 : N * 2 ^ k ≤ 64 * 32768 := Int.mul_le_mul n1 p1 (by omega) (by omega)
      obtain ⟨X, hX⟩ : ∃ X, N * 2 ^ k = X := ⟨_, rfl⟩
      have hx : wrap64 (N * 2 ^ k) = X := (w64_in (by omega) (by omega)).trans hX
      have HE : Hid (pmf A N (15 - k) k = if X < A then pmf A N (14 - k) (k + 1) else k) := Hid.mk (by
        rw [show 15 - k = (14 - k) + 1 by omega]; show (if N * 2 ^ k < A then _ else _) = _; rw [hX])
      clear p0 p1 q0 q1 hX
      by_cases hc : X < A
      · go_wp2
        go_quiet (fail)
        go_wp2
        go_roundw
        case rel => exact ⟨k + 1, by omega, by go_num, by rw [HR.out, HE.out, if_pos (by omega)]; congr 1; omega, HW.out.drewN _, by rw [cell_drewN]; exact y0, by rw [cell_drewN]; exact y3⟩
        case measure => simp [intOf]; omega
      · go_wp2
        go_quiet (fail)
        go_wp2
        go_ret
        exact ⟨by rw [HR.out, HE.out, if_neg (by omega)]; rfl, HW.out.drewN _⟩
    · obtain rfl : k = 15 := by omega
      go_wp2
      go_quiet (fail)
      go_wp2
      go_ret
      exact ⟨by rw [HR.out]; rfl, HW.out.drewN _⟩

/-- The parameter that is told of a number. -/
def po (L : Nat → Sx) (k : Int) : Nat := if 0 ≤ k ∧ k < 365 then pm (L k.toNat) else 0

set_option maxHeartbeats 4000000 in
theorem param_any (P : Nat) (k T d : Int) (L : Nat → Sx) (w : World) (M : Md w P T d L) :
    Calls Tryz.prog 154 #[.pointer (some ⟨P, 0, none⟩), .int .i64 k] w fun e w' => e = .returned (.int .i64 (po L k : Int)) ∧ Kept [] w w' := by
  unfold po
  by_cases h : 0 ≤ k ∧ k < 365
  · rw [if_pos h]
    obtain ⟨n, rfl, hn⟩ := ctx_nat h
    exact param_yes P n T d L w M hn
  · rw [if_neg h]
    have K := Hid.mk (fun w => known_any k w)
    rw [decide_eq_false h] at K
    clear h M
    go_enter Tryz.func154, Tryz.ntmps154
    go_wp2_with (go_at_call 166; refine (K.out _).mono ?_; rintro e w' ⟨rfl, rfl⟩)
    go_ret
    exact ⟨rfl, Kept.refl _ _⟩

end Go.Proofs.YthhegomjipbdbaaGreatDoor

namespace Go.Proofs.YthhegomjipbdbaaGreatDoor
open Go.RowKit

/-- What is guessed. -/
def gs (T : Int) (L : Nat → Sx) (k s a b c : Int) : Int :=
  if 0 ≤ k ∧ k < 365 then (if s < 0 then ct (med (ct a 0 T) (ct b 0 T) (ct c 0 T) - (L k.toNat).S) 0 T else ct (med (ct a 0 T) (ct b 0 T) (ct c 0 T) + (L k.toNat).S) 0 T) else med (ct a 0 T) (ct b 0 T) (ct c 0 T)

set_option maxHeartbeats 4000000 in
theorem guess_any (P : Nat) (T d k s a b c : Int) (L : Nat → Sx) (w : World) (M : Md w P T d L) :
    Calls Tryz.prog 165 #[.pointer (some ⟨P, 0, none⟩), .int .i64 k, .int .i64 s, .int .i64 a, .int .i64 b, .int .i64 c] w fun e w' => e = .returned (.int .i64 (gs T L k s a b c)) ∧ w' = w := by
  have ⟨t0, t1⟩ := M.good.tb
  have C1 := Hid.mk (fun v => sample_any P T d v w M.hd)
  have x0 := ct_lo (n := a) (l := 0) (h := T) (by omega)
  have x1 := ct_hi (n := a) (l := 0) (h := T)
  have y0 := ct_lo (n := b) (l := 0) (h := T) (by omega)
  have y1 := ct_hi (n := b) (l := 0) (h := T)
  have ⟨m0, m1⟩ := med_in (c := ct c 0 T) x0 x1 y0 y1
  have C2 := Hid.mk (med_any (ct a 0 T) (ct b 0 T) (ct c 0 T) w)
  rw [gmed_in (by omega) (by omega) (by omega) (by omega)] at C2
  have C3 := Hid.mk (known_any k w)
  unfold gs
  by_cases h : 0 ≤ k ∧ k < 365
  · rw [if_pos h]
    obtain ⟨n, rfl, hn⟩ := ctx_nat h
    have e : decide (0 ≤ (n : Int) ∧ (n : Int) < 365) = true := decide_eq_true h
    rw [e] at C3
    rw [Int.toNat_natCast]
    have hc := (M.ctx n hn).cs
    have F := M.fit n
    have s0 := F.s0
    have s1 := F.s1
    clear h e M F
    generalize (L n).S = S at *
    generalize med (ct a 0 T) (ct b 0 T) (ct c 0 T) = m at *
    by_cases hs : s < 0
    · rw [if_pos hs]
      go_enter Tryz.func165, Tryz.ntmps165
      go_wp2_with (first | (go_at_call 171; refine (C1.out _).mono ?_; rintro e w' ⟨rfl, rfl⟩) | (go_at_call 182; refine C2.out.mono ?_; rintro e w' ⟨rfl, rfl⟩) | (go_at_call 166; refine C3.out.mono ?_; rintro e w' ⟨rfl, rfl⟩))
      go_ret
      exact ⟨rfl, rfl⟩
    · rw [if_neg hs]
      go_enter Tryz.func165, Tryz.ntmps165
      go_wp2_with (first | (go_at_call 171; refine (C1.out _).mono ?_; rintro e w' ⟨rfl, rfl⟩) | (go_at_call 182; refine C2.out.mono ?_; rintro e w' ⟨rfl, rfl⟩) | (go_at_call 166; refine C3.out.mono ?_; rintro e w' ⟨rfl, rfl⟩))
      go_ret
      exact ⟨rfl, rfl⟩
  · rw [if_neg h]
    rw [decide_eq_false h] at C3
    clear h M
    generalize med (ct a 0 T) (ct b 0 T) (ct c 0 T) = m at *
    go_enter Tryz.func165, Tryz.ntmps165
    go_wp2_with (first | (go_at_call 171; refine (C1.out _).mono ?_; rintro e w' ⟨rfl, rfl⟩) | (go_at_call 182; refine C2.out.mono ?_; rintro e w' ⟨rfl, rfl⟩) | (go_at_call 166; refine C3.out.mono ?_; rintro e w' ⟨rfl, rfl⟩))
    go_ret
    exact ⟨rfl, rfl⟩
end Go.Proofs.YthhegomjipbdbaaGreatDoor

namespace Go.Proofs.YthhegomjipbdbaaGreatDoor
open Go.RowKit

set_option maxHeartbeats 8000000 in
theorem follow_any (P o : Nat) (s : Sx) (w : World) (H : At4 w P o s) (b0 : -1000000 ≤ s.B) (b1 : s.B ≤ 1000000) (s0 : -128 ≤ s.S) (s1 : s.S ≤ 127) (n0 : 0 ≤ s.N) (n1 : s.N ≤ 64) :
    Calls Tryz.prog 170 #[.pointer (some ⟨P, o, none⟩)] w fun e w' => e = .returned (.tuple #[]) ∧ Chg w w' P o s.follow := by
  obtain ⟨A, B, S, N⟩ := s
  dsimp only at *
  obtain ⟨h0, h1, h2, h3, h4⟩ := H
  dsimp only at *
  have F := Hid.mk h0
  clear h0
  have R0 : Hid (Chg w w P o ⟨A, B, S, N⟩) := Hid.mk (Chg.refl ⟨F.out, h1, h2, h3, h4⟩)
  have pre : Hid (∀ nq : Nat, ∃ w1, w.drewN nq = w1 ∧ w1.cell? ⟨P, o, none⟩ = some (.int .i64 A) ∧ w1.cell? ⟨P, o + 1, none⟩ = some (.int .i64 B) ∧ w1.cell? ⟨P, o + 2, none⟩ = some (.int .i64 S) ∧ w1.cell? ⟨P, o + 3, none⟩ = some (.int .i64 N)) :=
    Hid.mk fun nq => ⟨_, rfl, by rw [cell_drewN]; exact h1, by rw [cell_drewN]; exact h2, by rw [cell_drewN]; exact h3, by rw [cell_drewN]; exact h4⟩
  by_cases h : B ≤ -N
  · have e : (Sx.mk A B S N).follow = ⟨A, max (B + N) (1 - N), max (S - 1) (-128), N⟩ := by simp [Sx.follow, h]
    rw [e]
    clear e
    have hv : (if IntKind.i64.wrap (B + N) < IntKind.i64.wrap (1 - N) then IntKind.i64.wrap (1 - N) else IntKind.i64.wrap (B + N)) = max (B + N) (1 - N) := by
      rw [wrap_i (x := B + N) (by omega) (by omega), wrap_i (x := 1 - N) (by omega) (by omega)]; omega
    rcases (show -128 < S - 1 ∨ S = -127 ∨ S = -128 by omega) with hS | rfl | rfl
    · rw [show max (S - 1) (-128) = S - 1 by omega]
      go_enter Tryz.func170, Tryz.ntmps170
      go_wp2
      go_quiet (fail)
      obtain ⟨w1, hw1, k1, k2, k3, k4⟩ := pre.out nq
      rw [hw1]
      have hw2 := Hid.mk hw1
      clear hw1
      have R1 : Hid (Chg w w1 P o ⟨A, B, S, N⟩) := Hid.mk (hw2.out ▸ R0.out.drewN nq)
      have f1 := R1.out.now.fz (o + 1)
      have f2 := R1.out.now.fz (o + 2)
      go_wp2
      obtain ⟨w3, hw3, R3⟩ : ∃ w3, w1.setCell ⟨P, o + 2, none⟩ (.int .i64 (S - 1)) = w3 ∧ Hid (Chg w w3 P o ⟨A, B, (S - 1), N⟩) := ⟨_, rfl, Hid.mk (R1.out.set 2 (by omega) (S - 1))⟩
      rw [hw3]
      clear hw3
      have j2 := R3.out.now.cb
      have j4 := R3.out.now.cn
      have g1 := R3.out.now.fz (o + 1)
      dsimp only at j2 j4
      go_region_law (fail)
      all_goals (go_wp2; go_end0; refine ⟨rfl, ?_⟩; (try rw [hv]); exact ((R3.out.set 1 (by omega) (max (B + N) (1 - N))).drewN 1))
    · rw [show max (-127 - 1) (-128) = (-128 : Int) by omega]
      go_enter Tryz.func170, Tryz.ntmps170
      go_wp2
      go_quiet (fail)
      obtain ⟨w1, hw1, k1, k2, k3, k4⟩ := pre.out nq
      rw [hw1]
      have hw2 := Hid.mk hw1
      clear hw1
      have R1 : Hid (Chg w w1 P o ⟨A, B, (-127), N⟩) := Hid.mk (hw2.out ▸ R0.out.drewN nq)
      have f1 := R1.out.now.fz (o + 1)
      have f2 := R1.out.now.fz (o + 2)
      go_wp2
      obtain ⟨w3, hw3, R3⟩ : ∃ w3, w1.setCell ⟨P, o + 2, none⟩ (.int .i64 (-128)) = w3 ∧ Hid (Chg w w3 P o ⟨A, B, (-128), N⟩) := ⟨_, rfl, Hid.mk (R1.out.set 2 (by omega) (-128))⟩
      rw [hw3]
      clear hw3
      have j2 := R3.out.now.cb
      have j4 := R3.out.now.cn
      have g1 := R3.out.now.fz (o + 1)
      dsimp only at j2 j4
      go_region_law (fail)
      all_goals (go_wp2; go_end0; refine ⟨rfl, ?_⟩; (try rw [hv]); exact ((R3.out.set 1 (by omega) (max (B + N) (1 - N))).drewN 1))
    · rw [show max (-128 - 1) (-128) = (-128 : Int) by omega]
      go_enter Tryz.func170, Tryz.ntmps170
      go_wp2
      go_quiet (fail)
      obtain ⟨w1, hw1, k1, k2, k3, k4⟩ := pre.out nq
      rw [hw1]
      have hw2 := Hid.mk hw1
      clear hw1
      have R1 : Hid (Chg w w1 P o ⟨A, B, (-128), N⟩) := Hid.mk (hw2.out ▸ R0.out.drewN nq)
      have f1 := R1.out.now.fz (o + 1)
      have f2 := R1.out.now.fz (o + 2)
      go_wp2
      obtain ⟨w3, hw3, R3⟩ : ∃ w3, w1.setCell ⟨P, o + 2, none⟩ (.int .i64 (-128)) = w3 ∧ Hid (Chg w w3 P o ⟨A, B, (-128), N⟩) := ⟨_, rfl, Hid.mk (R1.out.set 2 (by omega) (-128))⟩
      rw [hw3]
      clear hw3
      have j2 := R3.out.now.cb
      have j4 := R3.out.now.cn
      have g1 := R3.out.now.fz (o + 1)
      dsimp only at j2 j4
      go_region_law (fail)
      all_goals (go_wp2; go_end0; refine ⟨rfl, ?_⟩; (try rw [hv]); exact ((R3.out.set 1 (by omega) (max (B + N) (1 - N))).drewN 1))
  · by_cases hb : 0 < B
    · have e : (Sx.mk A B S N).follow = ⟨A, min (B - N) 0, min (S + 1) 127, N⟩ := by simp [Sx.follow, h, hb]
      rw [e]
      clear e
      rcases (show B - N < 0 ∨ 0 < B - N ∨ B - N = 0 by omega) with hb2 | hb2 | hb2
      · rw [show min (B - N) 0 = B - N by omega]
        have hv : IntKind.i64.wrap (B - N) = B - N := wrap_i (by omega) (by omega)
        rcases (show S + 1 < 127 ∨ S = 126 ∨ S = 127 by omega) with hS | rfl | rfl
        · rw [show min (S + 1) 127 = S + 1 by omega]
          go_enter Tryz.func170, Tryz.ntmps170
          go_wp2
          go_quiet (fail)
          obtain ⟨w1, hw1, k1, k2, k3, k4⟩ := pre.out nq
          rw [hw1]
          have hw2 := Hid.mk hw1
          clear hw1
          have R1 : Hid (Chg w w1 P o ⟨A, B, S, N⟩) := Hid.mk (hw2.out ▸ R0.out.drewN nq)
          have f1 := R1.out.now.fz (o + 1)
          have f2 := R1.out.now.fz (o + 2)
          go_wp2
          obtain ⟨w3, hw3, R3⟩ : ∃ w3, w1.setCell ⟨P, o + 2, none⟩ (.int .i64 (S + 1)) = w3 ∧ Hid (Chg w w3 P o ⟨A, B, (S + 1), N⟩) := ⟨_, rfl, Hid.mk (R1.out.set 2 (by omega) (S + 1))⟩
          rw [hw3]
          clear hw3
          have j2 := R3.out.now.cb
          have j4 := R3.out.now.cn
          have g1 := R3.out.now.fz (o + 1)
          dsimp only at j2 j4
          go_region_law (fail)
          all_goals (go_wp2; go_end0; refine ⟨rfl, ?_⟩; (try rw [hv]); exact ((R3.out.set 1 (by omega) (B - N)).drewN 1))
        · rw [show min (126 + 1) 127 = (127 : Int) by omega]
          go_enter Tryz.func170, Tryz.ntmps170
          go_wp2
          go_quiet (fail)
          obtain ⟨w1, hw1, k1, k2, k3, k4⟩ := pre.out nq
          rw [hw1]
          have hw2 := Hid.mk hw1
          clear hw1
          have R1 : Hid (Chg w w1 P o ⟨A, B, 126, N⟩) := Hid.mk (hw2.out ▸ R0.out.drewN nq)
          have f1 := R1.out.now.fz (o + 1)
          have f2 := R1.out.now.fz (o + 2)
          go_wp2
          obtain ⟨w3, hw3, R3⟩ : ∃ w3, w1.setCell ⟨P, o + 2, none⟩ (.int .i64 127) = w3 ∧ Hid (Chg w w3 P o ⟨A, B, 127, N⟩) := ⟨_, rfl, Hid.mk (R1.out.set 2 (by omega) 127)⟩
          rw [hw3]
          clear hw3
          have j2 := R3.out.now.cb
          have j4 := R3.out.now.cn
          have g1 := R3.out.now.fz (o + 1)
          dsimp only at j2 j4
          go_region_law (fail)
          all_goals (go_wp2; go_end0; refine ⟨rfl, ?_⟩; (try rw [hv]); exact ((R3.out.set 1 (by omega) (B - N)).drewN 1))
        · rw [show min (127 + 1) 127 = (127 : Int) by omega]
          go_enter Tryz.func170, Tryz.ntmps170
          go_wp2
          go_quiet (fail)
          obtain ⟨w1, hw1, k1, k2, k3, k4⟩ := pre.out nq
          rw [hw1]
          have hw2 := Hid.mk hw1
          clear hw1
          have R1 : Hid (Chg w w1 P o ⟨A, B, 127, N⟩) := Hid.mk (hw2.out ▸ R0.out.drewN nq)
          have f1 := R1.out.now.fz (o + 1)
          have f2 := R1.out.now.fz (o + 2)
          go_wp2
          obtain ⟨w3, hw3, R3⟩ : ∃ w3, w1.setCell ⟨P, o + 2, none⟩ (.int .i64 127) = w3 ∧ Hid (Chg w w3 P o ⟨A, B, 127, N⟩) := ⟨_, rfl, Hid.mk (R1.out.set 2 (by omega) 127)⟩
          rw [hw3]
          clear hw3
          have j2 := R3.out.now.cb
          have j4 := R3.out.now.cn
          have g1 := R3.out.now.fz (o + 1)
          dsimp only at j2 j4
          go_region_law (fail)
          all_goals (go_wp2; go_end0; refine ⟨rfl, ?_⟩; (try rw [hv]); exact ((R3.out.set 1 (by omega) (B - N)).drewN 1))
      · replace hb2 : 0 < B - N := hb2
        rw [show min (B - N) 0 = 0 by omega]
        have hv : IntKind.i64.wrap (B - N) = B - N := wrap_i (by omega) (by omega)
        rcases (show S + 1 < 127 ∨ S = 126 ∨ S = 127 by omega) with hS | rfl | rfl
        · rw [show min (S + 1) 127 = S + 1 by omega]
          go_enter Tryz.func170, Tryz.ntmps170
          go_wp2
          go_quiet (fail)
          obtain ⟨w1, hw1, k1, k2, k3, k4⟩ := pre.out nq
          rw [hw1]
          have hw2 := Hid.mk hw1
          clear hw1
          have R1 : Hid (Chg w w1 P o ⟨A, B, S, N⟩) := Hid.mk (hw2.out ▸ R0.out.drewN nq)
          have f1 := R1.out.now.fz (o + 1)
          have f2 := R1.out.now.fz (o + 2)
          go_wp2
          obtain ⟨w3, hw3, R3⟩ : ∃ w3, w1.setCell ⟨P, o + 2, none⟩ (.int .i64 (S + 1)) = w3 ∧ Hid (Chg w w3 P o ⟨A, B, (S + 1), N⟩) := ⟨_, rfl, Hid.mk (R1.out.set 2 (by omega) (S + 1))⟩
          rw [hw3]
          clear hw3
          have j2 := R3.out.now.cb
          have j4 := R3.out.now.cn
          have g1 := R3.out.now.fz (o + 1)
          dsimp only at j2 j4
          go_region_law (fail)
          all_goals (go_wp2; go_end0; refine ⟨rfl, ?_⟩; (try rw [hv]); exact ((R3.out.set 1 (by omega) 0).drewN 1))
        · rw [show min (126 + 1) 127 = (127 : Int) by omega]
          go_enter Tryz.func170, Tryz.ntmps170
          go_wp2
          go_quiet (fail)
          obtain ⟨w1, hw1, k1, k2, k3, k4⟩ := pre.out nq
          rw [hw1]
          have hw2 := Hid.mk hw1
          clear hw1
          have R1 : Hid (Chg w w1 P o ⟨A, B, 126, N⟩) := Hid.mk (hw2.out ▸ R0.out.drewN nq)
          have f1 := R1.out.now.fz (o + 1)
          have f2 := R1.out.now.fz (o + 2)
          go_wp2
          obtain ⟨w3, hw3, R3⟩ : ∃ w3, w1.setCell ⟨P, o + 2, none⟩ (.int .i64 127) = w3 ∧ Hid (Chg w w3 P o ⟨A, B, 127, N⟩) := ⟨_, rfl, Hid.mk (R1.out.set 2 (by omega) 127)⟩
          rw [hw3]
          clear hw3
          have j2 := R3.out.now.cb
          have j4 := R3.out.now.cn
          have g1 := R3.out.now.fz (o + 1)
          dsimp only at j2 j4
          go_region_law (fail)
          all_goals (go_wp2; go_end0; refine ⟨rfl, ?_⟩; (try rw [hv]); exact ((R3.out.set 1 (by omega) 0).drewN 1))
        · rw [show min (127 + 1) 127 = (127 : Int) by omega]
          go_enter Tryz.func170, Tryz.ntmps170
          go_wp2
          go_quiet (fail)
          obtain ⟨w1, hw1, k1, k2, k3, k4⟩ := pre.out nq
          rw [hw1]
          have hw2 := Hid.mk hw1
          clear hw1
          have R1 : Hid (Chg w w1 P o ⟨A, B, 127, N⟩) := Hid.mk (hw2.out ▸ R0.out.drewN nq)
          have f1 := R1.out.now.fz (o + 1)
          have f2 := R1.out.now.fz (o + 2)
          go_wp2
          obtain ⟨w3, hw3, R3⟩ : ∃ w3, w1.setCell ⟨P, o + 2, none⟩ (.int .i64 127) = w3 ∧ Hid (Chg w w3 P o ⟨A, B, 127, N⟩) := ⟨_, rfl, Hid.mk (R1.out.set 2 (by omega) 127)⟩
          rw [hw3]
          clear hw3
          have j2 := R3.out.now.cb
          have j4 := R3.out.now.cn
          have g1 := R3.out.now.fz (o + 1)
          dsimp only at j2 j4
          go_region_law (fail)
          all_goals (go_wp2; go_end0; refine ⟨rfl, ?_⟩; (try rw [hv]); exact ((R3.out.set 1 (by omega) 0).drewN 1))
      · obtain rfl : N = B := by omega
        rw [show min (N - N) 0 = 0 by omega]
        have hv : IntKind.i64.wrap (N - N) = 0 := by rw [Int.sub_self]; exact wrap_i (by omega) (by omega)
        rcases (show S + 1 < 127 ∨ S = 126 ∨ S = 127 by omega) with hS | rfl | rfl
        · rw [show min (S + 1) 127 = S + 1 by omega]
          go_enter Tryz.func170, Tryz.ntmps170
          go_wp2
          go_quiet (fail)
          obtain ⟨w1, hw1, k1, k2, k3, k4⟩ := pre.out nq
          rw [hw1]
          have hw2 := Hid.mk hw1
          clear hw1
          have R1 : Hid (Chg w w1 P o ⟨A, N, S, N⟩) := Hid.mk (hw2.out ▸ R0.out.drewN nq)
          have f1 := R1.out.now.fz (o + 1)
          have f2 := R1.out.now.fz (o + 2)
          go_wp2
          obtain ⟨w3, hw3, R3⟩ : ∃ w3, w1.setCell ⟨P, o + 2, none⟩ (.int .i64 (S + 1)) = w3 ∧ Hid (Chg w w3 P o ⟨A, N, (S + 1), N⟩) := ⟨_, rfl, Hid.mk (R1.out.set 2 (by omega) (S + 1))⟩
          rw [hw3]
          clear hw3
          have j2 := R3.out.now.cb
          have j4 := R3.out.now.cn
          have g1 := R3.out.now.fz (o + 1)
          dsimp only at j2 j4
          go_region_law (fail)
          all_goals (go_wp2; go_end0; refine ⟨rfl, ?_⟩; (try rw [hv]); exact ((R3.out.set 1 (by omega) 0).drewN 1))
        · rw [show min (126 + 1) 127 = (127 : Int) by omega]
          go_enter Tryz.func170, Tryz.ntmps170
          go_wp2
          go_quiet (fail)
          obtain ⟨w1, hw1, k1, k2, k3, k4⟩ := pre.out nq
          rw [hw1]
          have hw2 := Hid.mk hw1
          clear hw1
          have R1 : Hid (Chg w w1 P o ⟨A, N, 126, N⟩) := Hid.mk (hw2.out ▸ R0.out.drewN nq)
          have f1 := R1.out.now.fz (o + 1)
          have f2 := R1.out.now.fz (o + 2)
          go_wp2
          obtain ⟨w3, hw3, R3⟩ : ∃ w3, w1.setCell ⟨P, o + 2, none⟩ (.int .i64 127) = w3 ∧ Hid (Chg w w3 P o ⟨A, N, 127, N⟩) := ⟨_, rfl, Hid.mk (R1.out.set 2 (by omega) 127)⟩
          rw [hw3]
          clear hw3
          have j2 := R3.out.now.cb
          have j4 := R3.out.now.cn
          have g1 := R3.out.now.fz (o + 1)
          dsimp only at j2 j4
          go_region_law (fail)
          all_goals (go_wp2; go_end0; refine ⟨rfl, ?_⟩; (try rw [hv]); exact ((R3.out.set 1 (by omega) 0).drewN 1))
        · rw [show min (127 + 1) 127 = (127 : Int) by omega]
          go_enter Tryz.func170, Tryz.ntmps170
          go_wp2
          go_quiet (fail)
          obtain ⟨w1, hw1, k1, k2, k3, k4⟩ := pre.out nq
          rw [hw1]
          have hw2 := Hid.mk hw1
          clear hw1
          have R1 : Hid (Chg w w1 P o ⟨A, N, 127, N⟩) := Hid.mk (hw2.out ▸ R0.out.drewN nq)
          have f1 := R1.out.now.fz (o + 1)
          have f2 := R1.out.now.fz (o + 2)
          go_wp2
          obtain ⟨w3, hw3, R3⟩ : ∃ w3, w1.setCell ⟨P, o + 2, none⟩ (.int .i64 127) = w3 ∧ Hid (Chg w w3 P o ⟨A, N, 127, N⟩) := ⟨_, rfl, Hid.mk (R1.out.set 2 (by omega) 127)⟩
          rw [hw3]
          clear hw3
          have j2 := R3.out.now.cb
          have j4 := R3.out.now.cn
          have g1 := R3.out.now.fz (o + 1)
          dsimp only at j2 j4
          go_region_law (fail)
          all_goals (go_wp2; go_end0; refine ⟨rfl, ?_⟩; (try rw [hv]); exact ((R3.out.set 1 (by omega) 0).drewN 1))
    · have e : (Sx.mk A B S N).follow = ⟨A, B, S, N⟩ := by simp [Sx.follow, h, hb]
      rw [e]
      clear e
      go_enter Tryz.func170, Tryz.ntmps170
      go_wp2
      go_quiet (fail)
      obtain ⟨w1, hw1, k1, k2, k3, k4⟩ := pre.out nq
      rw [hw1]
      have hw2 := Hid.mk hw1
      clear hw1
      go_wp2
      go_end0
      exact ⟨rfl, hw2.out ▸ R0.out.drewN nq⟩

end Go.Proofs.YthhegomjipbdbaaGreatDoor

namespace Go.Proofs.YthhegomjipbdbaaGreatDoor
open Go.RowKit

set_option maxHeartbeats 8000000 in
set_option maxRecDepth 1000000 in
theorem learn_yes (P n : Nat) (T d q : Int) (L : Nat → Sx) (w : World) (M : Md w P T d L) (hn : n < 365) :
    Calls Tryz.prog 147 #[.pointer (some ⟨P, 0, none⟩), .int .i64 (n : Int), .int .i64 q] w fun e w' => e = .returned (.tuple #[]) ∧ Chg w w' P (7 + n * 4) ((L n).learn T d q) := by
  have K := Hid.mk (fun w => known_any (n : Int) w)
  have hd : decide (0 ≤ (n : Int) ∧ (n : Int) < 365) = true := by simp; omega
  rw [hd] at K
  clear hd
  have A4 := M.ctx n hn
  have F := M.fit n
  have C1 := Hid.mk (quotient_any P T d q w M.hd M.good)
  have h2 := M.hd.c2
  have ⟨a0, a1⟩ := add_a T d q M.good (L n)
  have ⟨x0, x1⟩ := qs_in T d q M.good
  obtain ⟨f1, f2, f3, f4, f5, -, -⟩ := age_fit T d q M.good (L n) F
  have HL : Hid ((L n).learn T d q = ((((L n).add T d q).age)).follow) := Hid.mk rfl
  have ea : (L n).add T d q = ⟨(L n).A + mg (ct q (-rg T d) (rg T d)), (L n).B + ct q (-rg T d) (rg T d) * (2 * d + 1), (L n).S, (L n).N⟩ := rfl
  have ⟨g0, g1⟩ := rg_pos T d M.good
  have y0 := ct_lo (n := q) (l := -rg T d) (h := rg T d) (by omega)
  have y1 := ct_hi (n := q) (l := -rg T d) (h := rg T d)
  have R0 := Hid.mk (Chg.refl A4)
  rw [ea] at HL a0 a1 f1 f2 f3 f4 f5
  clear ea
  obtain ⟨u0, u1, v0, v1, s0, s1, n0, n1⟩ := F
  generalize (L n).learn T d q = res at *
  generalize L n = s at *
  obtain ⟨A, B, S, N⟩ := s
  dsimp only at *
  have CM := Hid.mk (fun w => mag_any (ct q (-rg T d) (rg T d)) w (by omega) (by omega))
  generalize mg (ct q (-rg T d) (rg T d)) = m at *
  generalize ct q (-rg T d) (rg T d) = c at *
  have qx : IntKind.i64.wrap (c * (2 * d + 1)) = c * (2 * d + 1) := wrap_i (by omega) (by omega)
  obtain ⟨X, hX⟩ : ∃ X, c * (2 * d + 1) = X := ⟨_, rfl⟩
  rw [hX] at x0 x1 f1 f2 f3 f4 f5 HL
  replace qx := qx.trans hX
  clear hX M
  have Hf3 := Hid.mk f3
  have HB : Hid (-1000000 ≤ (Sx.age ⟨A + m, B + X, S, N⟩).B ∧ (Sx.age ⟨A + m, B + X, S, N⟩).B ≤ 1000000) := Hid.mk (by unfold Sx.age; split <;> dsimp only <;> omega)
  clear f3 f1 f2
  have qa : IntKind.i64.wrap (A + m) = A + m := wrap_i (by omega) (by omega)
  have qb : IntKind.i64.wrap (B + X) = B + X := wrap_i (by omega) (by omega)
  go_enter Tryz.func147, Tryz.ntmps147
  go_wp2_with (go_at_call 166; refine (K.out _).mono ?_; rintro e w' ⟨rfl, rfl⟩)
  refine C1.out.mono ?_
  rintro e w1 ⟨rfl, m1, rfl⟩
  obtain ⟨w1, hw1, R1, k2⟩ : ∃ w1, w'.drewN m1 = w1 ∧ Hid (Chg w' w1 P (7 + n * 4) ⟨A, B, S, N⟩) ∧ w1.cell? ⟨P, 2, none⟩ = some (.int .i64 (2 * d + 1)) := ⟨_, rfl, Hid.mk (R0.out.drewN m1), by rw [cell_drewN]; exact h2⟩
  rw [hw1]
  clear hw1
  have k0 := R1.out.now.ca
  have z0 := R1.out.now.fz (7 + n * 4)
  dsimp only at k0
  go_wp2
  go_region_with (go_at_call 168; refine (CM.out _).mono ?_; rintro e w2 ⟨rfl, rfl⟩)
  all_goals
    obtain ⟨w2, hw2, R2⟩ : ∃ w2, (w1.setCell ⟨P, 7 + n * 4, none⟩ (.int .i64 (A + m))).drew = w2 ∧ Hid (Chg w' w2 P (7 + n * 4) ⟨A + m, B, S, N⟩) := ⟨_, rfl, Hid.mk ((R1.out.set 0 (by omega) (A + m)).drewN 1)⟩
    rw [hw2]
    clear hw2
    have j1 := R2.out.now.cb
    have z1 := R2.out.now.fz (7 + n * 4 + 1)
    have j2 : w2.cell? ⟨P, 2, none⟩ = some (.int .i64 (2 * d + 1)) := (R2.out.other 2 (by omega)).trans h2
    dsimp only at j1
    go_wp2
    go_region_law (fail)
    all_goals
      obtain ⟨w3, hw3, R3⟩ : ∃ w3, (w2.setCell ⟨P, 7 + n * 4 + 1, none⟩ (.int .i64 (B + X))).drew = w3 ∧ Hid (Chg w' w3 P (7 + n * 4) ⟨A + m, B + X, S, N⟩) := ⟨_, rfl, Hid.mk ((R2.out.set 1 (by omega) (B + X)).drewN 1)⟩
      rw [hw3]
      clear hw3
      go_wp2_with (fail)
      refine (age_any P (7 + n * 4) ⟨A + m, B + X, S, N⟩ w3 R3.out.now (by dsimp only; omega) (by dsimp only; omega) (by dsimp only; omega) (by dsimp only; omega) (by dsimp only; omega) (by dsimp only; omega)).mono ?_
      rintro e w4 ⟨rfl, c4⟩
      have R4 := Hid.mk (R3.out.trans c4)
      clear c4
      go_wp2_with (fail)
      refine (follow_any P (7 + n * 4) _ w4 R4.out.now HB.out.1 HB.out.2 (by rw [Hf3.out]; omega) (by rw [Hf3.out]; omega) (by omega) (by omega)).mono ?_
      rintro e w5 ⟨rfl, c5⟩
      go_wp2
      go_end0
      exact ⟨rfl, by rw [HL.out]; exact R4.out.trans c5⟩

/-- What all contexts have learnt behind a Learn. -/
def lL (T d : Int) (L : Nat → Sx) (k q : Int) : Nat → Sx := if 0 ≤ k ∧ k < 365 then upd L k.toNat ((L k.toNat).learn T d q) else L

set_option maxHeartbeats 4000000 in
theorem learn_any (P : Nat) (T d k q : Int) (L : Nat → Sx) (w : World) (M : Md w P T d L) :
    Calls Tryz.prog 147 #[.pointer (some ⟨P, 0, none⟩), .int .i64 k, .int .i64 q] w fun e w' => e = .returned (.tuple #[]) ∧ Md w' P T d (lL T d L k q) ∧ Kept [P] w w' := by
  unfold lL
  by_cases h : 0 ≤ k ∧ k < 365
  · rw [if_pos h]
    obtain ⟨n, rfl, hn⟩ := ctx_nat h
    rw [Int.toNat_natCast]
    refine (learn_yes P n T d q L w M hn).mono ?_
    rintro e w' ⟨rfl, hc⟩
    exact ⟨rfl, M.chg hn (learn_fit T d q M.good _ (M.fit n)).1 hc, hc.kept⟩
  · rw [if_neg h]
    have K := Hid.mk (fun w => known_any k w)
    rw [decide_eq_false h] at K
    have HM := Hid.mk M
    clear h M
    go_enter Tryz.func147, Tryz.ntmps147
    go_wp2_with (go_at_call 166; refine (K.out _).mono ?_; rintro e w' ⟨rfl, rfl⟩)
    (try simp only [Exit.inBlock, Exit.then]); refine bodyPost_ret (results_none rfl _ _ _) rfl ?_
    exact ⟨rfl, HM.out, Kept.refl _ _⟩
end Go.Proofs.YthhegomjipbdbaaGreatDoor
