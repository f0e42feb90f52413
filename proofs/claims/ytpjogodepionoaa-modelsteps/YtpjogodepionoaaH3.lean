import Derived.Test.YtpjogodepionoaaH1
import Derived.Test.YtpjogodepionoaaB1
import Derived.Test.YtpjogodepionoaaOa
namespace Go.Proofs.Ytpjogodepionoaa
open Go.RowKit

/-- Four cells of the document's list. -/
structure Ad (w : World) (g o : Nat) (s : Sx) : Prop where
  ca : w.cell? ⟨g, o, none⟩ = some (.int .i64 s.A)
  cb : w.cell? ⟨g, o + 1, none⟩ = some (.int .i64 s.B)
  cs : w.cell? ⟨g, o + 2, none⟩ = some (.int .i64 s.S)
  cn : w.cell? ⟨g, o + 3, none⟩ = some (.int .i64 s.N)
theorem Ad.keep {w w' : World} {g o : Nat} {s : Sx} {l : List Nat} (h : Ad w g o s) (hk : Kept l w w') (hn : g ∉ l) : Ad w' g o s :=
  ⟨cell_keep hk h.ca hn, cell_keep hk h.cb hn, cell_keep hk h.cs hn, cell_keep hk h.cn hn⟩
/-- The document's model in memory. -/
structure Rd (w : World) (R g cap : Nat) (T d : Int) (L : Nat → Sx) : Prop where
  good : Gd T d
  hd : Rh w R T d
  sl : w.cell? ⟨R, 2, none⟩ = some (.slice (some ⟨g, 0, none⟩) 365 cap)
  blk : ∃ cs, w.heap[g]? = some (.cells cs 77 (0, 0)) ∧ 1460 ≤ cs.size
  ctx : ∀ k, k < 365 → Ad w g (k * 4) (L k)
  fit : ∀ k, (L k).Fit
  ne : R ≠ g
theorem Rh.keep {w w' : World} {R : Nat} {T d : Int} {l : List Nat} (h : Rh w R T d) (hk : Kept l w w') (hn : R ∉ l) : Rh w' R T d := by
  obtain ⟨h0, h1⟩ := h
  refine ⟨?_, cell_keep hk h1 hn⟩
  rcases h0 with ⟨h0, e⟩ | ⟨h0, e⟩
  · exact .inl ⟨cell_keep hk h0 hn, e⟩
  · exact .inr ⟨cell_keep hk h0 hn, e⟩
theorem Rd.keep {w w' : World} {R g cap : Nat} {T d : Int} {L : Nat → Sx} {l : List Nat} (h : Rd w R g cap T d L) (hk : Kept l w w') (hn : R ∉ l) (hm : g ∉ l) : Rd w' R g cap T d L := by
  obtain ⟨cs, hb, hs⟩ := h.blk
  exact ⟨h.good, h.hd.keep hk hn, cell_keep hk h.sl hn, ⟨cs, hk.heap hb hm, hs⟩, fun k hk' => (h.ctx k hk').keep hk hm, h.fit, h.ne⟩
theorem Rd.drewN {w : World} {R g cap : Nat} {T d : Int} {L : Nat → Sx} (h : Rd w R g cap T d L) (n : Nat) : Rd (w.drewN n) R g cap T d L := h.keep ((Kept.refl [] w).drewN n) (by simp) (by simp)

set_option maxHeartbeats 4000000 in
theorem statsD_yes (R g cap n : Nat) (T d : Int) (L : Nat → Sx) (w : World) (M : Rd w R g cap T d L) (hn : n < 365) :
    Calls Try.prog 56 #[.pointer (some ⟨R, 0, none⟩), .int .i64 (n : Int)] w fun e w' => e = .returned (.tuple #[.int .i64 (L n).A, .int .i64 (L n).B, .int .i64 (L n).S, .int .i64 (L n).N]) ∧ Kept [] w w' := by
  have K := Hid.mk (fun w => knownD_any (n : Int) w)
  have hd : decide (0 ≤ (n : Int) ∧ (n : Int) < 365) = true := by simp; omega
  rw [hd] at K
  clear hd
  obtain ⟨h1, h2, h3, h4⟩ := M.ctx n hn
  have h5 := M.sl
  generalize L n = s at *
  obtain ⟨A, B, S, N⟩ := s
  dsimp only at *
  clear M
  have ix : (n : Int) < 365 := by omega
  go_enter Try.func56, Try.ntmps56
  go_wp2_with (go_at_call 54; refine (K.out _).mono ?_; rintro e w' ⟨rfl, rfl⟩)
  obtain ⟨w2, hw2, k2, z0, z1, z2, z3⟩ := four_new w' (.int .i64 A) (.int .i64 B) (.int .i64 S) (.int .i64 N) 77
  rw [hw2]
  clear hw2
  go_quiet (fail)
  go_wp2
  (try simp only [Exit.inBlock, Exit.then]); refine bodyPost_ret (results_tmp4 rfl _ _ _) rfl ?_
  exact ⟨rfl, k2.drewN _⟩

set_option maxHeartbeats 4000000 in
theorem statsD_any (R g cap : Nat) (k T d : Int) (L : Nat → Sx) (w : World) (M : Rd w R g cap T d L) :
    Calls Try.prog 56 #[.pointer (some ⟨R, 0, none⟩), .int .i64 k] w fun e w' => e = .returned (.tuple #[.int .i64 (so L k).A, .int .i64 (so L k).B, .int .i64 (so L k).S, .int .i64 (so L k).N]) ∧ Kept [] w w' := by
  by_cases h : 0 ≤ k ∧ k < 365
  · obtain ⟨n, rfl, hn⟩ := ctx_nat h
    rw [so_in L n hn]
    exact statsD_yes R g cap n T d L w M hn
  · rw [so_out L k h]
    have K := Hid.mk (fun w => knownD_any k w)
    rw [decide_eq_false h] at K
    clear h M
    go_enter Try.func56, Try.ntmps56
    go_wp2_with (go_at_call 54; refine (K.out _).mono ?_; rintro e w' ⟨rfl, rfl⟩)
    (try simp only [Exit.inBlock, Exit.then]); refine bodyPost_ret (results_tmp4 rfl _ _ _) rfl ?_
    exact ⟨rfl, Kept.refl _ _⟩

set_option maxHeartbeats 4000000 in
set_option maxRecDepth 1000000 in
theorem paramD_any (R g cap : Nat) (k T d : Int) (L : Nat → Sx) (w : World) (M : Rd w R g cap T d L) :
    Calls Try.prog 31 #[.pointer (some ⟨R, 0, none⟩), .int .i64 k] w fun e w' => e = .returned (.int .i64 (po L k : Int)) ∧ ∃ m, w' = w.drewN m := by
  unfold po
  by_cases h : 0 ≤ k ∧ k < 365
  · rw [if_pos h]
    obtain ⟨n, rfl, hn⟩ := ctx_nat h
    rw [Int.toNat_natCast]
    have F := M.fit n
    have K := Hid.mk (fun w => knownD_any (n : Int) w)
    rw [decide_eq_true h] at K
    clear h
    obtain ⟨h1, h2, h3, h4⟩ := M.ctx n hn
    have h5 := M.sl
    generalize L n = s at *
    obtain ⟨a0, a1, -, -, -, -, n0, n1⟩ := F
    obtain ⟨A, B, S, N⟩ := s
    dsimp only at *
    have HP : Hid (pm ⟨A, B, S, N⟩ = pmf A N 15 0) := Hid.mk rfl
    generalize pm ⟨A, B, S, N⟩ = W at *
    have ix : (n : Int) < 365 := by omega
    have HC1 := Hid.mk h1
    have HC4 := Hid.mk h4
    have HC5 := Hid.mk h5
    clear M h2 h3
    go_enter Try.func31, Try.ntmps31
    go_wp2_with (go_at_call 54; refine (K.out _).mono ?_; rintro e w' ⟨rfl, rfl⟩)
    go_loopw [6] (fun i wr => ∃ (k m : Nat), k ≤ 15 ∧ i = .int .i64 (k : Int) ∧ W = pmf A N (15 - k) k ∧ wr = w'.drewN m) (fun i _ => 15 - (intOf i).toNat)
    case atStart => exact ⟨0, 0, by omega, rfl, HP.out, rfl⟩
    case round =>
      obtain ⟨k, m, hk, rfl, hr, hw⟩ := hrel
      have HR := Hid.mk hr
      have HW := Hid.mk hw
      have y1 : wr.cell? ⟨g, n * 4, none⟩ = some (.int .i64 A) := by rw [hw, cell_drewN]; exact HC1.out
      have y4 : wr.cell? ⟨g, n * 4 + 3, none⟩ = some (.int .i64 N) := by rw [hw, cell_drewN]; exact HC4.out
      have y5 : wr.cell? ⟨R, 2, none⟩ = some (.slice (some ⟨g, 0, none⟩) 365 cap) := by rw [hw, cell_drewN]; exact HC5.out
      clear hr hw h1 h4 h5
      by_cases hlt : k < 15
      · have ix : (k : Int) < 15 := by omega
        have p0 : (0 : Int) < 2 ^ k := Int.pow_pos (by omega)
        have p1 : (2 : Int) ^ k ≤ 32768 := by
          have := Nat.pow_le_pow_right (n := 2) (by omega) hk
          have e : ((2 ^ k : Nat) : Int) = (2 : Int) ^ k := by simp
          omega
        have q0 : 0 ≤ N * 2 ^ k := Int.mul_nonneg (by omega) (by omega)
        have q1 : N * 2 ^ k ≤ 64 * 32768 := Int.mul_le_mul n1 p1 (by omega) (by omega)
        obtain ⟨X, hX⟩ : ∃ X, N * 2 ^ k = X := ⟨_, rfl⟩
        have hx : wrap64 (N * 2 ^ k) = X := (w64_in (by omega) (by omega)).trans hX
        have HE : Hid (pmf A N (15 - k) k = if X < A then pmf A N (14 - k) (k + 1) else k) := Hid.mk (by
          rw [show 15 - k = (14 - k) + 1 by omega]; show (if N * 2 ^ k < A then _ else _) = _; rw [hX])
        clear p0 p1 q0 q1 hX
        by_cases hc : X < A
        · go_wp2
          go_quiet (fail)
          go_wp2
          go_roundw
          case rel => exact ⟨k + 1, m + nq, by omega, by go_num, by rw [HR.out, HE.out, if_pos (by omega)]; congr 1; omega, by rw [HW.out, World.drewN_drewN]⟩
          case measure => simp [intOf]; omega
        · go_wp2
          go_quiet (fail)
          go_wp2
          go_ret
          exact ⟨by rw [HR.out, HE.out, if_neg (by omega)]; rfl, _, by rw [HW.out, World.drewN_drewN]⟩
      · obtain rfl : k = 15 := by omega
        go_wp2
        go_quiet (fail)
        go_wp2
        go_ret
        exact ⟨by rw [HR.out]; rfl, _, by rw [HW.out, World.drewN_drewN]⟩
  · rw [if_neg h]
    have K := Hid.mk (fun w => knownD_any k w)
    rw [decide_eq_false h] at K
    clear h M
    go_enter Try.func31, Try.ntmps31
    go_wp2_with (go_at_call 54; refine (K.out _).mono ?_; rintro e w' ⟨rfl, rfl⟩)
    go_ret
    exact ⟨rfl, 0, rfl⟩
end Go.Proofs.Ytpjogodepionoaa
