import Derived.Test.YtpjogodepionoaaH3
import Derived.Test.YtpjogodepionoaaE1
import Derived.Test.YtpjogodepionoaaB2
namespace Go.Proofs.Ytpjogodepionoaa
open Go.RowKit

set_option maxHeartbeats 4000000 in
set_option maxRecDepth 1000000 in
theorem guessD_any (R g cap : Nat) (T d k s a b c : Int) (L : Nat → Sx) (w : World) (M : Rd w R g cap T d L) :
    Calls Try.prog 30 #[.pointer (some ⟨R, 0, none⟩), .int .i64 k, .int .i64 s, .int .i64 a, .int .i64 b, .int .i64 c] w fun e w' => e = .returned (.int .i64 (gs T L k s a b c)) ∧ w' = w := by
  have ⟨t0, t1⟩ := M.good.tb
  have CT := Hid.mk (topD_any R T d w M.hd)
  have CV := Hid.mk (fun v => cutD_any v 0 T w (by omega))
  have x0 := ct_lo (n := a) (l := 0) (h := T) (by omega)
  have x1 := ct_hi (n := a) (l := 0) (h := T)
  have y0 := ct_lo (n := b) (l := 0) (h := T) (by omega)
  have y1 := ct_hi (n := b) (l := 0) (h := T)
  have ⟨m0, m1⟩ := med_in (c := ct c 0 T) x0 x1 y0 y1
  have C2 := Hid.mk (medD_any (ct a 0 T) (ct b 0 T) (ct c 0 T) w)
  rw [gmed_in (by omega) (by omega) (by omega) (by omega)] at C2
  have C3 := Hid.mk (knownD_any k w)
  unfold gs
  by_cases h : 0 ≤ k ∧ k < 365
  · rw [if_pos h]
    obtain ⟨n, rfl, hn⟩ := ctx_nat h
    have e : decide (0 ≤ (n : Int) ∧ (n : Int) < 365) = true := decide_eq_true h
    rw [e] at C3
    rw [Int.toNat_natCast]
    have hc := (M.ctx n hn).cs
    have h5 := M.sl
    have F := M.fit n
    have s0 := F.s0
    have s1 := F.s1
    have ix : (n : Int) < 365 := by omega
    clear h e M F
    generalize (L n).S = S at *
    generalize med (ct a 0 T) (ct b 0 T) (ct c 0 T) = m at *
    by_cases hs : s < 0
    · rw [if_pos hs, show m - S = m + -S by omega]
      go_enter Try.func30, Try.ntmps30
      go_wp2_with (first | (go_at_call 50; refine CT.out.mono ?_; rintro e w' ⟨rfl, rfl⟩) | (go_at_call 49; refine (CV.out _).mono ?_; rintro e w' ⟨rfl, rfl⟩) | (go_at_call 35; refine C2.out.mono ?_; rintro e w' ⟨rfl, rfl⟩) | (go_at_call 54; refine C3.out.mono ?_; rintro e w' ⟨rfl, rfl⟩))
      go_ret
      exact ⟨rfl, rfl⟩
    · rw [if_neg hs]
      go_enter Try.func30, Try.ntmps30
      go_wp2_with (first | (go_at_call 50; refine CT.out.mono ?_; rintro e w' ⟨rfl, rfl⟩) | (go_at_call 49; refine (CV.out _).mono ?_; rintro e w' ⟨rfl, rfl⟩) | (go_at_call 35; refine C2.out.mono ?_; rintro e w' ⟨rfl, rfl⟩) | (go_at_call 54; refine C3.out.mono ?_; rintro e w' ⟨rfl, rfl⟩))
      go_ret
      exact ⟨rfl, rfl⟩
  · rw [if_neg h]
    rw [decide_eq_false h] at C3
    clear h M
    generalize med (ct a 0 T) (ct b 0 T) (ct c 0 T) = m at *
    have C9 := Hid.mk (CV.out m)
    rw [ct_id m0 m1] at C9
    by_cases hs : s < 0
    · go_enter Try.func30, Try.ntmps30
      go_wp2_with (first | (go_at_call 50; refine CT.out.mono ?_; rintro e w' ⟨rfl, rfl⟩) | (go_at_call_of 49 m; refine C9.out.mono ?_; rintro e w' ⟨rfl, rfl⟩) | (go_at_call 49; refine (CV.out _).mono ?_; rintro e w' ⟨rfl, rfl⟩) | (go_at_call 35; refine C2.out.mono ?_; rintro e w' ⟨rfl, rfl⟩) | (go_at_call 54; refine C3.out.mono ?_; rintro e w' ⟨rfl, rfl⟩))
      go_ret
      exact ⟨rfl, rfl⟩
    · go_enter Try.func30, Try.ntmps30
      go_wp2_with (first | (go_at_call 50; refine CT.out.mono ?_; rintro e w' ⟨rfl, rfl⟩) | (go_at_call_of 49 m; refine C9.out.mono ?_; rintro e w' ⟨rfl, rfl⟩) | (go_at_call 49; refine (CV.out _).mono ?_; rintro e w' ⟨rfl, rfl⟩) | (go_at_call 35; refine C2.out.mono ?_; rintro e w' ⟨rfl, rfl⟩) | (go_at_call 54; refine C3.out.mono ?_; rintro e w' ⟨rfl, rfl⟩))
      go_ret
      exact ⟨rfl, rfl⟩

/-- Four numbers in a block of their own. -/
structure Lc (w : World) (Q : Nat) (A B S N : Int) : Prop where
  blk : w.heap[Q]? = some (.cells #[.int .i64 A, .int .i64 B, .int .i64 S, .int .i64 N] 77 (0, 0))
theorem Lc.cells {w : World} {Q : Nat} {A B S N : Int} (h : Lc w Q A B S N) : w.cell? ⟨Q, 0, none⟩ = some (.int .i64 A) ∧ w.cell? ⟨Q, 1, none⟩ = some (.int .i64 B) ∧ w.cell? ⟨Q, 2, none⟩ = some (.int .i64 S) ∧ w.cell? ⟨Q, 3, none⟩ = some (.int .i64 N) := by
  refine ⟨?_, ?_, ?_, ?_⟩
  all_goals (rw [cell_of_row _ _ _ _ _ _ h.blk]; rfl)
theorem Lc.fz {w : World} {Q : Nat} {A B S N : Int} (h : Lc w Q A B S N) (i : Nat) : w.frozen? ⟨Q, i, none⟩ = false := frozen_of_row _ _ _ _ _ h.blk
theorem Lc.a {w : World} {Q : Nat} {A B S N : Int} (h : Lc w Q A B S N) (x : Int) : Lc (w.setCell ⟨Q, 0, none⟩ (.int .i64 x)) Q x B S N := ⟨heap_setCell_at h.blk⟩
theorem Lc.b {w : World} {Q : Nat} {A B S N : Int} (h : Lc w Q A B S N) (x : Int) : Lc (w.setCell ⟨Q, 1, none⟩ (.int .i64 x)) Q A x S N := ⟨heap_setCell_at h.blk⟩
theorem Lc.s {w : World} {Q : Nat} {A B S N : Int} (h : Lc w Q A B S N) (x : Int) : Lc (w.setCell ⟨Q, 2, none⟩ (.int .i64 x)) Q A B x N := ⟨heap_setCell_at h.blk⟩
theorem Lc.n {w : World} {Q : Nat} {A B S N : Int} (h : Lc w Q A B S N) (x : Int) : Lc (w.setCell ⟨Q, 3, none⟩ (.int .i64 x)) Q A B S x := ⟨heap_setCell_at h.blk⟩
theorem Lc.drew {w : World} {Q : Nat} {A B S N : Int} (h : Lc w Q A B S N) : Lc w.drew Q A B S N := ⟨h.blk⟩
theorem cell_set_at {w : World} {g i : Nat} {u : Value} (v : Value) (h : w.cell? ⟨g, i, none⟩ = some u) : (w.setCell ⟨g, i, none⟩ v).cell? ⟨g, i, none⟩ = some v := World.cell?_setCell_same _ _ _ h
/-- Four cells of the list are written. -/
abbrev pt4 (w : World) (g o : Nat) (s : Sx) : World := (((w.setCell ⟨g, o, none⟩ (.int .i64 s.A)).setCell ⟨g, o + 1, none⟩ (.int .i64 s.B)).setCell ⟨g, o + 2, none⟩ (.int .i64 s.S)).setCell ⟨g, o + 3, none⟩ (.int .i64 s.N)
theorem pt4_out (w : World) (g o i : Nat) (s : Sx) (h : i < o ∨ o + 4 ≤ i) : (pt4 w g o s).cell? ⟨g, i, none⟩ = w.cell? ⟨g, i, none⟩ := by
  unfold pt4
  rw [cell_set_ne _ _ _ _ _ (by omega), cell_set_ne _ _ _ _ _ (by omega), cell_set_ne _ _ _ _ _ (by omega), cell_set_ne _ _ _ _ _ (by omega)]
theorem pt4_kept (w : World) (g o : Nat) (s : Sx) : Kept [g] w (pt4 w g o s) :=
  ((((Kept.refl [g] w).setCell (p := ⟨g, o, none⟩) (.inl (by simp)) _).setCell (p := ⟨g, o + 1, none⟩) (.inl (by simp)) _).setCell (p := ⟨g, o + 2, none⟩) (.inl (by simp)) _).setCell (p := ⟨g, o + 3, none⟩) (.inl (by simp)) _
theorem pt4_in {w : World} {g o : Nat} {t : Sx} (s : Sx) (h : Ad w g o t) : Ad (pt4 w g o s) g o s := by
  obtain ⟨h0, h1, h2, h3⟩ := h
  unfold pt4
  refine ⟨?_, ?_, ?_, ?_⟩
  · rw [cell_set_ne _ _ _ _ _ (by omega), cell_set_ne _ _ _ _ _ (by omega), cell_set_ne _ _ _ _ _ (by omega)]; exact cell_set_at _ h0
  · rw [cell_set_ne _ _ _ _ _ (by omega), cell_set_ne _ _ _ _ _ (by omega)]; exact cell_set_at (u := .int .i64 t.B) _ (by rw [cell_set_ne _ _ _ _ _ (by omega)]; exact h1)
  · rw [cell_set_ne _ _ _ _ _ (by omega)]; exact cell_set_at (u := .int .i64 t.S) _ (by rw [cell_set_ne _ _ _ _ _ (by omega), cell_set_ne _ _ _ _ _ (by omega)]; exact h2)
  · exact cell_set_at (u := .int .i64 t.N) _ (by rw [cell_set_ne _ _ _ _ _ (by omega), cell_set_ne _ _ _ _ _ (by omega), cell_set_ne _ _ _ _ _ (by omega)]; exact h3)
theorem Rd.put {w : World} {R g cap : Nat} {T d : Int} {L : Nat → Sx} (h : Rd w R g cap T d L) {n : Nat} (hn : n < 365) {s : Sx} (hs : s.Fit) : Rd (pt4 w g (n * 4) s) R g cap T d (upd L n s) := by
  obtain ⟨cs, hb, hz⟩ := h.blk
  have hk := pt4_kept w g (n * 4) s
  have hne : R ∉ [g] := by simp; exact h.ne
  refine ⟨h.good, h.hd.keep hk hne, cell_keep hk h.sl hne, ⟨_, heap_setCell_at (heap_setCell_at (heap_setCell_at (heap_setCell_at hb))), by simpa using hz⟩, ?_, ?_, h.ne⟩
  · intro k hk'
    unfold upd
    by_cases e : k = n
    · subst e; rw [if_pos rfl]; exact pt4_in s (h.ctx k hk')
    · rw [if_neg e]
      have a := h.ctx k hk'
      exact ⟨by rw [pt4_out _ _ _ _ _ (by omega)]; exact a.ca, by rw [pt4_out _ _ _ _ _ (by omega)]; exact a.cb, by rw [pt4_out _ _ _ _ _ (by omega)]; exact a.cs, by rw [pt4_out _ _ _ _ _ (by omega)]; exact a.cn⟩
  · intro k; unfold upd; split
    · exact hs
    · exact h.fit k
end Go.Proofs.Ytpjogodepionoaa
