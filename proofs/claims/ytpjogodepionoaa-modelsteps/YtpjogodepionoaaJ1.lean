import Derived.Test.YtpjogodepionoaaH4
import Derived.Test.YtpjogodepionoaaH2
import Derived.Test.YtpjogodepionoaaD1
import Derived.Test.YtpjogodepionoaaE3
namespace Go.Proofs.Ytpjogodepionoaa
open Go.RowKit

/-- A model and the document's, alike, or neither. -/
structure Pg (w : World) (B P R g cap : Nat) (T d : Int) (L : Nat → Sx) : Prop where
  m : Md w P T d L
  r : Rd w R g cap T d L
  pr : P ≠ R
  pg : P ≠ g
  bp : B ≤ P
  br : B ≤ R
  bg : B ≤ g
theorem Pg.keep {w w' : World} {B P R g cap : Nat} {T d : Int} {L : Nat → Sx} {l : List Nat} (h : Pg w B P R g cap T d L) (hk : Kept l w w') (h1 : P ∉ l) (h2 : R ∉ l) (h3 : g ∉ l) : Pg w' B P R g cap T d L :=
  ⟨h.m.keep hk h1, h.r.keep hk h2 h3, h.pr, h.pg, h.bp, h.br, h.bg⟩

set_option maxHeartbeats 8000000 in
set_option maxRecDepth 1000000 in
theorem pstats_any (B P R g cap : Nat) (T d k : Int) (L : Nat → Sx) (w : World) (h : Pg w B P R g cap T d L) :
    Calls Try.prog 33 #[.agg #[.pointer (some ⟨P, 0, none⟩), .pointer (some ⟨R, 0, none⟩)], .int .i64 k] w fun e w' => e = .returned (.bool true) ∧ Kept [] w w' := by
  have C1 := Hid.mk (fun u (hu : Kept [] w u) => stats_any P k T d L u (h.m.keep hu (by simp)))
  have C2 := Hid.mk (fun u (hu : Kept [] w u) => statsD_any R g cap k T d L u (h.r.keep hu (by simp) (by simp)))
  generalize so L k = s at *
  obtain ⟨A, X, S, N⟩ := s
  dsimp only at *
  clear h
  go_enter Try.func33, Try.ntmps33
  go_wp2_with (fail)
  obtain ⟨w1, hw1, k1, hb1⟩ := two_new w (.pointer (some ⟨P, 0, none⟩)) (.pointer (some ⟨R, 0, none⟩)) 29
  rw [hw1]
  clear hw1
  have ⟨b0, b1⟩ := two hb1
  refine (C1.out w1 k1).mono ?_
  rintro e w2 ⟨rfl, k2⟩
  have ⟨c0, c1⟩ := two (k2.heap hb1 (by simp))
  go_wp2_with (fail)
  refine (C2.out w2 (k1.trans k2)).mono ?_
  rintro e w3 ⟨rfl, k3⟩
  go_wp2
  go_ret
  exact ⟨by first | rfl | simp, (k1.trans k2).trans k3⟩

/-- The cells of a step as a value. -/
abbrev opv (q : Ent) : Value := .agg #[.int .i64 q.kd, .int .i64 q.k, .int .i64 q.s, .int .i64 q.a, .int .i64 q.b, .int .i64 q.c, .int .i64 q.d, .bool q.two]
theorem eight_new0 (w : World) (q : Ent) : (w.alloc (.cells #[.int .i64 q.kd, .int .i64 q.k, .int .i64 q.s, .int .i64 q.a, .int .i64 q.b, .int .i64 q.c, .int .i64 q.d, .bool q.two] 33 (0, 0))).cell? ⟨w.heap.size, 0, none⟩ = some (.int .i64 q.kd) := alloc_cell _ _ _ _ _ rfl
/-- What lies there within a step: the pair's pointers, and the step. -/
structure Sb (w : World) (Q P R : Nat) (q : Ent) : Prop where
  p0 : w.cell? ⟨Q, 0, none⟩ = some (.pointer (some ⟨P, 0, none⟩))
  p1 : w.cell? ⟨Q, 1, none⟩ = some (.pointer (some ⟨R, 0, none⟩))
  k0 : w.cell? ⟨Q + 1, 0, none⟩ = some (.int .i64 q.kd)
  e8 : E8 w (Q + 1) q
theorem Sb.keep {w w' : World} {Q P R : Nat} {q : Ent} {l : List Nat} (h : Sb w Q P R q) (hk : Kept l w w') (h1 : Q ∉ l) (h2 : Q + 1 ∉ l) : Sb w' Q P R q :=
  ⟨cell_keep hk h.p0 h1, cell_keep hk h.p1 h1, cell_keep hk h.k0 h2, h.e8.keep hk h2⟩
theorem step_boxes (w : World) (P R : Nat) (q : Ent) : ∃ w1, (w.alloc (.cells #[.pointer (some ⟨P, 0, none⟩), .pointer (some ⟨R, 0, none⟩)] 29 (0, 0))).alloc (.cells #[.int .i64 q.kd, .int .i64 q.k, .int .i64 q.s, .int .i64 q.a, .int .i64 q.b, .int .i64 q.c, .int .i64 q.d, .bool q.two] 33 (0, 0)) = w1 ∧ Kept [] w w1 ∧ Sb w1 w.heap.size P R q := by
  obtain ⟨w1, hw1, hk, h1, h2⟩ := two_boxes w #[.pointer (some ⟨P, 0, none⟩), .pointer (some ⟨R, 0, none⟩)] #[.int .i64 q.kd, .int .i64 q.k, .int .i64 q.s, .int .i64 q.a, .int .i64 q.b, .int .i64 q.c, .int .i64 q.d, .bool q.two] 29 33
  refine ⟨w1, hw1, hk, ⟨?_, ?_, ?_, ⟨?_, ?_, ?_, ?_, ?_, ?_⟩⟩⟩
  · rw [cell_of_row _ _ _ _ _ _ h1]; rfl
  · rw [cell_of_row _ _ _ _ _ _ h1]; rfl
  all_goals (rw [cell_of_row _ _ _ _ _ _ h2]; rfl)
end Go.Proofs.Ytpjogodepionoaa
