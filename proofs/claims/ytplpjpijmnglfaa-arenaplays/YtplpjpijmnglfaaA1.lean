import Derived.Test.YtplpjpijmnglfaaK0
import Derived.Deep.RegionHeldLaw
import Derived.Deep.RegionLaw
namespace Go.Proofs.Ytplpjpijmnglfaa
open Go.RowKit

theorem wrap_i {x : Int} (h0 : -9223372036854775808 ≤ x) (h1 : x ≤ 9223372036854775807) : IntKind.i64.wrap x = x := by
  simp only [IntKind.wrap, IntKind.bits, IntKind.signed]; simp; omega
theorem w64_in {x : Int} (h0 : -9223372036854775808 ≤ x) (h1 : x ≤ 9223372036854775807) : wrap64 x = x := by unfold wrap64; omega
theorem alloc_cell (w : World) (cs : Array Value) (t i : Nat) (v : Value) (h : cs[i]? = some v) : (w.alloc (.cells cs t (0, 0))).cell? ⟨w.heap.size, i, none⟩ = some v := by
  rw [cell_of_row _ _ _ _ _ _ (heap_alloc_new w _)]; exact h
theorem alloc_kept (w : World) (o : Obj) : Kept [] w (w.alloc o) := (Kept.refl [] w).alloc o
theorem lt_of_cell {w : World} {b i : Nat} {v : Value} (h : w.cell? ⟨b, i, none⟩ = some v) : b < w.heap.size := by
  by_cases hb : b < w.heap.size
  · exact hb
  · have : w.heap[b]? = none := by simp; omega
    simp [World.cell?, this] at h
theorem cell_keep {w w' : World} {l : List Nat} {b i : Nat} {v : Value} (hk : Kept l w w') (h : w.cell? ⟨b, i, none⟩ = some v) (hn : b ∉ l) : w'.cell? ⟨b, i, none⟩ = some v := by
  have hb := hk.block b (lt_of_cell h) hn
  simp only [World.cell?, hb] at h ⊢
  exact h

/-- The greater one. -/
def mx (x y : Int) : Int := if y > x then y else x
/-- Three cells in memory. -/
theorem three {w : World} {B t : Nat} {a b c : Value} (h : w.heap[B]? = some (.cells #[a, b, c] t (0, 0))) :
    (w.cell? ⟨B, 0, none⟩ = some a ∧ w.cell? ⟨B, 1, none⟩ = some b ∧ w.cell? ⟨B, 2, none⟩ = some c) ∧ w.frozen? ⟨B, 0, none⟩ = false ∧ w.frozen? ⟨B, 1, none⟩ = false ∧ w.frozen? ⟨B, 2, none⟩ = false := by
  refine ⟨⟨?_, ?_, ?_⟩, ?_, ?_, ?_⟩
  all_goals first | (rw [cell_of_row _ _ _ _ _ _ h]; rfl) | (simp [World.frozen?, h])

/-- An arena (of the type ty) in memory: its limit, what is given, the peak. -/
def Ar (ty : TypeId) (w : World) (P : Nat) (m g t : Int) : Prop := w.heap[P]? = some (.cells #[.int .i64 m, .int .i64 g, .int .i64 t] ty (0, 0))
/-- Its numbers. -/
structure Gm (m g t : Int) : Prop where
  a : 0 ≤ g
  b : g ≤ t
  c : t ≤ m
  d : m ≤ 1073741824

theorem Ar.keep {ty : TypeId} {w w' : World} {P : Nat} {m g t : Int} {l : List Nat} (h : Ar ty w P m g t) (hk : Kept l w w') (hn : P ∉ l) : Ar ty w' P m g t := hk.heap h hn
theorem Ar.lt {ty : TypeId} {w : World} {P : Nat} {m g t : Int} (h : Ar ty w P m g t) : P < w.heap.size := lt_of_block h
theorem Ar.drewN {ty : TypeId} {w : World} {P : Nat} {m g t : Int} (h : Ar ty w P m g t) (n : Nat) : Ar ty (w.drewN n) P m g t := h.keep ((Kept.refl [] w).drewN n) (by simp)

set_option maxHeartbeats 1000000 in
theorem new_ok (m : Int) (w : World) (h0 : 0 ≤ m) (h1 : m ≤ 1073741824) :
    Calls Try.prog 11 #[.int .i64 m] w fun e w' => ∃ P, e = .returned (.tuple #[.pointer (some ⟨P, 0, none⟩), .int .i64 0]) ∧ Ar 62 w' P m 0 0 ∧ w.heap.size ≤ P ∧ Kept [] w w' := by
  go_enter Try.func11, Try.ntmps11
  go_wp2
  go_ret2
  exact ⟨_, rfl, heap_alloc_new _ _, Nat.le_refl _, alloc_kept _ _⟩
set_option maxHeartbeats 1000000 in
theorem newD_ok (m : Int) (w : World) (h0 : 0 ≤ m) (h1 : m ≤ 1073741824) :
    Calls Try.prog 20 #[.int .i64 m] w fun e w' => ∃ P, e = .returned (.tuple #[.pointer (some ⟨P, 0, none⟩), .int .i64 0]) ∧ Ar 60 w' P m 0 0 ∧ w.heap.size ≤ P ∧ Kept [] w w' := by
  go_enter Try.func20, Try.ntmps20
  go_wp2
  go_ret2
  exact ⟨_, rfl, heap_alloc_new _ _, Nat.le_refl _, alloc_kept _ _⟩
set_option maxHeartbeats 1000000 in
theorem new_no (m : Int) (w : World) (h : m < 0 ∨ 1073741824 < m) :
    Calls Try.prog 11 #[.int .i64 m] w fun e w' => e = .returned (.tuple #[.pointer none, .int .i64 1]) ∧ w' = w := by
  rcases h with h | h
  all_goals
    go_enter Try.func11, Try.ntmps11
    go_wp2
    go_ret2
    exact ⟨rfl, rfl⟩
set_option maxHeartbeats 1000000 in
theorem newD_no (m : Int) (w : World) (h : m < 0 ∨ 1073741824 < m) :
    Calls Try.prog 20 #[.int .i64 m] w fun e w' => e = .returned (.tuple #[.pointer none, .int .i64 1]) ∧ w' = w := by
  rcases h with h | h
  all_goals
    go_enter Try.func20, Try.ntmps20
    go_wp2
    go_ret2
    exact ⟨rfl, rfl⟩

set_option maxHeartbeats 1000000 in
theorem given_any (P : Nat) (m g t : Int) (w : World) (h : Ar 62 w P m g t) :
    Calls Try.prog 15 #[.pointer (some ⟨P, 0, none⟩)] w fun e w' => e = .returned (.int .i64 g) ∧ w' = w := by
  obtain ⟨⟨c0, c1, c2⟩, -⟩ := three h
  clear h
  go_enter Try.func15, Try.ntmps15
  go_wp2
  go_ret
  exact ⟨rfl, rfl⟩
set_option maxHeartbeats 1000000 in
theorem peak_any (P : Nat) (m g t : Int) (w : World) (h : Ar 62 w P m g t) :
    Calls Try.prog 19 #[.pointer (some ⟨P, 0, none⟩)] w fun e w' => e = .returned (.int .i64 t) ∧ w' = w := by
  obtain ⟨⟨c0, c1, c2⟩, -⟩ := three h
  clear h
  go_enter Try.func19, Try.ntmps19
  go_wp2
  go_ret
  exact ⟨rfl, rfl⟩
set_option maxHeartbeats 1000000 in
theorem mark_any (P : Nat) (m g t : Int) (w : World) (h : Ar 62 w P m g t) :
    Calls Try.prog 18 #[.pointer (some ⟨P, 0, none⟩)] w fun e w' => e = .returned (.int .i64 g) ∧ w' = w := by
  go_enter Try.func18, Try.ntmps18
  go_wp2_with (go_at_call 15; refine (given_any P m g t _ h).mono ?_; rintro e w' ⟨rfl, rfl⟩)
  go_ret
  exact ⟨rfl, rfl⟩

/-- What Release tells, and what is given behind it. -/
def rlE (g x : Int) : Int := if 0 ≤ x ∧ x ≤ g then 0 else 1
def rlG (g x : Int) : Int := if 0 ≤ x ∧ x ≤ g then x else g
theorem set1 {w : World} {P ty : Nat} {a b c : Value} (b' : Value) (h : w.heap[P]? = some (.cells #[a, b, c] ty (0, 0))) :
    (w.setCell ⟨P, 1, none⟩ b').heap[P]? = some (.cells #[a, b', c] ty (0, 0)) ∧ Kept [P] w (w.setCell ⟨P, 1, none⟩ b') :=
  ⟨heap_setCell_at h, (Kept.refl [P] w).setCell (p := ⟨P, 1, none⟩) (.inl (by simp)) _⟩
theorem set12 {w : World} {P ty : Nat} {a b c : Value} (b' c' : Value) (h : w.heap[P]? = some (.cells #[a, b, c] ty (0, 0))) :
    ((w.setCell ⟨P, 1, none⟩ b').setCell ⟨P, 2, none⟩ c').heap[P]? = some (.cells #[a, b', c'] ty (0, 0)) ∧ Kept [P] w ((w.setCell ⟨P, 1, none⟩ b').setCell ⟨P, 2, none⟩ c') :=
  ⟨heap_setCell_at (heap_setCell_at h), ((Kept.refl [P] w).setCell (p := ⟨P, 1, none⟩) (.inl (by simp)) _).setCell (p := ⟨P, 2, none⟩) (.inl (by simp)) _⟩

set_option maxHeartbeats 1000000 in
theorem release_any (P : Nat) (m g t x : Int) (w : World) (h : Ar 62 w P m g t) :
    Calls Try.prog 13 #[.pointer (some ⟨P, 0, none⟩), .int .i64 x] w fun e w' => e = .returned (.int .i64 (rlE g x)) ∧ Ar 62 w' P m (rlG g x) t ∧ Kept [P] w w' := by
  obtain ⟨⟨c0, c1, c2⟩, f0, f1, f2⟩ := three h
  have HA := Hid.mk h
  clear h
  by_cases h0 : x < 0
  · rw [show rlE g x = 1 from if_neg (by omega), show rlG g x = g from if_neg (by omega)]
    go_enter Try.func13, Try.ntmps13
    go_wp2
    go_ret
    exact ⟨rfl, HA.out, Kept.refl _ _⟩
  · by_cases h1 : g < x
    · rw [show rlE g x = 1 from if_neg (by omega), show rlG g x = g from if_neg (by omega)]
      go_enter Try.func13, Try.ntmps13
      go_wp2
      go_ret
      exact ⟨rfl, HA.out, Kept.refl _ _⟩
    · rw [show rlE g x = 0 from if_pos (by omega), show rlG g x = x from if_pos (by omega)]
      go_enter Try.func13, Try.ntmps13
      go_wp2
      go_ret
      exact ⟨rfl, set1 _ HA.out⟩
set_option maxHeartbeats 1000000 in
theorem releaseD_any (P : Nat) (m g t x : Int) (w : World) (h : Ar 60 w P m g t) :
    Calls Try.prog 22 #[.pointer (some ⟨P, 0, none⟩), .int .i64 x] w fun e w' => e = .returned (.int .i64 (rlE g x)) ∧ Ar 60 w' P m (rlG g x) t ∧ Kept [P] w w' := by
  obtain ⟨⟨c0, c1, c2⟩, f0, f1, f2⟩ := three h
  have HA := Hid.mk h
  clear h
  by_cases h0 : x < 0
  · rw [show rlE g x = 1 from if_neg (by omega), show rlG g x = g from if_neg (by omega)]
    go_enter Try.func22, Try.ntmps22
    go_wp2
    go_ret
    exact ⟨rfl, HA.out, Kept.refl _ _⟩
  · by_cases h1 : g < x
    · rw [show rlE g x = 1 from if_neg (by omega), show rlG g x = g from if_neg (by omega)]
      go_enter Try.func22, Try.ntmps22
      go_wp2
      go_ret
      exact ⟨rfl, HA.out, Kept.refl _ _⟩
    · rw [show rlE g x = 0 from if_pos (by omega), show rlG g x = x from if_pos (by omega)]
      go_enter Try.func22, Try.ntmps22
      go_wp2
      go_ret
      exact ⟨rfl, set1 _ HA.out⟩

/-- Which of n things a raw number speaks of. -/
def pick (c n : Int) : Int := if c < 0 then (-(c + 1)) % n else c % n
theorem pick_lo (c n : Int) (h : 0 < n) : 0 ≤ pick c n := by
  unfold pick; split <;> exact Int.emod_nonneg _ (by omega)
theorem pick_hi (c n : Int) (h : 0 < n) : pick c n < n := by
  unfold pick; split <;> exact Int.emod_lt_of_pos _ h
set_option maxHeartbeats 1000000 in
theorem pick_any (c n : Int) (w : World) (c0 : -9223372036854775808 ≤ c) (c1 : c ≤ 9223372036854775807) (h : 0 < n) :
    Calls Try.prog 8 #[.int .i64 c, .int .i64 n] w fun e w' => e = .returned (.int .i64 (pick c n)) ∧ w' = w := by
  by_cases hc : c < 0
  · go_enter Try.func8, Try.ntmps8
    go_wp2
    go_ret
    exact ⟨ret_int (by unfold pick; rw [if_pos hc, ← Int.neg_tmod, Int.tmod_eq_emod_of_nonneg (by omega)]), rfl⟩
  · go_enter Try.func8, Try.ntmps8
    go_wp2
    go_ret
    exact ⟨ret_int (by unfold pick; rw [if_neg (by omega)]), rfl⟩
end Go.Proofs.Ytplpjpijmnglfaa
