import Derived.Test.YthhcihcgefeblaaDoorF5
namespace Go.Proofs.YthhcihcgefeblaaDoor
open Go.RowKit

/-- The cells of a step. -/
def opc (kd on a b c : Int) (T : ByteArray) : Array Value := #[.int .i64 kd, .int .i64 on, .int .i64 a, .int .i64 b, .int .i64 c, .string T]

theorem opc_cells {w : World} {O : Nat} {kd on a b c : Int} {T : ByteArray} (h : w.heap[O]? = some (.cells (opc kd on a b c T) 37 (0, 0))) :
    w.cell? ⟨O, 0, none⟩ = some (.int .i64 kd) ∧ w.cell? ⟨O, 1, none⟩ = some (.int .i64 on) ∧ w.cell? ⟨O, 2, none⟩ = some (.int .i64 a) ∧ w.cell? ⟨O, 3, none⟩ = some (.int .i64 b) ∧ w.cell? ⟨O, 4, none⟩ = some (.int .i64 c) ∧ w.cell? ⟨O, 5, none⟩ = some (.string T) := by
  refine ⟨?_, ?_, ?_, ?_, ?_, ?_⟩ <;> simp [World.cell?, h, opc]

theorem pick_nat (c : Int) (n : Nat) (h : 0 < n) : ∃ F : Nat, pick c n = (F : Int) ∧ F < n := by
  have h0 := pick_lo c n (by omega)
  have h1 := pick_hi c n (by omega)
  exact ⟨(pick c n).toNat, by omega, by omega⟩

/-- A World that holds a step's cells. -/
def Wo.op (s : Wo) (O : Nat) (kd on a b c : Int) (T : ByteArray) : Wo := { s with m := s.m + 1, X := fun j => if j = s.m then obj O (.cells (opc kd on a b c T) 37 (0, 0)) else s.X j }

/-- What a World that has been changed still has. -/
structure Still (s s' : Wo) : Prop where
  c : s'.c = s.c
  B : s'.B = s.B
  S : s'.S = s.S
  m : s'.m = s.m
  X : s'.X = s.X

theorem Still.refl (s : Wo) : Still s s := ⟨rfl, rfl, rfl, rfl, rfl⟩
theorem Still.upd {s s' : Wo} (h : Still s s') (k i : Nat) (V : Value) (N len t r : Nat) : Still s (s'.upd k i V N len t r) := ⟨h.c, h.B, h.S, h.m, h.X⟩

theorem At.opc {W w : World} {A O : Nat} {s s' : Wo} {kd on a b c : Int} {T : ByteArray} (h : At W w A s') (hs : Still (s.op O kd on a b c T) s') :
    w.cell? ⟨O, 0, none⟩ = some (.int .i64 kd) ∧ w.cell? ⟨O, 1, none⟩ = some (.int .i64 on) ∧ w.cell? ⟨O, 2, none⟩ = some (.int .i64 a) ∧ w.cell? ⟨O, 3, none⟩ = some (.int .i64 b) ∧ w.cell? ⟨O, 4, none⟩ = some (.int .i64 c) ∧ w.cell? ⟨O, 5, none⟩ = some (.string T) := by
  have h1 := h.more s.m (by rw [hs.m]; exact Nat.lt_succ_self _)
  rw [hs.X] at h1
  have h2 : (obj O (.cells (Go.Proofs.YthhcihcgefeblaaDoor.opc kd on a b c T) 37 (0, 0))).P w := by simpa [Wo.op] using h1
  exact opc_cells h2
theorem At.fld {W w : World} {A : Nat} {s s' : Wo} (h : At W w A s') (hs : Still s s') (k : Nat) (hk : k < 6) : w.cell? ⟨A, k, none⟩ = some (s.S k) := by
  have := h.cells.1 k hk
  rw [hs.S] at this
  exact this
/-- The pointer at a place, whatever has been changed. -/
theorem At.ptrs {W w : World} {A : Nat} {s : Wo} (h : At W w A s) (k i : Nat) (hk : k < 6) (hi : i < s.c k) : ∃ G cp, s.S k = .slice (some ⟨G, 0, none⟩) (s.c k) cp ∧ ∀ w' s', At W w' A s' → Still s s' → w'.cell? ⟨G, i, none⟩ = some (.pointer (some ⟨s.B k i, 0, none⟩)) := by
  obtain ⟨G, cp, e, _⟩ := h.ptr k i hk hi
  refine ⟨G, cp, e, fun w' s' h' hs => ?_⟩
  obtain ⟨G', cp', e', g'⟩ := h'.ptr k i hk (by rw [hs.c]; exact hi)
  rw [hs.S, e] at e'
  simp at e'
  obtain ⟨rfl, _⟩ := e'
  rw [hs.B] at g'
  exact g'

theorem At.unop {W w : World} {A O : Nat} {s s' : Wo} {kd on a b c : Int} {T : ByteArray} (h : At W w A s') (hm : s'.m = s.m + 1) (hX : s'.X = (s.op O kd on a b c T).X) : At W w A { s' with m := s.m, X := s.X } :=
  h.drop s.m s.X (by omega) (fun j hj => by rw [hX]; have : j ≠ s.m := by omega
                                            simp [Wo.op, this])

/-- What a step leaves. -/
def SPost (W : World) (A : Nat) (s : Wo) (b : Nat) (e : Ending) (w' : World) : Prop := e = .returned (.bool true) ∧ ∃ s', At W w' A s' ∧ Alike s' ∧ Small s' b ∧ s.c 0 ≤ s'.c 0 ∧ s.c 2 ≤ s'.c 2 ∧ s.c 4 ≤ s'.c 4 ∧ ∀ k, s'.c k ≤ s.c k + 1

section
variable {W w : World} {A O : Nat} {s : Wo} {b : Nat} {kd on a bb cc : Int} {T : ByteArray}

theorem At.other {k i : Nat} {V : Value} {N len t r : Nat} (h : At W w A (s.upd k i V N len t r)) (hk : k < 6) (j : Nat × Nat) (hj : s.D j) (hne : j ≠ (k, i)) : (s.R A j).P w := by
  have h1 := h.P j hj
  rw [Wo.upd_R _ _ _ _ _ _ _ _ _ hk j hne] at h1
  exact h1
theorem At.other2 {k i k' i' : Nat} {V V' : Value} {N len t r N' len' t' r' : Nat} (h : At W w A ((s.upd k i V N len t r).upd k' i' V' N' len' t' r')) (hk : k < 6) (hk' : k' < 6) (j : Nat × Nat) (hj : s.D j) (h1 : j ≠ (k, i)) (h2 : j ≠ (k', i')) : (s.R A j).P w := by
  have h3 := h.P j hj
  rw [upd_two s A k i k' i' _ _ _ _ _ _ _ _ _ _ hk hk' j h1 h2] at h3
  exact h3

theorem small_more {b' : Nat} (hs : Small s b) (h : b ≤ b') : Small s b' := ⟨hs.c, fun i => by have := hs.len i; omega, hs.l⟩
theorem small_upd {k i : Nat} {V : Value} {N len t r b' : Nat} (hs : Small s b') (h : k = 0 → len ≤ b') : Small (s.upd k i V N len t r) b' := by
  refine ⟨hs.c, fun j => ?_, hs.l⟩
  show upd2 s.len k i len 0 j ≤ b'
  unfold upd2
  split
  · rename_i e; exact h e.1.symm
  · exact hs.len j

theorem spost_same (h : At W w A (s.op O kd on a bb cc T)) (ha : Alike s) (hs : Small s b) : SPost W A s (b + 50) (.returned (.bool true)) w :=
  ⟨rfl, s, h.unop rfl rfl, ha, small_more hs (by omega), Nat.le_refl _, Nat.le_refl _, Nat.le_refl _, fun _ => Nat.le_succ _⟩

theorem spost_pair {p i : Nat} (hp : p = 0 ∨ p = 2 ∨ p = 4) {V V' : Value} {N len t r : Nat} (h : At W w A (((s.op O kd on a bb cc T).upd p i V N len t r).upd (p + 1) i V' N len t r)) (ha : Alike s) (hs : Small s b) (hl : p = 0 → len ≤ b + 50) : SPost W A s (b + 50) (.returned (.bool true)) w :=
  ⟨rfl, (s.upd p i V N len t r).upd (p + 1) i V' N len t r, h.unop rfl rfl, alike_upd ha p i hp V V' N len t r, small_upd (small_upd (small_more hs (by omega)) hl) (by omega), Nat.le_refl _, Nat.le_refl _, Nat.le_refl _, fun _ => Nat.le_succ _⟩

theorem spost_four {p i c : Nat} (hp : p = 0 ∨ p = 2) {V V' V2 V2' : Value} {N len t r N2 len2 t2 r2 : Nat} (h : At W w A (((((s.op O kd on a bb cc T).upd p i V N len t r).upd 4 c V2 N2 len2 t2 r2).upd (p + 1) i V' N len t r).upd 5 c V2' N2 len2 t2 r2)) (ha : Alike s) (hs : Small s b) (hl : p = 0 → len ≤ b + 50) : SPost W A s (b + 50) (.returned (.bool true)) w := by
  rw [upd_swap _ 4 c (p + 1) i _ _ _ _ _ _ _ _ _ _ (by omega)] at h
  exact ⟨rfl, (((s.upd p i V N len t r).upd (p + 1) i V' N len t r).upd 4 c V2 N2 len2 t2 r2).upd 5 c V2' N2 len2 t2 r2, h.unop rfl rfl, alike_upd (alike_upd ha p i (by omega) V V' N len t r) 4 c (.inr (.inr rfl)) V2 V2' N2 len2 t2 r2, small_upd (small_upd (small_upd (small_upd (small_more hs (by omega)) hl) (by omega)) (by omega)) (by omega), Nat.le_refl _, Nat.le_refl _, Nat.le_refl _, fun _ => Nat.le_succ _⟩
end

theorem tdiv3 (on : Int) (o0 : -9223372036854775808 ≤ on) (o1 : on ≤ 9223372036854775807) : -9223372036854775808 ≤ on.tdiv 3 ∧ on.tdiv 3 ≤ 9223372036854775807 := by
  by_cases h : 0 ≤ on
  · rw [Int.tdiv_eq_ediv_of_nonneg h]; omega
  · have e : on = -(-on) := by omega
    rw [e, Int.neg_tdiv, Int.tdiv_eq_ediv_of_nonneg (by omega)]; omega

end Go.Proofs.YthhcihcgefeblaaDoor
