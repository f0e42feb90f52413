import Derived.Test.YtgjjnkhkjnkahaaDoorA4
import Derived.Deep.RegionHeldLaw
namespace Go.Proofs.YtgjjnkhkjnkahaaDoor
open Go.RowKit

/-- A rectangle is whole. -/
def whl (W H X Y rw rh : Int) : Bool := decide ((1 ≤ rw ∧ 1 ≤ rh ∧ 0 ≤ X ∧ 0 ≤ Y ∧ X + rw ≤ W ∧ Y + rh ≤ H) ∧ X % 2 = 0 ∧ (rw % 2 = 0 ∨ X + rw = W))
/-- A rectangle lies there. -/
structure Rat (w : World) (b : Nat) (X Y W H : Int) : Prop where
  c0 : w.cell? ⟨b, 0, none⟩ = some (.int .i64 X)
  c1 : w.cell? ⟨b, 1, none⟩ = some (.int .i64 Y)
  c2 : w.cell? ⟨b, 2, none⟩ = some (.int .i64 W)
  c3 : w.cell? ⟨b, 3, none⟩ = some (.int .i64 H)
theorem Rat.new (w : World) (X Y W H : Int) (t : Nat) : Rat (w.alloc (.cells #[.int .i64 X, .int .i64 Y, .int .i64 W, .int .i64 H] t (0, 0))) w.heap.size X Y W H :=
  ⟨alloc_cell _ _ _ _ _ rfl, alloc_cell _ _ _ _ _ rfl, alloc_cell _ _ _ _ _ rfl, alloc_cell _ _ _ _ _ rfl⟩
theorem Rat.keep {w w' : World} {b : Nat} {X Y W H : Int} {ks : List Nat} (h : Rat w b X Y W H) (hk : Kept ks w w') (hn : b ∉ ks) : Rat w' b X Y W H :=
  ⟨cell_keep hk h.c0 hn, cell_keep hk h.c1 hn, cell_keep hk h.c2 hn, cell_keep hk h.c3 hn⟩

/-- What belongs to a rectangle. -/
def bX (p X : Int) : Int := if p = 1 ∨ p = 2 then X / 2 else X
def bW (p W : Int) : Int := if p = 1 ∨ p = 2 then hf W else W

/-- Four cells. -/
theorem set4 {w : World} {B t : Nat} {a b c d : Value} (a' b' c' d' : Value) (h : w.heap[B]? = some (.cells #[a, b, c, d] t (0, 0))) :
    ((((w.setCell ⟨B, 0, none⟩ a').setCell ⟨B, 1, none⟩ b').setCell ⟨B, 2, none⟩ c').setCell ⟨B, 3, none⟩ d').heap[B]? = some (.cells #[a', b', c', d'] t (0, 0)) ∧
    Kept [B] w ((((w.setCell ⟨B, 0, none⟩ a').setCell ⟨B, 1, none⟩ b').setCell ⟨B, 2, none⟩ c').setCell ⟨B, 3, none⟩ d') :=
  ⟨heap_setCell_at (heap_setCell_at (heap_setCell_at (heap_setCell_at h))), ((((Kept.refl [B] w).setCell (p := ⟨B, 0, none⟩) (.inl (by simp)) _).setCell (p := ⟨B, 1, none⟩) (.inl (by simp)) _).setCell (p := ⟨B, 2, none⟩) (.inl (by simp)) _).setCell (p := ⟨B, 3, none⟩) (.inl (by simp)) _⟩

/-- Four cells. -/
theorem four {w : World} {B t : Nat} {a b c d : Value} (h : w.heap[B]? = some (.cells #[a, b, c, d] t (0, 0))) :
    (w.cell? ⟨B, 0, none⟩ = some a ∧ w.cell? ⟨B, 1, none⟩ = some b ∧ w.cell? ⟨B, 2, none⟩ = some c ∧ w.cell? ⟨B, 3, none⟩ = some d) ∧
    w.frozen? ⟨B, 0, none⟩ = false ∧ w.frozen? ⟨B, 1, none⟩ = false ∧ w.frozen? ⟨B, 2, none⟩ = false ∧ w.frozen? ⟨B, 3, none⟩ = false := by
  refine ⟨⟨?_, ?_, ?_, ?_⟩, ?_, ?_, ?_, ?_⟩
  all_goals first | (rw [cell_of_row _ _ _ _ _ _ h]; rfl) | (simp [World.frozen?, h])
/-- Two blocks of four cells, the one behind the other. -/
theorem two_new (w : World) (a b c d a' b' c' d' : Value) (t t' : Nat) :
    ((w.alloc (.cells #[a, b, c, d] t (0, 0))).alloc (.cells #[a', b', c', d'] t' (0, 0))).heap[w.heap.size]? = some (.cells #[a, b, c, d] t (0, 0)) ∧ ((w.alloc (.cells #[a, b, c, d] t (0, 0))).alloc (.cells #[a', b', c', d'] t' (0, 0))).heap[w.heap.size + 1]? = some (.cells #[a', b', c', d'] t' (0, 0)) ∧ Kept [] w ((w.alloc (.cells #[a, b, c, d] t (0, 0))).alloc (.cells #[a', b', c', d'] t' (0, 0))) := by
  refine ⟨(alloc_kept _ _).heap (heap_alloc_new w _) (by simp), ?_, (alloc_kept _ _).trans (alloc_kept _ _)⟩
  have := heap_alloc_new (w.alloc (.cells #[a, b, c, d] t (0, 0))) (.cells #[a', b', c', d'] t' (0, 0))
  rwa [World.size_alloc] at this

end Go.Proofs.YtgjjnkhkjnkahaaDoor
