import Derived.Test.YtgjjnkhkjnkahaaDoorA5
namespace Go.Proofs.YtgjjnkhkjnkahaaDoor
open Go.RowKit

/-- Half's error. -/
def hE (W H D p X Y rw rh : Int) (A : Bool) : Int := if shE W H D A = 0 then (if (0 ≤ p ∧ p < (np A : Int)) ∧ whl W H X Y rw rh = true then 0 else 65) else 61
/-- Three blocks of four cells. -/
theorem three_new (w : World) (a b c d a' b' c' d' a2 b2 c2 d2 : Value) (t t' t2 : Nat) :
    ((((w.alloc (.cells #[a, b, c, d] t (0, 0))).alloc (.cells #[a', b', c', d'] t' (0, 0))).alloc (.cells #[a2, b2, c2, d2] t2 (0, 0)))).heap[w.heap.size]? = some (.cells #[a, b, c, d] t (0, 0)) ∧ ((((w.alloc (.cells #[a, b, c, d] t (0, 0))).alloc (.cells #[a', b', c', d'] t' (0, 0))).alloc (.cells #[a2, b2, c2, d2] t2 (0, 0)))).heap[w.heap.size + 1]? = some (.cells #[a', b', c', d'] t' (0, 0)) ∧ ((((w.alloc (.cells #[a, b, c, d] t (0, 0))).alloc (.cells #[a', b', c', d'] t' (0, 0))).alloc (.cells #[a2, b2, c2, d2] t2 (0, 0)))).heap[w.heap.size + 1 + 1]? = some (.cells #[a2, b2, c2, d2] t2 (0, 0)) ∧ Kept [] w ((((w.alloc (.cells #[a, b, c, d] t (0, 0))).alloc (.cells #[a', b', c', d'] t' (0, 0))).alloc (.cells #[a2, b2, c2, d2] t2 (0, 0)))) := by
  have h := two_new w a b c d a' b' c' d' t t'
  refine ⟨(alloc_kept _ _).heap h.1 (by simp), (alloc_kept _ _).heap h.2.1 (by simp), ?_, h.2.2.trans (alloc_kept _ _)⟩
  have := heap_alloc_new ((w.alloc (.cells #[a, b, c, d] t (0, 0))).alloc (.cells #[a', b', c', d'] t' (0, 0))) (.cells #[a2, b2, c2, d2] t2 (0, 0))
  rwa [World.size_alloc, World.size_alloc] at this

end Go.Proofs.YtgjjnkhkjnkahaaDoor
