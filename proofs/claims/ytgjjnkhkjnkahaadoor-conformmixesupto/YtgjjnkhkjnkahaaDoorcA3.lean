import Derived.Test.YtgjjnkhkjnkahaaDoorcA2
namespace Go.Proofs.YtgjjnkhkjnkahaaDoor.Tc
open Go.RowKit

/-- How many frames a day has. -/
def dy (r : Int) : Int := 144 * (600 * rc r - 9 * rl r)

theorem blk_new (w : World) (cs : Array Value) (t : TypeId) : (w.alloc (.cells cs t (0, 0))).heap[w.heap.size]? = some (.cells cs t (0, 0)) := heap_alloc_new w _
theorem four_of {w : World} {B : Nat} {a b c d : Int} {t : TypeId} (h : w.heap[B]? = some (.cells #[.int .i64 a, .int .i64 b, .int .i64 c, .int .i64 d] t (0, 0))) : F4 w B a b c d :=
  ⟨by simp [World.cell?, h], by simp [World.cell?, h], by simp [World.cell?, h], by simp [World.cell?, h]⟩
theorem frz_of {w : World} {B : Nat} {cs : Array Value} {t : TypeId} (h : w.heap[B]? = some (.cells cs t (0, 0))) (i : Nat) : w.frozen? ⟨B, i, none⟩ = false := frozen_of_row w B i _ t h


theorem kept_set4 {w0 w : World} {S : Nat} (h : Kept [] w0 w) (hs : w0.heap.size ≤ S) (a b c d : Value) : Kept [] w0 ((((w.setCell ⟨S, 0, none⟩ a).setCell ⟨S, 1, none⟩ b).setCell ⟨S, 2, none⟩ c).setCell ⟨S, 3, none⟩ d) :=
  (((h.setCell (.inr hs) a).setCell (.inr hs) b).setCell (.inr hs) c).setCell (.inr hs) d

end Go.Proofs.YtgjjnkhkjnkahaaDoor.Tc
