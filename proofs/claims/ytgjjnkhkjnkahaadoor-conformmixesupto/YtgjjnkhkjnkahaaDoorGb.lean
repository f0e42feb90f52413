import Derived.Test.YtgjjnkhkjnkahaaDoorGa
namespace Go.Proofs.YtgjjnkhkjnkahaaDoor
open Go.RowKit

/-- Planes that grew are read, though a frame's block is written. -/
theorem Gx.plk {B : Nat} {w w' : World} {V : Value} {k X : Nat} {po : Option Addr} {c : Nat} {bs ln : Nat → Nat} {F : Nat → Nat → Nat} {cs : Array Value} (h : Gx B w V k bs ln F) (hk : Kept [X] w w') (hX : w.heap[X]? = some (.cells cs 29 (0, 0))) (hV : V = .slice po k c := by rfl) : Pl w' po k ln F := by
  by_cases h0 : 0 < k
  · obtain ⟨g, cap, e, hg1, hg2, ⟨cs', hg3⟩, hc⟩ := h.cell h0
    rw [e] at hV
    cases hV
    refine .inr ⟨g, 0, rfl, fun i hi => ⟨_, _, cell_keep hk (by rw [Nat.zero_add]; exact hc i hi) ?_, ((h.row i hi).keep hk ?_).rd⟩⟩
    · simp; intro e; subst e; rw [hX] at hg3; simp at hg3
    · simp; intro e; have h := h.row i hi; unfold Row at h; rw [e, hX] at h; simp at h
  · exact .inl (by omega)
/-- Blocks of frames are written. -/
theorem Gx.keept {B : Nat} {w w' : World} {V : Value} {k : Nat} {bs ln : Nat → Nat} {F : Nat → Nat → Nat} {ks : List Nat} (h : Gx B w V k bs ln F) (hk : Kept ks w w') (hX : ∀ x ∈ ks, w.heap.size ≤ x ∨ ∃ cs, w.heap[x]? = some (.cells cs 29 (0, 0))) : Gx B w' V k bs ln F := by
  refine h.keep hk (fun g hg hm => ?_) (fun i hi hm => ?_)
  · rcases hX g hm with h1 | ⟨cs, h1⟩
    · rcases h.own.2 with ⟨e, _⟩ | ⟨g2, cap, cur, e, _, hg2, _⟩
      · rw [e] at hg; simp [Value.ownBlock] at hg
      · rw [e] at hg; simp [Value.ownBlock] at hg; subst hg; have := lt_of_block hg2; omega
    · exact own_other h.own h1 (by decide) hg
  · rcases hX _ hm with h1 | ⟨cs, h1⟩
    · have := (h.row i hi).lt; omega
    · have h2 := h.row i hi; unfold Row at h2; rw [h1] at h2; simp at h2
theorem Gx.keepx {B : Nat} {w w' : World} {V : Value} {k X : Nat} {bs ln : Nat → Nat} {F : Nat → Nat → Nat} {cs : Array Value} (h : Gx B w V k bs ln F) (hk : Kept [X] w w') (hX : w.heap[X]? = some (.cells cs 29 (0, 0))) : Gx B w' V k bs ln F := h.keept hk (fun x hx => by simp at hx; subst hx; exact .inr ⟨cs, hX⟩)
end Go.Proofs.YtgjjnkhkjnkahaaDoor
