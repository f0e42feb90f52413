import Derived.Test.YtgjjnkhkjnkahaaDoorPz
namespace Go.Proofs.YtgjjnkhkjnkahaaDoor
open Go.RowKit

/-- Rows of another copy are written. -/
theorem Cz.other {B B2 : Nat} {w w' : World} {V V2 : Value} {n n2 : Nat} {gs cs ln gs2 cs2 ln2 : Nat → Nat} {F F2 : Nat → Nat → Nat} (h : Cz B w V n gs cs ln F) (h2 : Cz B2 w V2 n2 gs2 cs2 ln2 F2) (hlt : ∀ i, i < n → gs i < B2) (hk : Kept (rbs gs2 n2) w w') : Cz B w' V n gs cs ln F := by
  refine ⟨hk.row h.own (fun g hg hm => ?_), fun i hi => ?_, h.mon⟩
  · obtain ⟨i, hi, rfl⟩ := mem_rbs.1 hm
    exact own_wr h.own (h2.row i hi).2.2 hg
  · obtain ⟨h3, h4, h5⟩ := h.row i hi
    refine ⟨h3, h4, h5.keep hk (fun hm => ?_)⟩
    obtain ⟨j, hj, e⟩ := mem_rbs.1 hm
    have := (h2.row j hj).2.1
    have := hlt i hi
    omega
/-- Older blocks are written. -/
theorem Fmk.keepb {B : Nat} {w w' : World} {y : Fm} {ks : List Nat} (h : Fmk B w y) (hk : Kept ks w w') (hs : ∀ x ∈ ks, x < B) : Fmk B w' y := by
  refine Gx.keep h hk (fun g hg hm => ?_) (fun i hi hm => ?_)
  · have := hs g hm
    rcases h.own.2 with ⟨e, _⟩ | ⟨g2, cap, cur, e, hb, _⟩
    · rw [e] at hg; simp [Value.ownBlock] at hg
    · rw [e] at hg; simp [Value.ownBlock] at hg; subst hg; omega
  · have := hs _ hm
    have := h.lo i hi
    omega
theorem Cz.lt {B : Nat} {w : World} {V : Value} {n : Nat} {gs cs ln : Nat → Nat} {F : Nat → Nat → Nat} (h : Cz B w V n gs cs ln F) : ∀ x ∈ rbs gs n, x < w.heap.size := fun x hx => by
  obtain ⟨i, hi, rfl⟩ := mem_rbs.1 hx
  exact (h.row i hi).2.2.lt
theorem Cz.ge {B : Nat} {w : World} {V : Value} {n : Nat} {gs cs ln : Nat → Nat} {F : Nat → Nat → Nat} (h : Cz B w V n gs cs ln F) : ∀ x ∈ rbs gs n, B ≤ x := fun x hx => by
  obtain ⟨i, hi, rfl⟩ := mem_rbs.1 hx
  exact (h.row i hi).2.1
end Go.Proofs.YtgjjnkhkjnkahaaDoor
