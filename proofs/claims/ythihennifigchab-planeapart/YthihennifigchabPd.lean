import Derived.Test.YthihennifigchabPc
import Derived.Test.YthihennifigchabLd
namespace Go.Proofs.Ythihennifigchab
open Go.RowKit

theorem Ln.keep0 {w0 w w' : World} {LB : Nat} {V : Value} {n : Nat} {bs ln : Nat → Nat} {F : Nat → Nat → Nat} (h : Ln w0 w LB V n bs ln F) (hk : Kept [] w w') : Ln w0 w' LB V n bs ln F :=
  ⟨hk.heap h.lst (by simp), h.all.keep0 hk, h.new, h.oth, h.kept.trans hk⟩
theorem Ln.pl {w0 w : World} {LB : Nat} {V : Value} {n : Nat} {bs ln : Nat → Nat} {F : Nat → Nat → Nat} (h : Ln w0 w LB V n bs ln F) : Pl w (some ⟨LB, 0, none⟩) n ln F := by
  refine .inr ⟨LB, 0, rfl, fun i hi => ⟨some ⟨bs i, 0, none⟩, ln i + 7, ?_, .inr ⟨bs i, 0, rfl, fun j hj => ?_⟩⟩⟩
  · rw [Nat.zero_add, cell_of_row _ _ _ _ _ _ h.lst, List.getElem?_toArray, fl_at _ _ _ (by omega)]
    unfold lsC
    rw [if_pos hi]
  · rw [Nat.zero_add]
    exact (h.all.row i hi).at (by omega)
theorem Ln.plF {w0 w : World} {LB : Nat} {V : Value} {n : Nat} {bs ln : Nat → Nat} {F : Nat → Nat → Nat} (h : Ln w0 w LB V n bs ln (fun i => ltF (F i) (ln i))) : Pl w (some ⟨LB, 0, none⟩) n ln F := by
  rcases h.pl with h0 | ⟨g, off, e, hc⟩
  · exact .inl h0
  · refine .inr ⟨g, off, e, fun i hi => ?_⟩
    obtain ⟨bo, c, h1, h2⟩ := hc i hi
    exact ⟨bo, c, h1, h2.congr (fun j hj => if_pos hj)⟩
/-- Samples beyond what is there are none. -/
theorem Pc.nice {w : World} {po : Option Addr} {n : Nat} {ln : Nat → Nat} {F : Nat → Nat → Nat} (h : Pc w po n ln F) (hF : ∀ i, i < n → ∀ j, j < ln i → F i j < 65536) : ∃ G, Pc w po n ln G ∧ ∀ i j, G i j < 65536 := by
  refine ⟨fun i j => if i < n ∧ j < ln i then F i j else 0, ?_, fun i j => ?_⟩
  · rcases h with h | ⟨g, off, e, hc⟩
    · exact .inl h
    · refine .inr ⟨g, off, e, fun i hi => ?_⟩
      obtain ⟨bo, c, h1, h2, h3⟩ := hc i hi
      exact ⟨bo, c, h1, h2, h3.congr (fun j hj => (if_pos ⟨hi, hj⟩).symm)⟩
  · show (if i < n ∧ j < ln i then F i j else 0) < 65536
    split
    · rename_i h; exact hF i h.1 j h.2
    · decide
/-- Writes to blocks of others, behind its beginning, leave it. -/
theorem Ln.keepH {w0 w w' : World} {LB : Nat} {V : Value} {n : Nat} {bs ln : Nat → Nat} {F : Nat → Nat → Nat} {ks : List Nat} (h : Ln w0 w LB V n bs ln F) (hk : Kept ks w w') (h1 : LB ∉ ks) (h2 : ∀ g, V.ownBlock = some g → g ∉ ks) (h3 : ∀ i, i < n → bs i ∉ ks) (h4 : ∀ x ∈ ks, w0.heap.size ≤ x) : Ln w0 w' LB V n bs ln F :=
  ⟨hk.heap h.lst h1, h.all.keep hk h2 h3, h.new, h.oth, h.kept.step hk (fun x hx => .inr (h4 x hx))⟩
/-- Writes to what was there ahead of it leave it, seen from another beginning. -/
theorem Ln.keepR {w0 w w' : World} {LB : Nat} {V : Value} {n : Nat} {bs ln : Nat → Nat} {F : Nat → Nat → Nat} {ks : List Nat} (h : Ln w0 w LB V n bs ln F) (hk : Kept ks w w') (hs : ∀ x ∈ ks, x < w0.heap.size) : ∃ w0' : World, w0'.heap.size = w0.heap.size ∧ Ln w0' w' LB V n bs ln F := by
  have hsz : w0.heap.size ≤ w'.heap.size := Nat.le_trans h.kept.size hk.size
  have hz : (w'.heap.extract 0 w0.heap.size).size = w0.heap.size := by rw [Array.size_extract]; omega
  refine ⟨{ w' with heap := w'.heap.extract 0 w0.heap.size }, hz, ?_⟩
  have n1 : ∀ x, w0.heap.size ≤ x → x ∉ ks := fun x hx hm => by have := hs x hm; omega
  refine ⟨hk.heap h.lst (n1 LB h.new), ?_, ?_, h.oth, ?_⟩
  · have hg := h.all.keep hk (fun g hg => n1 g (own_lt h.all.own g hg).1) (fun i hi => n1 _ (h.all.lo i hi))
    rw [show ({ w' with heap := w'.heap.extract 0 w0.heap.size } : World).heap.size = w0.heap.size from hz]
    exact hg
  · rw [show ({ w' with heap := w'.heap.extract 0 w0.heap.size } : World).heap.size = w0.heap.size from hz]
    exact h.new
  · refine ⟨rfl, rfl, rfl, ?_, fun k hk2 _ => ?_⟩
    · show (w'.heap.extract 0 w0.heap.size).size ≤ w'.heap.size
      omega
    · have hk3 : k < w0.heap.size := by
        have : k < (w'.heap.extract 0 w0.heap.size).size := hk2
        omega
      show w'.heap[k]? = (w'.heap.extract 0 w0.heap.size)[k]?
      rw [Array.getElem?_extract]
      simp
      omega
theorem Ln.own {w0 w : World} {LB : Nat} {V : Value} {n : Nat} {bs ln : Nat → Nat} {F : Nat → Nat → Nat} (h : Ln w0 w LB V n bs ln F) : ∃ vo vc, V = .slice vo n vc := by
  rcases h.all.own.2 with ⟨e2, h0⟩ | ⟨g2, cap, cur, e2, _⟩
  · exact ⟨none, 0, by rw [e2, h0]⟩
  · exact ⟨_, _, e2⟩
end Go.Proofs.Ythihennifigchab
