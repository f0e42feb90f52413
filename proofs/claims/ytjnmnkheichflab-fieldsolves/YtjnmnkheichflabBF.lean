import Derived.Test.YtjnmnkheichflabQ1
import Derived.Test.YtjnmnkheichflabSm
namespace Go.Proofs.Ytjnmnkheichflab
open Go.RowKit

theorem row_form {w : World} {base : Nat} {e : TypeId} {size : Nat} {v : Value} {n : Nat} {xs : List Value} (h : w.ownsRow base e size v n xs) : ∃ ao cap, v = .slice ao n cap := by
  rcases h.2 with ⟨rfl, rfl⟩ | ⟨g, cap, cur, rfl, _⟩
  · exact ⟨_, _, rfl⟩
  · exact ⟨_, _, rfl⟩
theorem wp_gen {P : Program} {c : Code} {Q : Exit → Act → World → Prop} {a : Act} {w0 : World} (R : World → Prop) (h0 : R w0) (h : ∀ W, R W → c.wp P Q a W) : c.wp P Q a w0 := h w0 h0
theorem cells_two {w : World} {B : Nat} {a b : Value} {t : TypeId} (h : w.heap[B]? = some (.cells #[a, b] t (0, 0))) :
    w.cell? ⟨B, 0, none⟩ = some a ∧ w.cell? ⟨B, 1, none⟩ = some b ∧ ∀ i, w.frozen? ⟨B, i, none⟩ = false := by
  refine ⟨?_, ?_, ?_⟩ <;> simp [World.cell?, World.frozen?, h]
theorem row_some {w : World} {base e n : Nat} {v : Value} {xs : List Value} (h : w.ownsRow base e 1 v n xs) (hn : 0 < n) : ∃ g cap, v = .slice (some ⟨g, 0, none⟩) n cap := by
  rcases h.2 with ⟨_, h1⟩ | ⟨g, cap, cur, h1, _⟩
  · omega
  · exact ⟨g, cap, h1⟩
theorem reads_str' {w : World} {ao : Option Addr} {l : List Nat} {m : Nat} (h : Reads w ao l) (hm : l.length = m) (cap : Nat) : Sem.run Try.prog (convert 31 9 (.slice ao m cap)) w = .ok (.string (bstr l)) w := by
  subst hm; exact reads_str h cap

/-- A list of bytes that fills its row, or nil. -/
def Lst (w : World) (v : Value) (l : List Nat) : Prop :=
  (v = .slice none 0 0 ∧ l = []) ∨ ∃ g, v = .slice (some ⟨g, 0, none⟩) l.length l.length ∧ w.heap[g]? = some (.cells (l.map byt).toArray 5 (0, 0))
theorem Lst.reads {w : World} {v : Value} {l : List Nat} (h : Lst w v l) : ∃ ao, v = .slice ao l.length l.length ∧ Reads w ao l := by
  rcases h with ⟨rfl, rfl⟩ | ⟨g, rfl, hg⟩
  · exact ⟨none, rfl, .inl rfl⟩
  · refine ⟨_, rfl, .inr ⟨g, 0, rfl, fun i hi => ?_⟩⟩
    simp [World.cell?, hg, hi]
theorem Lst.kept {w w' : World} {v : Value} {l : List Nat} {ks : List Nat} (h : Lst w v l) (hk : Kept ks w w') (hn : ∀ g, v.ownBlock = some g → g ∉ ks) : Lst w' v l := by
  rcases h with h | ⟨g, rfl, hg⟩
  · exact .inl h
  · exact .inr ⟨g, rfl, hk.heap hg (hn g rfl)⟩
theorem Lst.keep {w w' : World} {v : Value} {l : List Nat} (h : Lst w v l) (hk : Kept [] w w') : Lst w' v l := h.kept hk (by simp)
theorem Lst.str {w : World} {v : Value} {l : List Nat} (h : Lst w v l) : Sem.run Try.prog (convert 31 9 v) w = .ok (.string (bstr l)) w := by
  obtain ⟨ao, rfl, hr⟩ := h.reads
  exact reads_str hr _
end Go.Proofs.Ytjnmnkheichflab
