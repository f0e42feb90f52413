import Derived.Test.YtgjjnkhkjnkahaaDoorPw
namespace Go.Proofs.YtgjjnkhkjnkahaaDoor
open Go.RowKit

/-- A frame's rows, and those of all. -/
def rw1 (x : Fm) : List (Nat × Nat) := (List.range x.n).map (fun p => (x.bs p, x.ln p))
def rws (O : List Fm) : List (Nat × Nat) := O.flatMap rw1
def sv (r : Nat × Nat) : Value := slv r.1 r.2 r.2
theorem rw1_sv (x : Fm) : (rw1 x).map sv = fl (fun p => slv (x.bs p) (x.ln p) (x.ln p)) x.n := by
  unfold rw1 fl sv
  rw [List.map_map]
  rfl
theorem rws_snoc {O : List Fm} {q : Nat} {x : Fm} (hx : O[q]? = some x) : rws (O.take (q + 1)) = rws (O.take q) ++ rw1 x := by
  obtain ⟨h1, h2⟩ := List.getElem?_eq_some_iff.1 hx
  rw [← List.take_append_getElem h1, h2]
  simp [rws]
theorem rws_le {O : List Fm} (h : ∀ x ∈ O, x.n ≤ 4) : (rws O).length ≤ 4 * O.length := by
  induction O with
  | nil => simp [rws]
  | cons x t ih =>
    have h1 := h x (by simp)
    have h2 := ih (fun y hy => h y (by simp [hy]))
    simp only [rws, List.flatMap_cons, List.length_append, List.length_cons] at h2 ⊢
    simp only [rw1, List.length_map, List.length_range]
    omega
theorem gx_src {B : Nat} {w : World} {V : Value} {k : Nat} {bs ln : Nat → Nat} {F : Nat → Nat → Nat} (h : Gx B w V k bs ln F) : ∃ ao c, V = .slice ao k c ∧ Sv w ao k (fun i => slv (bs i) (ln i) (ln i)) ∧ (ao = none → k = 0 ∧ c = 0) := by
  obtain ⟨ao, c, e, hs, -, hn⟩ := own_sv h.own
  refine ⟨ao, c, e, hs, fun e0 => ⟨?_, hn e0⟩⟩
  rcases hs with h0 | ⟨g, off, e2, _⟩
  · exact h0
  · rw [e0] at e2; cases e2
end Go.Proofs.YtgjjnkhkjnkahaaDoor
