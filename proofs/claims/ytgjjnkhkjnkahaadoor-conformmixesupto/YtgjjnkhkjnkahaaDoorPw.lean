import Derived.Test.YtgjjnkhkjnkahaaDoorPy
namespace Go.Proofs.YtgjjnkhkjnkahaaDoor
open Go.RowKit

theorem own5_form {w : World} {B n : Nat} {V : Value} {xs : List Value} (h : w.ownsRow B 29 5 V n xs) : ∃ ao c, V = .slice ao n c := by
  rcases h.2 with ⟨rfl, rfl⟩ | ⟨g, cap, cur, rfl, _⟩
  · exact ⟨_, _, rfl⟩
  · exact ⟨_, _, rfl⟩
/-- A frame of a list of frames. -/
theorem own5_at {w : World} {B q : Nat} {ao : Option Addr} {c : Nat} {O : List Fm} {x : Fm} (h : w.ownsRow B 29 5 (.slice ao O.length c) O.length (O.flatMap fmc)) (hx : O[q]? = some x) : ∃ g, ao = some ⟨g, 0, none⟩ ∧ w.cell? ⟨g, q * 5, none⟩ = some (.int .i64 x.W) ∧ w.cell? ⟨g, q * 5 + 1, none⟩ = some (.int .i64 x.H) ∧ w.cell? ⟨g, q * 5 + 2, none⟩ = some (.int .i64 x.D) ∧ w.cell? ⟨g, q * 5 + 3, none⟩ = some (.bool x.A) ∧ w.cell? ⟨g, q * 5 + 4, none⟩ = some x.V := by
  rcases h.2 with ⟨_, h0⟩ | ⟨g, cap, cur, e, _⟩
  · have := (List.getElem?_eq_some_iff.1 hx).1
    omega
  · cases e
    have f : ∀ j, j < 5 → ∀ v, (fmc x)[j]? = some v → w.cell? ⟨g, q * 5 + j, none⟩ = some v := fun j hj v hv => by
      have hc := h.cells (g := g) rfl (q * 5 + j) v (by rw [fmc_at hx j hj]; exact hv)
      rw [show (⟨g, 0, none⟩ : Addr).add (q * 5 + j) = ⟨g, 0 + (q * 5 + j), none⟩ by unfold Addr.add; split <;> simp_all, Nat.zero_add] at hc
      exact hc
    exact ⟨g, rfl, f 0 (by omega) _ rfl, f 1 (by omega) _ rfl, f 2 (by omega) _ rfl, f 3 (by omega) _ rfl, f 4 (by omega) _ rfl⟩
end Go.Proofs.YtgjjnkhkjnkahaaDoor
