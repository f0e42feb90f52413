import Derived.Test.YtkjhegedkamjaaaQ1
namespace Go.Proofs.Ytkjhegedkamjaaa
open Go.RowKit

/-- A Bool that lies in a cell, as the result. -/
theorem results_bool {fn : Func} {p : Tmp} (h : fn.results = #[.cell p 4]) (tmps : Array Value) (w : World) (g : Nat) (v : Value)
    (hp : tmps.getD p undef = .pointer (some ⟨g, 0, none⟩)) (hv : w.cell? ⟨g, 0, none⟩ = some v) : (results fn tmps).run Try.prog w = .ok v w := by
  have hp2 : tmps[p]?.getD undef = .pointer (some ⟨g, 0, none⟩) := by rw [← hp]; simp
  simp [results, h, hp2, hv, asAddr, go_sem]
end Go.Proofs.Ytkjhegedkamjaaa
