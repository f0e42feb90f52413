import Derived.Test.YtkjhegedkamjaaaRb
import Derived.Test.YtkjhegedkamjaaaAmn
namespace Go.Proofs.Ytkjhegedkamjaaa
open Go.RowKit

/-- Three marks are taken at the return. -/
theorem marks3 (w X0 : World) (a b c g : Nat) (x1 : X0.heap[a]? = some (.deferred (some []))) (x2 : X0.heap[b]? = some (.deferred (some []))) (x3 : X0.heap[c]? = some (.deferred (some [])))
    (x4 : X0.heap[g]? = some (.cells (#[Value.bool false].setIfInBounds 0 (.bool true)) 4 (0, 0))) (KX : Kept [] w X0)
    (hne : a ≠ b ∧ a ≠ c ∧ b ≠ c ∧ g ≠ a ∧ g ≠ b ∧ g ≠ c) (ha : w.heap.size ≤ a) (hb : w.heap.size ≤ b) (hc : w.heap.size ≤ c) :
    ∃ X1 X2 X3, (Instr.takeDeferred a).run Try.prog X0 = .ok [] X1 ∧ (Instr.takeDeferred b).run Try.prog X1 = .ok [] X2 ∧ (Instr.takeDeferred c).run Try.prog X2 = .ok [] X3 ∧ X3.cell? ⟨g, 0, none⟩ = some (.bool true) ∧ Kept [] w X3 := by
  obtain ⟨n1, n2, n3, n4, n5, n6⟩ := hne
  have y2 : (X0.putObj a (.deferred none)).heap[b]? = some (.deferred (some [])) := by rw [World.putObj_heap_other (by omega)]; exact x2
  have y3 : (X0.putObj a (.deferred none)).heap[c]? = some (.deferred (some [])) := by rw [World.putObj_heap_other (by omega)]; exact x3
  have y4 : (X0.putObj a (.deferred none)).heap[g]? = some (.cells (#[Value.bool false].setIfInBounds 0 (.bool true)) 4 (0, 0)) := by rw [World.putObj_heap_other (by omega)]; exact x4
  have z3 : ((X0.putObj a (.deferred none)).putObj b (.deferred none)).heap[c]? = some (.deferred (some [])) := by rw [World.putObj_heap_other (by omega)]; exact y3
  have z4 : ((X0.putObj a (.deferred none)).putObj b (.deferred none)).heap[g]? = some (.cells (#[Value.bool false].setIfInBounds 0 (.bool true)) 4 (0, 0)) := by rw [World.putObj_heap_other (by omega)]; exact y4
  have u4 : (((X0.putObj a (.deferred none)).putObj b (.deferred none)).putObj c (.deferred none)).heap[g]? = some (.cells (#[Value.bool false].setIfInBounds 0 (.bool true)) 4 (0, 0)) := by rw [World.putObj_heap_other (by omega)]; exact z4
  refine ⟨_, _, _, run_takeDeferred x1, run_takeDeferred y2, run_takeDeferred z3, ?_, ?_⟩
  · rw [cell_of_row _ _ _ _ _ _ u4]; rfl
  · exact ((KX.putObj _ (.inr ha)).putObj _ (.inr hb)).putObj _ (.inr hc)
end Go.Proofs.Ytkjhegedkamjaaa
