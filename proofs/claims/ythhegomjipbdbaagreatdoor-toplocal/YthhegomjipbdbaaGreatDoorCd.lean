import Derived.Test.YthhegomjipbdbaaGreatDoorCards
import Derived.Test.YthhegomjipbdbaaGreatDoorTie
import Derived.Test.YthhegomjipbdbaaGreatDoorG9Z
import Derived.ProofKit
import Derived.OpenShut
import Derived.ShutString
import Derived.SizedLaws
import Derived.Deep.DeepHandedRow
import Derived.Lib.LaidTab
namespace Go.Proofs.YthhegomjipbdbaaGreatDoor.Cd
open Go.ChangeShapes Go.WideShapes Go.ChangeAt Go.RowKit

theorem own : ownKnob Tryz.prog.godebug = none := by kernel_rfl
theorem laidOut : laidOutB Tryz.prog = true := by kernel_rfl
theorem gTab : Tryz.prog.globalNamed "dailies/golomb.widths" = some 0 := by kernel_rfl
theorem gTabType : (Tryz.prog.globals[0]?).map (·.type) = some 238 := by kernel_rfl
theorem cells123 : Tryz.prog.cellsOf 238 = 23 := by kernel_rfl
theorem cells3 : Tryz.prog.cellsOf 3 = 1 := by kernel_rfl
theorem bytes3 : Tryz.prog.bytesOf 3 = 8 := by kernel_rfl

/-- The table, as the rows list it. -/
def zs : List Int := [0, 0, 0, 0, 1, 1, 1, 1, 2, 2, 2, 3, 3, 4, 4, 5, 6, 7, 8, 9, 10, 11, 12]

theorem tabIs {W : World} (h : laidMetH Tryz.prog [("dailies/golomb.widths", Rows.laid_dailies_golomb_widths)] W) : Lib.TabIs Tryz.prog W "dailies/golomb.widths" .i64 zs :=
  Lib.tabIs_of_head (rest := []) gTab gTabType Tryz.underlying238 Tryz.underlying3 cells3 cells123 h

theorem tab {W : World} (h : laidMetH Tryz.prog [("dailies/golomb.widths", Rows.laid_dailies_golomb_widths)] W) : Tab W := fun i hi => by
  have hc := (tabIs h).cell gTab i (by simpa [zs] using hi)
  have hz : ∀ x : Fin 23, zs.getD x.1 0 = (J x.1 : Int) := by decide
  have hz2 := hz ⟨i, hi⟩
  simp only [] at hz2
  rw [← hz2]
  simpa using hc

/-- A world for the witness: the settled one, the table (block 0) as its initialiser lays it. -/
theorem laid_met (os : Os) (args : Array Value) : laidMet Tryz.prog [("dailies/golomb.widths", Rows.laid_dailies_golomb_widths)] (({ World.holding Tryz.prog os ⟨#[], #[], []⟩ with heap := (World.holding Tryz.prog os ⟨#[], #[], []⟩).heap.modify 0 fun
      | .cells _ t frozen => .cells #[.int .i64 0, .int .i64 0, .int .i64 0, .int .i64 0, .int .i64 1, .int .i64 1, .int .i64 1, .int .i64 1, .int .i64 2, .int .i64 2, .int .i64 2, .int .i64 3, .int .i64 3, .int .i64 4, .int .i64 4, .int .i64 5, .int .i64 6, .int .i64 7, .int .i64 8, .int .i64 9, .int .i64 10, .int .i64 11, .int .i64 12] t frozen
      | o => o } : World).forCall (fun _ _ => 0) ⟨#[], args, []⟩).memory :=
  laidMet_of_run' 30 (by kernel_rfl) (by kernel_rfl)

end Go.Proofs.YthhegomjipbdbaaGreatDoor.Cd
