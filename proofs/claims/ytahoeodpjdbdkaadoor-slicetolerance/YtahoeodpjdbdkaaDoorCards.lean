/-
  DERIVED. GIVEN WITH THE SEED: THE CARDS: each row of YtahoeodpjdbdkaaDoorRows.lean that lists a variable, with what it lists TIED to the program's text (the seventh form; the later family's looks); each row that meets fmt, with fmt's text TOLD by the authors' own Lean function (tested against real Go, not proved from fmt's source: count such statements apart). THE CARD IS WHAT COUNTS. Prove the row's statement (the work); the ties are given (YtahoeodpjdbdkaaDoorTie.lean); close each card by the builder's one call (the guide's Derived/Test/ToyasCard.lean, 'card_holds'). Laid BY PROGRAM, IN A SANDBOX (cutbox-door.mjs). By AI agents, Wed Nov 11 2026. No macro, syntax, notation, axiom, sorry.
-/
import Derived.Test.YtahoeodpjdbdkaaDoorRows
import GoSem.ClaimSeven
namespace Go.Proofs.YtahoeodpjdbdkaaDoor
namespace Rows

/-- THE TIED CARD OF 'dailieslaw10.SliceNames'. -/
def sliceNamesCard : Claim7 := { stood := { row := sliceNamesRow, standIns := [], harness := (true, "d51dcfeb9afa1233524f0c45f541a47f08df4e611f70ee88e7d90dc70b6e7df9"), looks := true }, kinds := [], alts := [], laidByText := true, laidKinds := [.data], laidTests := true, laidLooks := .later }
def SliceNamesCardSaid : Prop := Claim7.holds Tryd.pinned (.plain (OpenSpec.ofChange sliceNamesSpec)) sliceNamesCard

/-- THE TIED CARD OF 'dailieslaw10.SliceSizes'. -/
def sliceSizesCard : Claim7 := { stood := { row := sliceSizesRow, standIns := [], harness := (true, "d51dcfeb9afa1233524f0c45f541a47f08df4e611f70ee88e7d90dc70b6e7df9"), looks := true }, kinds := [], alts := [], laidByText := true, laidKinds := [.data], laidTests := true, laidLooks := .later }
def SliceSizesCardSaid : Prop := Claim7.holds Tryd.pinned (.plain (OpenSpec.ofChange sliceSizesSpec)) sliceSizesCard

/-- THE TIED CARD OF 'dailieslaw10.SliceTolerance'. -/
def sliceToleranceCard : Claim7 := { stood := { row := sliceToleranceRow, standIns := [], harness := (true, "d51dcfeb9afa1233524f0c45f541a47f08df4e611f70ee88e7d90dc70b6e7df9"), looks := true }, kinds := [], alts := [], laidByText := true, laidKinds := [.data], laidTests := true, laidLooks := .later }
def SliceToleranceCardSaid : Prop := Claim7.holds Tryd.pinned (.plain (OpenSpec.ofChange sliceToleranceSpec)) sliceToleranceCard

/-- THE TIED CARD OF 'dailieslaw10.SliceAgain'. -/
def sliceAgainCard : Claim7 := { stood := { row := sliceAgainRow, standIns := [], harness := (true, "d51dcfeb9afa1233524f0c45f541a47f08df4e611f70ee88e7d90dc70b6e7df9"), looks := true }, kinds := [], alts := [], laidByText := true, laidKinds := [.data], laidTests := true, laidLooks := .later }
def SliceAgainCardSaid : Prop := Claim7.holds Tryd.pinned (.plain (OpenSpec.ofChange sliceAgainSpec)) sliceAgainCard

/-- THE SECOND FORM's CARD OF 'dailieslaw10.SliceNames'. -/
def sliceNamesUptoCard : Claim7 := { stood := { row := sliceNamesUptoRow, standIns := [], harness := (true, "d51dcfeb9afa1233524f0c45f541a47f08df4e611f70ee88e7d90dc70b6e7df9"), looks := true }, kinds := [], alts := [], laidByText := true, laidKinds := [.data], laidTests := true, laidLooks := .later }
def SliceNamesUptoCardSaid : Prop := Claim7.holds Tryd.pinned (.plain (OpenSpec.upto sliceNamesSpec)) sliceNamesUptoCard

/-- THE SECOND FORM's CARD OF 'dailieslaw10.SliceSizes'. -/
def sliceSizesUptoCard : Claim7 := { stood := { row := sliceSizesUptoRow, standIns := [], harness := (true, "d51dcfeb9afa1233524f0c45f541a47f08df4e611f70ee88e7d90dc70b6e7df9"), looks := true }, kinds := [], alts := [], laidByText := true, laidKinds := [.data], laidTests := true, laidLooks := .later }
def SliceSizesUptoCardSaid : Prop := Claim7.holds Tryd.pinned (.plain (OpenSpec.upto sliceSizesSpec)) sliceSizesUptoCard

/-- THE SECOND FORM's CARD OF 'dailieslaw10.SliceTolerance'. -/
def sliceToleranceUptoCard : Claim7 := { stood := { row := sliceToleranceUptoRow, standIns := [], harness := (true, "d51dcfeb9afa1233524f0c45f541a47f08df4e611f70ee88e7d90dc70b6e7df9"), looks := true }, kinds := [], alts := [], laidByText := true, laidKinds := [.data], laidTests := true, laidLooks := .later }
def SliceToleranceUptoCardSaid : Prop := Claim7.holds Tryd.pinned (.plain (OpenSpec.upto sliceToleranceSpec)) sliceToleranceUptoCard

/-- THE SECOND FORM's CARD OF 'dailieslaw10.SliceAgain'. -/
def sliceAgainUptoCard : Claim7 := { stood := { row := sliceAgainUptoRow, standIns := [], harness := (true, "d51dcfeb9afa1233524f0c45f541a47f08df4e611f70ee88e7d90dc70b6e7df9"), looks := true }, kinds := [], alts := [], laidByText := true, laidKinds := [.data], laidTests := true, laidLooks := .later }
def SliceAgainUptoCardSaid : Prop := Claim7.holds Tryd.pinned (.plain (OpenSpec.upto sliceAgainSpec)) sliceAgainUptoCard
end Rows
end Go.Proofs.YtahoeodpjdbdkaaDoor
