/-
  DERIVED. GIVEN WITH THE SEED: THE CARDS: each row of YtahoeodpjdbdkabDoorRows.lean that lists a variable, with what it lists TIED to the program's text (the seventh form; the later family's looks); each row that meets fmt, with fmt's text TOLD by the authors' own Lean function (tested against real Go, not proved from fmt's source: count such statements apart). THE CARD IS WHAT COUNTS. Prove the row's statement (the work); the ties are given (YtahoeodpjdbdkabDoorTie.lean); close each card by the builder's one call (the guide's Derived/Test/ToyasCard.lean, 'card_holds'). Laid BY PROGRAM, IN A SANDBOX (cutbox-door.mjs). By AI agents, Wed Nov 11 2026. No macro, syntax, notation, axiom, sorry.
-/
import Derived.Test.YtahoeodpjdbdkabDoorRows
import GoSem.ClaimSeven
namespace Go.Proofs.YtahoeodpjdbdkabDoor
namespace Rows

/-- THE TIED CARD OF 'dailieslaw10.SliceWhole'. -/
def sliceWholeCard : Claim7 := { stood := { row := sliceWholeRow, standIns := [], harness := (true, "547529cd41a57a6874fe4f4decd07848a73b0d3ad765237d06a0531b54ebecc4"), looks := true }, kinds := [], alts := [], laidByText := true, laidKinds := [.data], laidTests := true, laidLooks := .later }
def SliceWholeCardSaid : Prop := Claim7.holds Tryd.pinned (.plain (OpenSpec.ofChange sliceWholeSpec)) sliceWholeCard

/-- THE TIED CARD OF 'dailieslaw10.SliceAny'. -/
def sliceAnyCard : Claim7 := { stood := { row := sliceAnyRow, standIns := [], harness := (true, "547529cd41a57a6874fe4f4decd07848a73b0d3ad765237d06a0531b54ebecc4"), looks := true }, kinds := [], alts := [], laidByText := true, laidKinds := [.data], laidTests := true, laidLooks := .later }
def SliceAnyCardSaid : Prop := Claim7.holds Tryd.pinned (.plain (OpenSpec.ofChange sliceAnySpec)) sliceAnyCard

/-- THE TIED CARD OF 'dailieslaw10.SliceFlat'. -/
def sliceFlatCard : Claim7 := { stood := { row := sliceFlatRow, standIns := [], harness := (true, "547529cd41a57a6874fe4f4decd07848a73b0d3ad765237d06a0531b54ebecc4"), looks := true }, kinds := [], alts := [], laidByText := true, laidKinds := [.data], laidTests := true, laidLooks := .later }
def SliceFlatCardSaid : Prop := Claim7.holds Tryd.pinned (.plain (OpenSpec.ofChange sliceFlatSpec)) sliceFlatCard

/-- THE SECOND FORM's CARD OF 'dailieslaw10.SliceWhole'. -/
def sliceWholeUptoCard : Claim7 := { stood := { row := sliceWholeUptoRow, standIns := [], harness := (true, "547529cd41a57a6874fe4f4decd07848a73b0d3ad765237d06a0531b54ebecc4"), looks := true }, kinds := [], alts := [], laidByText := true, laidKinds := [.data], laidTests := true, laidLooks := .later }
def SliceWholeUptoCardSaid : Prop := Claim7.holds Tryd.pinned (.plain (OpenSpec.upto sliceWholeSpec)) sliceWholeUptoCard

/-- THE SECOND FORM's CARD OF 'dailieslaw10.SliceAny'. -/
def sliceAnyUptoCard : Claim7 := { stood := { row := sliceAnyUptoRow, standIns := [], harness := (true, "547529cd41a57a6874fe4f4decd07848a73b0d3ad765237d06a0531b54ebecc4"), looks := true }, kinds := [], alts := [], laidByText := true, laidKinds := [.data], laidTests := true, laidLooks := .later }
def SliceAnyUptoCardSaid : Prop := Claim7.holds Tryd.pinned (.plain (OpenSpec.upto sliceAnySpec)) sliceAnyUptoCard

/-- THE SECOND FORM's CARD OF 'dailieslaw10.SliceFlat'. -/
def sliceFlatUptoCard : Claim7 := { stood := { row := sliceFlatUptoRow, standIns := [], harness := (true, "547529cd41a57a6874fe4f4decd07848a73b0d3ad765237d06a0531b54ebecc4"), looks := true }, kinds := [], alts := [], laidByText := true, laidKinds := [.data], laidTests := true, laidLooks := .later }
def SliceFlatUptoCardSaid : Prop := Claim7.holds Tryd.pinned (.plain (OpenSpec.upto sliceFlatSpec)) sliceFlatUptoCard
end Rows
end Go.Proofs.YtahoeodpjdbdkabDoor
