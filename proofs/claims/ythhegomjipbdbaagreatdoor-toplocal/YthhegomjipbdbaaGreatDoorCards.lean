/-
  DERIVED. GIVEN WITH THE SEED: THE CARDS: each row of YthhegomjipbdbaaGreatDoorRows.lean that lists a variable, with what it lists TIED to the program's text (the seventh form; the later family's looks); each row that meets fmt, with fmt's text TOLD by the authors' own Lean function (tested against real Go, not proved from fmt's source: count such statements apart). THE CARD IS WHAT COUNTS. Prove the row's statement (the work); the ties are given (YthhegomjipbdbaaGreatDoorTie.lean); close each card by the builder's one call (the guide's Derived/Test/ToyasCard.lean, 'card_holds'). Laid BY PROGRAM, IN A SANDBOX (cutbox-door.mjs). By AI agents, Wed Nov 11 2026. No macro, syntax, notation, axiom, sorry.
-/
import Derived.Test.YthhegomjipbdbaaGreatDoorRows
import GoSem.ClaimSeven
namespace Go.Proofs.YthhegomjipbdbaaGreatDoor
namespace Rows

/-- THE TIED CARD OF 'dailieslaw12.PictureTables'. -/
def pictureTablesCard : Claim7 := { stood := { row := pictureTablesRow, standIns := [], harness := (true, "f330d477e8f6bb7e712c910d0ea634a2608fb9fd453e8ac897e43342eed549d6"), looks := false }, kinds := [], alts := [], laidByText := true, laidKinds := [.data], laidTests := true, laidLooks := .later }
def PictureTablesCardSaid : Prop := Claim7.holds Tryz.pinned (.plain (OpenSpec.ofChange pictureTablesSpec)) pictureTablesCard

/-- THE TIED CARD OF 'dailiestop.TopLocal'. -/
def topLocalCard : Claim7 := { stood := { row := topLocalRow, standIns := [], harness := (true, "f330d477e8f6bb7e712c910d0ea634a2608fb9fd453e8ac897e43342eed549d6"), looks := false }, kinds := [], alts := [], laidByText := true, laidKinds := [.data], laidTests := true, laidLooks := .later }
def TopLocalCardSaid : Prop := Claim7.holds Tryz.pinned (.plain (OpenSpec.ofChange topLocalSpec)) topLocalCard

/-- THE SECOND FORM's CARD OF 'dailieslaw12.PictureTables'. -/
def pictureTablesUptoCard : Claim7 := { stood := { row := pictureTablesUptoRow, standIns := [], harness := (true, "f330d477e8f6bb7e712c910d0ea634a2608fb9fd453e8ac897e43342eed549d6"), looks := false }, kinds := [], alts := [], laidByText := true, laidKinds := [.data], laidTests := true, laidLooks := .later }
def PictureTablesUptoCardSaid : Prop := Claim7.holds Tryz.pinned (.plain (OpenSpec.upto pictureTablesSpec)) pictureTablesUptoCard

/-- THE SECOND FORM's CARD OF 'dailiestop.TopLocal'. -/
def topLocalUptoCard : Claim7 := { stood := { row := topLocalUptoRow, standIns := [], harness := (true, "f330d477e8f6bb7e712c910d0ea634a2608fb9fd453e8ac897e43342eed549d6"), looks := false }, kinds := [], alts := [], laidByText := true, laidKinds := [.data], laidTests := true, laidLooks := .later }
def TopLocalUptoCardSaid : Prop := Claim7.holds Tryz.pinned (.plain (OpenSpec.upto topLocalSpec)) topLocalUptoCard
end Rows
end Go.Proofs.YthhegomjipbdbaaGreatDoor
