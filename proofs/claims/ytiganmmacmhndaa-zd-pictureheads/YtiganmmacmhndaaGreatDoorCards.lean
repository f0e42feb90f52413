/-
  DERIVED. GIVEN WITH THE SEED: THE CARDS: each row of YtiganmmacmhndaaGreatDoorRows.lean that lists a variable, with what it lists TIED to the program's text (the seventh form; the later family's looks); each row that meets fmt, with fmt's text TOLD by the authors' own Lean function (tested against real Go, not proved from fmt's source: count such statements apart). THE CARD IS WHAT COUNTS. Prove the row's statement (the work); the ties are given (YtiganmmacmhndaaGreatDoorTie.lean); close each card by the builder's one call (the guide's Derived/Test/ToyasCard.lean, 'card_holds'). Laid BY PROGRAM, IN A SANDBOX (cutbox-door.mjs). By AI agents, Wed Nov 11 2026. No macro, syntax, notation, axiom, sorry.
-/
import Derived.Test.YtiganmmacmhndaaGreatDoorRows
import GoSem.ClaimSeven
namespace Go.Proofs.YtiganmmacmhndaaGreatDoor
namespace Rows

/-- THE TIED CARD OF 'dailieslaw12.PictureHeads'. -/
def pictureHeadsCard : Claim7 := { stood := { row := pictureHeadsRow, standIns := [], harness := (true, "95188ae234650f7e597211866bc12c4563a6a6a0ee2226568ad81eff925a38e9"), looks := true }, kinds := [], alts := [], laidByText := true, laidKinds := [.data], laidTests := true, laidLooks := .later }
def PictureHeadsCardSaid : Prop := Claim7.holds Tryz.pinned (.plain (OpenSpec.ofChange pictureHeadsSpec)) pictureHeadsCard

/-- THE TIED CARD OF 'dailieslaw12.PictureEnds'. -/
def pictureEndsCard : Claim7 := { stood := { row := pictureEndsRow, standIns := [], harness := (true, "95188ae234650f7e597211866bc12c4563a6a6a0ee2226568ad81eff925a38e9"), looks := true }, kinds := [], alts := [], laidByText := true, laidKinds := [.data], laidTests := true, laidLooks := .later }
def PictureEndsCardSaid : Prop := Claim7.holds Tryz.pinned (.plain (OpenSpec.ofChange pictureEndsSpec)) pictureEndsCard

/-- THE SECOND FORM's CARD OF 'dailieslaw12.PictureHeads'. -/
def pictureHeadsUptoCard : Claim7 := { stood := { row := pictureHeadsUptoRow, standIns := [], harness := (true, "95188ae234650f7e597211866bc12c4563a6a6a0ee2226568ad81eff925a38e9"), looks := true }, kinds := [], alts := [], laidByText := true, laidKinds := [.data], laidTests := true, laidLooks := .later }
def PictureHeadsUptoCardSaid : Prop := Claim7.holds Tryz.pinned (.plain (OpenSpec.upto pictureHeadsSpec)) pictureHeadsUptoCard

/-- THE SECOND FORM's CARD OF 'dailieslaw12.PictureEnds'. -/
def pictureEndsUptoCard : Claim7 := { stood := { row := pictureEndsUptoRow, standIns := [], harness := (true, "95188ae234650f7e597211866bc12c4563a6a6a0ee2226568ad81eff925a38e9"), looks := true }, kinds := [], alts := [], laidByText := true, laidKinds := [.data], laidTests := true, laidLooks := .later }
def PictureEndsUptoCardSaid : Prop := Claim7.holds Tryz.pinned (.plain (OpenSpec.upto pictureEndsSpec)) pictureEndsUptoCard
end Rows
end Go.Proofs.YtiganmmacmhndaaGreatDoor
