/-
  DERIVED. GIVEN WITH THE SEED: THE CARDS: each row of YthkpligodbkofaaGreatDoorRows.lean that lists a variable, with what it lists TIED to the program's text (the seventh form; the later family's looks); each row that meets fmt, with fmt's text TOLD by the authors' own Lean function (tested against real Go, not proved from fmt's source: count such statements apart). THE CARD IS WHAT COUNTS. Prove the row's statement (the work); the ties are given (YthkpligodbkofaaGreatDoorTie.lean); close each card by the builder's one call (the guide's Derived/Test/ToyasCard.lean, 'card_holds'). Laid BY PROGRAM, IN A SANDBOX (cutbox-door.mjs). By AI agents, Wed Nov 11 2026. No macro, syntax, notation, axiom, sorry.
-/
import Derived.Test.YthkpligodbkofaaGreatDoorRows
import GoSem.ClaimSeven
namespace Go.Proofs.YthkpligodbkofaaGreatDoor
namespace Rows

/-- THE TIED CARD OF 'dailieslaw12.PictureConfigs'. -/
def pictureConfigsCard : Claim7 := { stood := { row := pictureConfigsRow, standIns := [], harness := (true, "f9bb104e9eec93c94796ea3872f32dec8ae076aca6c3714ef7aa151f00e6b2d5"), looks := false }, kinds := [], alts := [], laidByText := true, laidKinds := [.data], laidTests := true, laidLooks := .later }
def PictureConfigsCardSaid : Prop := Claim7.holds Tryz.pinned (.plain (OpenSpec.ofChange pictureConfigsSpec)) pictureConfigsCard

/-- THE TIED CARD OF 'dailieslaw12.PictureLadder'. -/
def pictureLadderCard : Claim7 := { stood := { row := pictureLadderRow, standIns := [], harness := (true, "f9bb104e9eec93c94796ea3872f32dec8ae076aca6c3714ef7aa151f00e6b2d5"), looks := false }, kinds := [], alts := [], laidByText := true, laidKinds := [.data], laidTests := true, laidLooks := .later }
def PictureLadderCardSaid : Prop := Claim7.holds Tryz.pinned (.plain (OpenSpec.ofChange pictureLadderSpec)) pictureLadderCard

/-- THE TIED CARD OF 'dailieslaw12.PictureApart'. -/
def pictureApartCard : Claim7 := { stood := { row := pictureApartRow, standIns := [], harness := (true, "f9bb104e9eec93c94796ea3872f32dec8ae076aca6c3714ef7aa151f00e6b2d5"), looks := false }, kinds := [], alts := [], laidByText := true, laidKinds := [.data], laidTests := true, laidLooks := .later }
def PictureApartCardSaid : Prop := Claim7.holds Tryz.pinned (.plain (OpenSpec.ofChange pictureApartSpec)) pictureApartCard

/-- THE TIED CARD OF 'dailieslaw12.PictureTurned'. -/
def pictureTurnedCard : Claim7 := { stood := { row := pictureTurnedRow, standIns := [], harness := (true, "f9bb104e9eec93c94796ea3872f32dec8ae076aca6c3714ef7aa151f00e6b2d5"), looks := false }, kinds := [], alts := [], laidByText := true, laidKinds := [.data], laidTests := true, laidLooks := .later }
def PictureTurnedCardSaid : Prop := Claim7.holds Tryz.pinned (.plain (OpenSpec.ofChange pictureTurnedSpec)) pictureTurnedCard

/-- THE SECOND FORM's CARD OF 'dailieslaw12.PictureConfigs'. -/
def pictureConfigsUptoCard : Claim7 := { stood := { row := pictureConfigsUptoRow, standIns := [], harness := (true, "f9bb104e9eec93c94796ea3872f32dec8ae076aca6c3714ef7aa151f00e6b2d5"), looks := false }, kinds := [], alts := [], laidByText := true, laidKinds := [.data], laidTests := true, laidLooks := .later }
def PictureConfigsUptoCardSaid : Prop := Claim7.holds Tryz.pinned (.plain (OpenSpec.upto pictureConfigsSpec)) pictureConfigsUptoCard

/-- THE SECOND FORM's CARD OF 'dailieslaw12.PictureLadder'. -/
def pictureLadderUptoCard : Claim7 := { stood := { row := pictureLadderUptoRow, standIns := [], harness := (true, "f9bb104e9eec93c94796ea3872f32dec8ae076aca6c3714ef7aa151f00e6b2d5"), looks := false }, kinds := [], alts := [], laidByText := true, laidKinds := [.data], laidTests := true, laidLooks := .later }
def PictureLadderUptoCardSaid : Prop := Claim7.holds Tryz.pinned (.plain (OpenSpec.upto pictureLadderSpec)) pictureLadderUptoCard

/-- THE SECOND FORM's CARD OF 'dailieslaw12.PictureApart'. -/
def pictureApartUptoCard : Claim7 := { stood := { row := pictureApartUptoRow, standIns := [], harness := (true, "f9bb104e9eec93c94796ea3872f32dec8ae076aca6c3714ef7aa151f00e6b2d5"), looks := false }, kinds := [], alts := [], laidByText := true, laidKinds := [.data], laidTests := true, laidLooks := .later }
def PictureApartUptoCardSaid : Prop := Claim7.holds Tryz.pinned (.plain (OpenSpec.upto pictureApartSpec)) pictureApartUptoCard

/-- THE SECOND FORM's CARD OF 'dailieslaw12.PictureTurned'. -/
def pictureTurnedUptoCard : Claim7 := { stood := { row := pictureTurnedUptoRow, standIns := [], harness := (true, "f9bb104e9eec93c94796ea3872f32dec8ae076aca6c3714ef7aa151f00e6b2d5"), looks := false }, kinds := [], alts := [], laidByText := true, laidKinds := [.data], laidTests := true, laidLooks := .later }
def PictureTurnedUptoCardSaid : Prop := Claim7.holds Tryz.pinned (.plain (OpenSpec.upto pictureTurnedSpec)) pictureTurnedUptoCard
end Rows
end Go.Proofs.YthkpligodbkofaaGreatDoor
