/-
  DERIVED. GIVEN WITH THE SEED: THE CARDS: each row of YthhcihcgefeblabDoorRows.lean that lists a variable, with what it lists TIED to the program's text (the seventh form; the later family's looks); each row that meets fmt, with fmt's text TOLD by the authors' own Lean function (tested against real Go, not proved from fmt's source: count such statements apart). THE CARD IS WHAT COUNTS. Prove the row's statement (the work); the ties are given (YthhcihcgefeblabDoorTie.lean); close each card by the builder's one call (the guide's Derived/Test/ToyasCard.lean, 'card_holds'). Laid BY PROGRAM, IN A SANDBOX (cutbox-door.mjs). By AI agents, Wed Nov 11 2026. No macro, syntax, notation, axiom, sorry.
-/
import Derived.Test.YthhcihcgefeblabDoorRows
import GoSem.ClaimSeven
namespace Go.Proofs.YthhcihcgefeblabDoor
namespace Rows

/-- THE TIED CARD OF 'dailieslaw02.GolombAgain'. -/
def golombAgainCard : Claim7 := { stood := { row := golombAgainRow, standIns := [], harness := (true, "2137f5d2040f90ca07421709b8b28cf7bb3fe0eb9226ccbc0542589ff48b8b85"), looks := false }, kinds := [], alts := [], laidByText := true, laidKinds := [.data], laidTests := true, laidLooks := .later }
def GolombAgainCardSaid : Prop := Claim7.holds Tryd.pinned (.plain (OpenSpec.ofChange golombAgainSpec)) golombAgainCard

/-- THE SECOND FORM's CARD OF 'dailieslaw02.GolombAgain'. -/
def golombAgainUptoCard : Claim7 := { stood := { row := golombAgainUptoRow, standIns := [], harness := (true, "2137f5d2040f90ca07421709b8b28cf7bb3fe0eb9226ccbc0542589ff48b8b85"), looks := false }, kinds := [], alts := [], laidByText := true, laidKinds := [.data], laidTests := true, laidLooks := .later }
def GolombAgainUptoCardSaid : Prop := Claim7.holds Tryd.pinned (.plain (OpenSpec.upto golombAgainSpec)) golombAgainUptoCard
end Rows
end Go.Proofs.YthhcihcgefeblabDoor
