/-
  DERIVED. GIVEN WITH THE SEED: THE CARDS: each row of YtbhhkcgicajlcaaGreatDoorRows.lean that lists a variable, with what it lists TIED to the program's text (the seventh form; the later family's looks); each row that meets fmt, with fmt's text TOLD by the authors' own Lean function (tested against real Go, not proved from fmt's source: count such statements apart). THE CARD IS WHAT COUNTS. Prove the row's statement (the work); the ties are given (YtbhhkcgicajlcaaGreatDoorTie.lean); close each card by the builder's one call (the guide's Derived/Test/ToyasCard.lean, 'card_holds'). Laid BY PROGRAM, IN A SANDBOX (cutbox-door.mjs). By AI agents, Wed Nov 11 2026. No macro, syntax, notation, axiom, sorry.
-/
import Derived.Test.YtbhhkcgicajlcaaGreatDoorRows
import GoSem.ClaimSeven
namespace Go.Proofs.YtbhhkcgicajlcaaGreatDoor
namespace Rows

/-- THE TIED CARD OF 'dailiestop.TopLadder'. -/
def topLadderCard : Claim7 := { stood := { row := topLadderRow, standIns := [], harness := (true, "10fe7ad344b24007404ee266f48e17995b9e99c866e9b4fadd88d5a29c219478"), looks := false }, kinds := [], alts := [], laidByText := true, laidKinds := [.data], laidTests := true, laidLooks := .later }
def TopLadderCardSaid : Prop := Claim7.holds Tryz.pinned (.plain (OpenSpec.ofChange topLadderSpec)) topLadderCard

/-- THE TIED CARD OF 'dailiestop.TopLocal'. -/
def topLocalCard : Claim7 := { stood := { row := topLocalRow, standIns := [], harness := (true, "10fe7ad344b24007404ee266f48e17995b9e99c866e9b4fadd88d5a29c219478"), looks := false }, kinds := [], alts := [], laidByText := true, laidKinds := [.data], laidTests := true, laidLooks := .later }
def TopLocalCardSaid : Prop := Claim7.holds Tryz.pinned (.plain (OpenSpec.ofChange topLocalSpec)) topLocalCard

/-- THE SECOND FORM's CARD OF 'dailiestop.TopLadder'. -/
def topLadderUptoCard : Claim7 := { stood := { row := topLadderUptoRow, standIns := [], harness := (true, "10fe7ad344b24007404ee266f48e17995b9e99c866e9b4fadd88d5a29c219478"), looks := false }, kinds := [], alts := [], laidByText := true, laidKinds := [.data], laidTests := true, laidLooks := .later }
def TopLadderUptoCardSaid : Prop := Claim7.holds Tryz.pinned (.plain (OpenSpec.upto topLadderSpec)) topLadderUptoCard

/-- THE SECOND FORM's CARD OF 'dailiestop.TopLocal'. -/
def topLocalUptoCard : Claim7 := { stood := { row := topLocalUptoRow, standIns := [], harness := (true, "10fe7ad344b24007404ee266f48e17995b9e99c866e9b4fadd88d5a29c219478"), looks := false }, kinds := [], alts := [], laidByText := true, laidKinds := [.data], laidTests := true, laidLooks := .later }
def TopLocalUptoCardSaid : Prop := Claim7.holds Tryz.pinned (.plain (OpenSpec.upto topLocalSpec)) topLocalUptoCard
end Rows
end Go.Proofs.YtbhhkcgicajlcaaGreatDoor
