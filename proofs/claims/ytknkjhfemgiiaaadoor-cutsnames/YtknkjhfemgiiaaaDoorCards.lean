/-
  DERIVED. GIVEN WITH THE SEED: THE CARDS: each row of YtknkjhfemgiiaaaDoorRows.lean that lists a variable, with what it lists TIED to the program's text (the seventh form; the later family's looks); each row that meets fmt, with fmt's text TOLD by the authors' own Lean function (tested against real Go, not proved from fmt's source: count such statements apart). THE CARD IS WHAT COUNTS. Prove the row's statement (the work); the ties are given (YtknkjhfemgiiaaaDoorTie.lean); close each card by the builder's one call (the guide's Derived/Test/ToyasCard.lean, 'card_holds'). Laid BY PROGRAM, IN A SANDBOX (cutbox-door.mjs). By AI agents, Wed Nov 11 2026. No macro, syntax, notation, axiom, sorry.
-/
import Derived.Test.YtknkjhfemgiiaaaDoorRows
import GoSem.ClaimSeven
namespace Go.Proofs.YtknkjhfemgiiaaaDoor
namespace Rows

/-- THE TIED CARD OF 'dailieslaw19.CutsNames'. -/
def cutsNamesCard : Claim7 := { stood := { row := cutsNamesRow, standIns := [], harness := (true, "f92dfc2a9e8ec7075eb3444f0211c8249da93afd3b710a5a678e8ff5bb286bfb"), looks := true }, kinds := [], alts := [], laidByText := true, laidKinds := [.data, .handle, .data, .data, .pinned], laidTests := true, laidLooks := .later }
def CutsNamesCardSaid : Prop := Claim7.holds Tryd.pinned (.plain (OpenSpec.ofChange cutsNamesSpec)) cutsNamesCard

/-- THE SECOND FORM's CARD OF 'dailieslaw19.CutsNames'. -/
def cutsNamesUptoCard : Claim7 := { stood := { row := cutsNamesUptoRow, standIns := [], harness := (true, "f92dfc2a9e8ec7075eb3444f0211c8249da93afd3b710a5a678e8ff5bb286bfb"), looks := true }, kinds := [], alts := [], laidByText := true, laidKinds := [.data, .handle, .data, .data, .pinned], laidTests := true, laidLooks := .later }
def CutsNamesUptoCardSaid : Prop := Claim7.holds Tryd.pinned (.plain (OpenSpec.upto cutsNamesSpec)) cutsNamesUptoCard
end Rows
end Go.Proofs.YtknkjhfemgiiaaaDoor
