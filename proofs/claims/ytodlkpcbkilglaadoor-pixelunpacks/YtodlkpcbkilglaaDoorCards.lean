/-
  DERIVED. GIVEN WITH THE SEED: THE CARDS: each row of YtodlkpcbkilglaaDoorRows.lean that lists a variable, with what it lists TIED to the program's text (the seventh form; the later family's looks); each row that meets fmt, with fmt's text TOLD by the authors' own Lean function (tested against real Go, not proved from fmt's source: count such statements apart). THE CARD IS WHAT COUNTS. Prove the row's statement (the work); the ties are given (YtodlkpcbkilglaaDoorTie.lean); close each card by the builder's one call (the guide's Derived/Test/ToyasCard.lean, 'card_holds'). Laid BY PROGRAM, IN A SANDBOX (cutbox-door.mjs). By AI agents, Wed Nov 11 2026. No macro, syntax, notation, axiom, sorry.
-/
import Derived.Test.YtodlkpcbkilglaaDoorRows
import GoSem.ClaimSeven
namespace Go.Proofs.YtodlkpcbkilglaaDoor
namespace Rows

/-- THE TIED CARD OF 'dailieslaw07.PixelNames'. -/
def pixelNamesCard : Claim7 := { stood := { row := pixelNamesRow, standIns := [], harness := (true, "aab877c9c66fbd076876a5de15a5a177258eb563f7b37d64a7519796d96044fb"), looks := false }, kinds := [], alts := [], laidByText := true, laidKinds := [.data], laidTests := true, laidLooks := .later }
def PixelNamesCardSaid : Prop := Claim7.holds Tryd.pinned (.plain (OpenSpec.ofChange pixelNamesSpec)) pixelNamesCard

/-- THE TIED CARD OF 'dailieslaw07.PixelSizes'. -/
def pixelSizesCard : Claim7 := { stood := { row := pixelSizesRow, standIns := [], harness := (true, "aab877c9c66fbd076876a5de15a5a177258eb563f7b37d64a7519796d96044fb"), looks := false }, kinds := [], alts := [], laidByText := true, laidKinds := [.data], laidTests := true, laidLooks := .later }
def PixelSizesCardSaid : Prop := Claim7.holds Tryd.pinned (.plain (OpenSpec.ofChange pixelSizesSpec)) pixelSizesCard

/-- THE TIED CARD OF 'dailieslaw07.PixelPacks'. -/
def pixelPacksCard : Claim7 := { stood := { row := pixelPacksRow, standIns := [], harness := (true, "aab877c9c66fbd076876a5de15a5a177258eb563f7b37d64a7519796d96044fb"), looks := false }, kinds := [], alts := [], laidByText := true, laidKinds := [.data], laidTests := true, laidLooks := .later }
def PixelPacksCardSaid : Prop := Claim7.holds Tryd.pinned (.plain (OpenSpec.ofChange pixelPacksSpec)) pixelPacksCard

/-- THE TIED CARD OF 'dailieslaw07.PixelUnpacks'. -/
def pixelUnpacksCard : Claim7 := { stood := { row := pixelUnpacksRow, standIns := [], harness := (true, "aab877c9c66fbd076876a5de15a5a177258eb563f7b37d64a7519796d96044fb"), looks := false }, kinds := [], alts := [], laidByText := true, laidKinds := [.data], laidTests := true, laidLooks := .later }
def PixelUnpacksCardSaid : Prop := Claim7.holds Tryd.pinned (.plain (OpenSpec.ofChange pixelUnpacksSpec)) pixelUnpacksCard

/-- THE TIED CARD OF 'dailieslaw07.PixelBack'. -/
def pixelBackCard : Claim7 := { stood := { row := pixelBackRow, standIns := [], harness := (true, "aab877c9c66fbd076876a5de15a5a177258eb563f7b37d64a7519796d96044fb"), looks := false }, kinds := [], alts := [], laidByText := true, laidKinds := [.data], laidTests := true, laidLooks := .later }
def PixelBackCardSaid : Prop := Claim7.holds Tryd.pinned (.plain (OpenSpec.ofChange pixelBackSpec)) pixelBackCard

/-- THE TIED CARD OF 'dailieslaw07.PixelOne'. -/
def pixelOneCard : Claim7 := { stood := { row := pixelOneRow, standIns := [], harness := (true, "aab877c9c66fbd076876a5de15a5a177258eb563f7b37d64a7519796d96044fb"), looks := false }, kinds := [], alts := [], laidByText := true, laidKinds := [.data], laidTests := true, laidLooks := .later }
def PixelOneCardSaid : Prop := Claim7.holds Tryd.pinned (.plain (OpenSpec.ofChange pixelOneSpec)) pixelOneCard

/-- THE SECOND FORM's CARD OF 'dailieslaw07.PixelNames'. -/
def pixelNamesUptoCard : Claim7 := { stood := { row := pixelNamesUptoRow, standIns := [], harness := (true, "aab877c9c66fbd076876a5de15a5a177258eb563f7b37d64a7519796d96044fb"), looks := false }, kinds := [], alts := [], laidByText := true, laidKinds := [.data], laidTests := true, laidLooks := .later }
def PixelNamesUptoCardSaid : Prop := Claim7.holds Tryd.pinned (.plain (OpenSpec.upto pixelNamesSpec)) pixelNamesUptoCard

/-- THE SECOND FORM's CARD OF 'dailieslaw07.PixelSizes'. -/
def pixelSizesUptoCard : Claim7 := { stood := { row := pixelSizesUptoRow, standIns := [], harness := (true, "aab877c9c66fbd076876a5de15a5a177258eb563f7b37d64a7519796d96044fb"), looks := false }, kinds := [], alts := [], laidByText := true, laidKinds := [.data], laidTests := true, laidLooks := .later }
def PixelSizesUptoCardSaid : Prop := Claim7.holds Tryd.pinned (.plain (OpenSpec.upto pixelSizesSpec)) pixelSizesUptoCard

/-- THE SECOND FORM's CARD OF 'dailieslaw07.PixelPacks'. -/
def pixelPacksUptoCard : Claim7 := { stood := { row := pixelPacksUptoRow, standIns := [], harness := (true, "aab877c9c66fbd076876a5de15a5a177258eb563f7b37d64a7519796d96044fb"), looks := false }, kinds := [], alts := [], laidByText := true, laidKinds := [.data], laidTests := true, laidLooks := .later }
def PixelPacksUptoCardSaid : Prop := Claim7.holds Tryd.pinned (.plain (OpenSpec.upto pixelPacksSpec)) pixelPacksUptoCard

/-- THE SECOND FORM's CARD OF 'dailieslaw07.PixelUnpacks'. -/
def pixelUnpacksUptoCard : Claim7 := { stood := { row := pixelUnpacksUptoRow, standIns := [], harness := (true, "aab877c9c66fbd076876a5de15a5a177258eb563f7b37d64a7519796d96044fb"), looks := false }, kinds := [], alts := [], laidByText := true, laidKinds := [.data], laidTests := true, laidLooks := .later }
def PixelUnpacksUptoCardSaid : Prop := Claim7.holds Tryd.pinned (.plain (OpenSpec.upto pixelUnpacksSpec)) pixelUnpacksUptoCard

/-- THE SECOND FORM's CARD OF 'dailieslaw07.PixelBack'. -/
def pixelBackUptoCard : Claim7 := { stood := { row := pixelBackUptoRow, standIns := [], harness := (true, "aab877c9c66fbd076876a5de15a5a177258eb563f7b37d64a7519796d96044fb"), looks := false }, kinds := [], alts := [], laidByText := true, laidKinds := [.data], laidTests := true, laidLooks := .later }
def PixelBackUptoCardSaid : Prop := Claim7.holds Tryd.pinned (.plain (OpenSpec.upto pixelBackSpec)) pixelBackUptoCard

/-- THE SECOND FORM's CARD OF 'dailieslaw07.PixelOne'. -/
def pixelOneUptoCard : Claim7 := { stood := { row := pixelOneUptoRow, standIns := [], harness := (true, "aab877c9c66fbd076876a5de15a5a177258eb563f7b37d64a7519796d96044fb"), looks := false }, kinds := [], alts := [], laidByText := true, laidKinds := [.data], laidTests := true, laidLooks := .later }
def PixelOneUptoCardSaid : Prop := Claim7.holds Tryd.pinned (.plain (OpenSpec.upto pixelOneSpec)) pixelOneUptoCard
end Rows
end Go.Proofs.YtodlkpcbkilglaaDoor
