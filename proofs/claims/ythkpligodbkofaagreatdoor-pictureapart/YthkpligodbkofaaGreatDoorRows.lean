/-
  NARROWER THAN 'FOR EVERY INPUT', by the rows' own cells (each row's printed sentence says how): PictureConfigs: laid · PictureLadder: laid · PictureApart: laid · PictureTurned: laid.
  DERIVED. THE GIVEN ROWS OF THIS SEAT. 4 by the template 'for every input the law returns true; each argument reads behind the call as it read before'; 0 by the template 'total and deterministic' (their statements: YthkpligodbkofaaGreatDoorTotals.lean).
  GIVEN WITH THE SEED: the statements are not yours to turn. If you find one false, say at which input.
  Laid BY PROGRAM, IN A SANDBOX (cutbox-rows.mjs): the forced cells as the released guide's own fill.sh prints them over the translation 72a9892ec7fd7695… (all of the seat's roots in one cut). By AI agents, Wed Nov 11 2026. No macro, syntax, notation, axiom, sorry.
-/
import Derived.Test.YthkpligodbkofaaGreatDoorChecked
import GoSem.Claim
import GoSem.ClaimJoined
import GoSem.ClaimMapViews
import Derived.JoinedTies
import Derived.KernelRfl
namespace Go.Proofs.YthkpligodbkofaaGreatDoor
/- THE CELL 'sum', in the pinned program and in every row, IS THE sha256 OF THE DUMP (.gsa) THAT YthkpligodbkofaaGreatDoorProg.lean LOADS. Nothing in Lean hashes anything: it is a label: what it is worth is what the hold of that sum in a sandbox is worth. -/
noncomputable def Tryz.pinned : Pinned := { name := "ythkpligodbkofaagreatdoor", sum := "72a9892ec7fd7695d57f6147ab1ad7ce0b8ec1d197f2f1bf3e85beb79579ccbf", checked := Tryz.checked }
namespace Rows
def none {H : Type} : Left H := { results := [], args := [] }

/- WHAT THE LISTED PACKAGE-LEVEL VARIABLES READ AS WHEN THE CALL BEGINS. Each datum BY PROGRAM (the guide's laid-datum.mjs) off the statement by which the dump's own 'gosem.cut.vars' lays the variable. In a bare row this is a premise. The card (YthkpligodbkofaaGreatDoorCards.lean) ties it to the program's text. -/
def laid_dailies_golomb_widths {H : Type} : DataW H := .agg [.lit (.int .i64 0), .lit (.int .i64 0), .lit (.int .i64 0), .lit (.int .i64 0), .lit (.int .i64 1), .lit (.int .i64 1), .lit (.int .i64 1), .lit (.int .i64 1), .lit (.int .i64 2), .lit (.int .i64 2), .lit (.int .i64 2), .lit (.int .i64 3), .lit (.int .i64 3), .lit (.int .i64 4), .lit (.int .i64 4), .lit (.int .i64 5), .lit (.int .i64 6), .lit (.int .i64 7), .lit (.int .i64 8), .lit (.int .i64 9), .lit (.int .i64 10), .lit (.int .i64 11), .lit (.int .i64 12)]

/-- 'dailieslaw12.PictureConfigs': WHATEVER THE INPUT: true; the input reads as it did. -/
def pictureConfigsSpec : ChangeSpec := { name := "pictureConfigs", fn := fun _ => fun
  | [d1, d2] => { results := [.lit (.bool true)], args := [d1, d2] }
  | _ => none }
def pictureConfigsRow : OpenClaim := { program := "ythkpligodbkofaagreatdoor", sum := "72a9892ec7fd7695d57f6147ab1ad7ce0b8ec1d197f2f1bf3e85beb79579ccbf", func := "dailies/dailieslaw12.PictureConfigs", spec := "pictureConfigs", unfollowed := true, recurses := true, named := ["dailies/golomb.widths"], apart := false, laid := [("dailies/golomb.widths", laid_dailies_golomb_widths)] }
def PictureConfigsSaid : Prop := pictureConfigsRow.holds Tryz.pinned (OpenSpec.ofChange pictureConfigsSpec)

/-- ITS FALSE NEIGHBOUR: 'it returns false'. Refute it at one input. -/
def pictureConfigsWrong : ChangeSpec := { name := "pictureConfigs", fn := fun _ => fun
  | [d1, d2] => { results := [.lit (.bool false)], args := [d1, d2] }
  | _ => none }
def PictureConfigsWrongFalsely : Prop := pictureConfigsRow.holds Tryz.pinned (OpenSpec.ofChange pictureConfigsWrong)

/-- 'dailieslaw12.PictureLadder': WHATEVER THE INPUT: true; the input reads as it did. -/
def pictureLadderSpec : ChangeSpec := { name := "pictureLadder", fn := fun _ => fun
  | [d1, d2, d3] => { results := [.lit (.bool true)], args := [d1, d2, d3] }
  | _ => none }
def pictureLadderRow : OpenClaim := { program := "ythkpligodbkofaagreatdoor", sum := "72a9892ec7fd7695d57f6147ab1ad7ce0b8ec1d197f2f1bf3e85beb79579ccbf", func := "dailies/dailieslaw12.PictureLadder", spec := "pictureLadder", unfollowed := true, recurses := true, named := ["dailies/golomb.widths"], apart := false, laid := [("dailies/golomb.widths", laid_dailies_golomb_widths)] }
def PictureLadderSaid : Prop := pictureLadderRow.holds Tryz.pinned (OpenSpec.ofChange pictureLadderSpec)

/-- ITS FALSE NEIGHBOUR: 'it returns false'. Refute it at one input. -/
def pictureLadderWrong : ChangeSpec := { name := "pictureLadder", fn := fun _ => fun
  | [d1, d2, d3] => { results := [.lit (.bool false)], args := [d1, d2, d3] }
  | _ => none }
def PictureLadderWrongFalsely : Prop := pictureLadderRow.holds Tryz.pinned (OpenSpec.ofChange pictureLadderWrong)

/-- 'dailieslaw12.PictureApart': WHATEVER THE INPUT: true; the input reads as it did. -/
def pictureApartSpec : ChangeSpec := { name := "pictureApart", fn := fun _ => fun
  | [d1, d2, d3] => { results := [.lit (.bool true)], args := [d1, d2, d3] }
  | _ => none }
def pictureApartRow : OpenClaim := { program := "ythkpligodbkofaagreatdoor", sum := "72a9892ec7fd7695d57f6147ab1ad7ce0b8ec1d197f2f1bf3e85beb79579ccbf", func := "dailies/dailieslaw12.PictureApart", spec := "pictureApart", unfollowed := true, recurses := true, named := ["dailies/golomb.widths"], apart := false, laid := [("dailies/golomb.widths", laid_dailies_golomb_widths)] }
def PictureApartSaid : Prop := pictureApartRow.holds Tryz.pinned (OpenSpec.ofChange pictureApartSpec)

/-- ITS FALSE NEIGHBOUR: 'it returns false'. Refute it at one input. -/
def pictureApartWrong : ChangeSpec := { name := "pictureApart", fn := fun _ => fun
  | [d1, d2, d3] => { results := [.lit (.bool false)], args := [d1, d2, d3] }
  | _ => none }
def PictureApartWrongFalsely : Prop := pictureApartRow.holds Tryz.pinned (OpenSpec.ofChange pictureApartWrong)

/-- 'dailieslaw12.PictureTurned': WHATEVER THE INPUT: true; the input reads as it did. -/
def pictureTurnedSpec : ChangeSpec := { name := "pictureTurned", fn := fun _ => fun
  | [d1, d2, d3] => { results := [.lit (.bool true)], args := [d1, d2, d3] }
  | _ => none }
def pictureTurnedRow : OpenClaim := { program := "ythkpligodbkofaagreatdoor", sum := "72a9892ec7fd7695d57f6147ab1ad7ce0b8ec1d197f2f1bf3e85beb79579ccbf", func := "dailies/dailieslaw12.PictureTurned", spec := "pictureTurned", unfollowed := true, recurses := true, named := ["dailies/golomb.widths"], apart := false, laid := [("dailies/golomb.widths", laid_dailies_golomb_widths)] }
def PictureTurnedSaid : Prop := pictureTurnedRow.holds Tryz.pinned (OpenSpec.ofChange pictureTurnedSpec)

/-- ITS FALSE NEIGHBOUR: 'it returns false'. Refute it at one input. -/
def pictureTurnedWrong : ChangeSpec := { name := "pictureTurned", fn := fun _ => fun
  | [d1, d2, d3] => { results := [.lit (.bool false)], args := [d1, d2, d3] }
  | _ => none }
def PictureTurnedWrongFalsely : Prop := pictureTurnedRow.holds Tryz.pinned (OpenSpec.ofChange pictureTurnedWrong)

/- THE SECOND FORM. 'bulk': how many values and letters a reading holds, each counted each time it is reached (what is shared counts as often as it is met; a slice's spare places count too). A statement '..UptoSaid' is the law's where the arguments, and the package variables that the reading takes, are together of bulk at most 1048576: NARROWER than '..Said'. Prove '..Said' where nothing that the law and all that it calls make is longer than what came in: it says more and counts as full. Else prove '..UptoSaid'. A law counts once. -/
mutual
def uptoBulk {H : Type} : DataW H → Nat
  | .lit (.string bytes) => bytes.length + 1
  | .lit _ => 1
  | .nil => 1
  | .ptr d => uptoBulk d + 1
  | .slice elems spare => uptoBulkAll elems + uptoBulkAll spare + 1
  | .agg parts => uptoBulkAll parts + 1
  | .iface _ d => uptoBulk d + 1
  | .map entries => uptoBulkEntries entries + 1
  | .held _ => 1
def uptoBulkAll {H : Type} : List (DataW H) → Nat
  | [] => 0
  | d :: r => uptoBulk d + uptoBulkAll r
def uptoBulkEntries {H : Type} : List (Lit × DataW H) → Nat
  | [] => 0
  | x :: r => uptoBulkEntry x + uptoBulkEntries r
def uptoBulkEntry {H : Type} : Lit × DataW H → Nat
  | (.string bytes, d) => bytes.length + uptoBulk d + 1
  | (_, d) => uptoBulk d + 1
 end
def uptoSmall : (H : Type) → List (DataW H) → Bool := fun _ ds => decide (uptoBulkAll ds ≤ 1048576)
def OpenSpec.upto (s : _root_.Go.ChangeSpec) : _root_.Go.OpenSpec := { _root_.Go.OpenSpec.ofChange s with cond := some uptoSmall }

/-- 'dailieslaw12.PictureConfigs', WHERE WHAT IT READS IS OF BULK AT MOST 1048576: true; the input reads as it did. -/
def pictureConfigsUptoRow : OpenClaim := { program := "ythkpligodbkofaagreatdoor", sum := "72a9892ec7fd7695d57f6147ab1ad7ce0b8ec1d197f2f1bf3e85beb79579ccbf", func := "dailies/dailieslaw12.PictureConfigs", spec := "pictureConfigs", unfollowed := true, recurses := true, named := ["dailies/golomb.widths"], apart := false, laid := [("dailies/golomb.widths", laid_dailies_golomb_widths)], narrowed := true }
def PictureConfigsUptoSaid : Prop := pictureConfigsUptoRow.holds Tryz.pinned (OpenSpec.upto pictureConfigsSpec)

/-- 'dailieslaw12.PictureLadder', WHERE WHAT IT READS IS OF BULK AT MOST 1048576: true; the input reads as it did. -/
def pictureLadderUptoRow : OpenClaim := { program := "ythkpligodbkofaagreatdoor", sum := "72a9892ec7fd7695d57f6147ab1ad7ce0b8ec1d197f2f1bf3e85beb79579ccbf", func := "dailies/dailieslaw12.PictureLadder", spec := "pictureLadder", unfollowed := true, recurses := true, named := ["dailies/golomb.widths"], apart := false, laid := [("dailies/golomb.widths", laid_dailies_golomb_widths)], narrowed := true }
def PictureLadderUptoSaid : Prop := pictureLadderUptoRow.holds Tryz.pinned (OpenSpec.upto pictureLadderSpec)

/-- 'dailieslaw12.PictureApart', WHERE WHAT IT READS IS OF BULK AT MOST 1048576: true; the input reads as it did. -/
def pictureApartUptoRow : OpenClaim := { program := "ythkpligodbkofaagreatdoor", sum := "72a9892ec7fd7695d57f6147ab1ad7ce0b8ec1d197f2f1bf3e85beb79579ccbf", func := "dailies/dailieslaw12.PictureApart", spec := "pictureApart", unfollowed := true, recurses := true, named := ["dailies/golomb.widths"], apart := false, laid := [("dailies/golomb.widths", laid_dailies_golomb_widths)], narrowed := true }
def PictureApartUptoSaid : Prop := pictureApartUptoRow.holds Tryz.pinned (OpenSpec.upto pictureApartSpec)

/-- 'dailieslaw12.PictureTurned', WHERE WHAT IT READS IS OF BULK AT MOST 1048576: true; the input reads as it did. -/
def pictureTurnedUptoRow : OpenClaim := { program := "ythkpligodbkofaagreatdoor", sum := "72a9892ec7fd7695d57f6147ab1ad7ce0b8ec1d197f2f1bf3e85beb79579ccbf", func := "dailies/dailieslaw12.PictureTurned", spec := "pictureTurned", unfollowed := true, recurses := true, named := ["dailies/golomb.widths"], apart := false, laid := [("dailies/golomb.widths", laid_dailies_golomb_widths)], narrowed := true }
def PictureTurnedUptoSaid : Prop := pictureTurnedUptoRow.holds Tryz.pinned (OpenSpec.upto pictureTurnedSpec)

end Rows
end Go.Proofs.YthkpligodbkofaaGreatDoor
