/-
  NARROWER THAN 'FOR EVERY INPUT', by the rows' own cells (each row's printed sentence says how): SliceNames: laid · SliceSizes: laid · SliceTolerance: laid · SliceAgain: laid.
  DERIVED. THE GIVEN ROWS OF THIS SEAT. 4 by the template 'for every input the law returns true; each argument reads behind the call as it read before'; 0 by the template 'total and deterministic' (their statements: YtahoeodpjdbdkaaDoorTotals.lean).
  GIVEN WITH THE SEED: the statements are not yours to turn. If you find one false, say at which input.
  Laid BY PROGRAM, IN A SANDBOX (cutbox-rows.mjs): the forced cells as the released guide's own fill.sh prints them over the translation cf94148fc08b8958… (all of the seat's roots in one cut). By AI agents, Wed Nov 11 2026. No macro, syntax, notation, axiom, sorry.
-/
import Derived.Test.YtahoeodpjdbdkaaDoorChecked
import GoSem.Claim
import GoSem.ClaimJoined
import GoSem.ClaimMapViews
import Derived.JoinedTies
import Derived.KernelRfl
namespace Go.Proofs.YtahoeodpjdbdkaaDoor
/- THE CELL 'sum', in the pinned program and in every row, IS THE sha256 OF THE DUMP (.gsa) THAT YtahoeodpjdbdkaaDoorProg.lean LOADS. Nothing in Lean hashes anything: it is a label: what it is worth is what the hold of that sum in a sandbox is worth. -/
noncomputable def Tryd.pinned : Pinned := { name := "ytahoeodpjdbdkaadoor", sum := "cf94148fc08b895819a2a7504709f0888f55a37f38b5ed6ae2a4393bf5b3b0b2", checked := Tryd.checked }
namespace Rows
def none {H : Type} : Left H := { results := [], args := [] }

/- WHAT THE LISTED PACKAGE-LEVEL VARIABLES READ AS WHEN THE CALL BEGINS. Each datum BY PROGRAM (the guide's laid-datum.mjs) off the statement by which the dump's own 'gosem.cut.vars' lays the variable. In a bare row this is a premise. The card (YtahoeodpjdbdkaaDoorCards.lean) ties it to the program's text. -/
def laid_dailies_golomb_widths {H : Type} : DataW H := .agg [.lit (.int .i64 0), .lit (.int .i64 0), .lit (.int .i64 0), .lit (.int .i64 0), .lit (.int .i64 1), .lit (.int .i64 1), .lit (.int .i64 1), .lit (.int .i64 1), .lit (.int .i64 2), .lit (.int .i64 2), .lit (.int .i64 2), .lit (.int .i64 3), .lit (.int .i64 3), .lit (.int .i64 4), .lit (.int .i64 4), .lit (.int .i64 5), .lit (.int .i64 6), .lit (.int .i64 7), .lit (.int .i64 8), .lit (.int .i64 9), .lit (.int .i64 10), .lit (.int .i64 11), .lit (.int .i64 12)]

/-- 'dailieslaw10.SliceNames': WHATEVER THE INPUT: true; the input reads as it did. -/
def sliceNamesSpec : ChangeSpec := { name := "sliceNames", fn := fun _ => fun
  | [] => { results := [.lit (.bool true)], args := [] }
  | _ => none }
def sliceNamesRow : OpenClaim := { program := "ytahoeodpjdbdkaadoor", sum := "cf94148fc08b895819a2a7504709f0888f55a37f38b5ed6ae2a4393bf5b3b0b2", func := "dailies/dailieslaw10.SliceNames", spec := "sliceNames", unfollowed := true, recurses := true, named := ["dailies/golomb.widths"], apart := false, laid := [("dailies/golomb.widths", laid_dailies_golomb_widths)] }
def SliceNamesSaid : Prop := sliceNamesRow.holds Tryd.pinned (OpenSpec.ofChange sliceNamesSpec)

/-- ITS FALSE NEIGHBOUR: 'it returns false'. Refute it at one input. -/
def sliceNamesWrong : ChangeSpec := { name := "sliceNames", fn := fun _ => fun
  | [] => { results := [.lit (.bool false)], args := [] }
  | _ => none }
def SliceNamesWrongFalsely : Prop := sliceNamesRow.holds Tryd.pinned (OpenSpec.ofChange sliceNamesWrong)

/-- 'dailieslaw10.SliceSizes': WHATEVER THE INPUT: true; the input reads as it did. -/
def sliceSizesSpec : ChangeSpec := { name := "sliceSizes", fn := fun _ => fun
  | [d1, d2, d3] => { results := [.lit (.bool true)], args := [d1, d2, d3] }
  | _ => none }
def sliceSizesRow : OpenClaim := { program := "ytahoeodpjdbdkaadoor", sum := "cf94148fc08b895819a2a7504709f0888f55a37f38b5ed6ae2a4393bf5b3b0b2", func := "dailies/dailieslaw10.SliceSizes", spec := "sliceSizes", unfollowed := true, recurses := true, named := ["dailies/golomb.widths"], apart := false, laid := [("dailies/golomb.widths", laid_dailies_golomb_widths)] }
def SliceSizesSaid : Prop := sliceSizesRow.holds Tryd.pinned (OpenSpec.ofChange sliceSizesSpec)

/-- ITS FALSE NEIGHBOUR: 'it returns false'. Refute it at one input. -/
def sliceSizesWrong : ChangeSpec := { name := "sliceSizes", fn := fun _ => fun
  | [d1, d2, d3] => { results := [.lit (.bool false)], args := [d1, d2, d3] }
  | _ => none }
def SliceSizesWrongFalsely : Prop := sliceSizesRow.holds Tryd.pinned (OpenSpec.ofChange sliceSizesWrong)

/-- 'dailieslaw10.SliceTolerance': WHATEVER THE INPUT: true; the input reads as it did. -/
def sliceToleranceSpec : ChangeSpec := { name := "sliceTolerance", fn := fun _ => fun
  | [d] => { results := [.lit (.bool true)], args := [d] }
  | _ => none }
def sliceToleranceRow : OpenClaim := { program := "ytahoeodpjdbdkaadoor", sum := "cf94148fc08b895819a2a7504709f0888f55a37f38b5ed6ae2a4393bf5b3b0b2", func := "dailies/dailieslaw10.SliceTolerance", spec := "sliceTolerance", unfollowed := true, recurses := true, named := ["dailies/golomb.widths"], apart := false, laid := [("dailies/golomb.widths", laid_dailies_golomb_widths)] }
def SliceToleranceSaid : Prop := sliceToleranceRow.holds Tryd.pinned (OpenSpec.ofChange sliceToleranceSpec)

/-- ITS FALSE NEIGHBOUR: 'it returns false'. Refute it at one input. -/
def sliceToleranceWrong : ChangeSpec := { name := "sliceTolerance", fn := fun _ => fun
  | [d] => { results := [.lit (.bool false)], args := [d] }
  | _ => none }
def SliceToleranceWrongFalsely : Prop := sliceToleranceRow.holds Tryd.pinned (OpenSpec.ofChange sliceToleranceWrong)

/-- 'dailieslaw10.SliceAgain': WHATEVER THE INPUT: true; the input reads as it did. -/
def sliceAgainSpec : ChangeSpec := { name := "sliceAgain", fn := fun _ => fun
  | [d] => { results := [.lit (.bool true)], args := [d] }
  | _ => none }
def sliceAgainRow : OpenClaim := { program := "ytahoeodpjdbdkaadoor", sum := "cf94148fc08b895819a2a7504709f0888f55a37f38b5ed6ae2a4393bf5b3b0b2", func := "dailies/dailieslaw10.SliceAgain", spec := "sliceAgain", unfollowed := true, recurses := true, named := ["dailies/golomb.widths"], apart := false, laid := [("dailies/golomb.widths", laid_dailies_golomb_widths)] }
def SliceAgainSaid : Prop := sliceAgainRow.holds Tryd.pinned (OpenSpec.ofChange sliceAgainSpec)

/-- ITS FALSE NEIGHBOUR: 'it returns false'. Refute it at one input. -/
def sliceAgainWrong : ChangeSpec := { name := "sliceAgain", fn := fun _ => fun
  | [d] => { results := [.lit (.bool false)], args := [d] }
  | _ => none }
def SliceAgainWrongFalsely : Prop := sliceAgainRow.holds Tryd.pinned (OpenSpec.ofChange sliceAgainWrong)

/- THE SECOND FORM. 'bulk': how many values and letters a reading holds, each counted each time it is reached (what is shared counts as often as it is met; a slice's spare places count too). A statement '..UptoSaid' is the law's where the arguments, and the package variables that the reading takes, are together of bulk at most 1048576: NARROWER than '..Said'. Prove '..Said' where nothing that the law and all that it calls make is longer than what came in: it says more and counts as full. Else prove '..UptoSaid'. A law counts once. -/
mutual
def uptoBulk {H : Type} : DataW H → Nat
  | .lit (.string bytes) => bytes.length + 1
  | .lit _ => 1
  | .nil => 1
  | .ptr d => uptoBulk d + 1
  | .slice elems spare => uptoBulkAll elems + uptoBulkAll spare + 1
  | .agg parts => uptoBulkAll parts + 1
  | .iface _ d => uptoBulk d + 1
  | .map entries => uptoBulkEntries entries + 1
  | .held _ => 1
def uptoBulkAll {H : Type} : List (DataW H) → Nat
  | [] => 0
  | d :: r => uptoBulk d + uptoBulkAll r
def uptoBulkEntries {H : Type} : List (Lit × DataW H) → Nat
  | [] => 0
  | x :: r => uptoBulkEntry x + uptoBulkEntries r
def uptoBulkEntry {H : Type} : Lit × DataW H → Nat
  | (.string bytes, d) => bytes.length + uptoBulk d + 1
  | (_, d) => uptoBulk d + 1
 end
def uptoSmall : (H : Type) → List (DataW H) → Bool := fun _ ds => decide (uptoBulkAll ds ≤ 1048576)
def OpenSpec.upto (s : _root_.Go.ChangeSpec) : _root_.Go.OpenSpec := { _root_.Go.OpenSpec.ofChange s with cond := some uptoSmall }

/-- 'dailieslaw10.SliceNames', WHERE WHAT IT READS IS OF BULK AT MOST 1048576: true; the input reads as it did. -/
def sliceNamesUptoRow : OpenClaim := { program := "ytahoeodpjdbdkaadoor", sum := "cf94148fc08b895819a2a7504709f0888f55a37f38b5ed6ae2a4393bf5b3b0b2", func := "dailies/dailieslaw10.SliceNames", spec := "sliceNames", unfollowed := true, recurses := true, named := ["dailies/golomb.widths"], apart := false, laid := [("dailies/golomb.widths", laid_dailies_golomb_widths)], narrowed := true }
def SliceNamesUptoSaid : Prop := sliceNamesUptoRow.holds Tryd.pinned (OpenSpec.upto sliceNamesSpec)

/-- 'dailieslaw10.SliceSizes', WHERE WHAT IT READS IS OF BULK AT MOST 1048576: true; the input reads as it did. -/
def sliceSizesUptoRow : OpenClaim := { program := "ytahoeodpjdbdkaadoor", sum := "cf94148fc08b895819a2a7504709f0888f55a37f38b5ed6ae2a4393bf5b3b0b2", func := "dailies/dailieslaw10.SliceSizes", spec := "sliceSizes", unfollowed := true, recurses := true, named := ["dailies/golomb.widths"], apart := false, laid := [("dailies/golomb.widths", laid_dailies_golomb_widths)], narrowed := true }
def SliceSizesUptoSaid : Prop := sliceSizesUptoRow.holds Tryd.pinned (OpenSpec.upto sliceSizesSpec)

/-- 'dailieslaw10.SliceTolerance', WHERE WHAT IT READS IS OF BULK AT MOST 1048576: true; the input reads as it did. -/
def sliceToleranceUptoRow : OpenClaim := { program := "ytahoeodpjdbdkaadoor", sum := "cf94148fc08b895819a2a7504709f0888f55a37f38b5ed6ae2a4393bf5b3b0b2", func := "dailies/dailieslaw10.SliceTolerance", spec := "sliceTolerance", unfollowed := true, recurses := true, named := ["dailies/golomb.widths"], apart := false, laid := [("dailies/golomb.widths", laid_dailies_golomb_widths)], narrowed := true }
def SliceToleranceUptoSaid : Prop := sliceToleranceUptoRow.holds Tryd.pinned (OpenSpec.upto sliceToleranceSpec)

/-- 'dailieslaw10.SliceAgain', WHERE WHAT IT READS IS OF BULK AT MOST 1048576: true; the input reads as it did. -/
def sliceAgainUptoRow : OpenClaim := { program := "ytahoeodpjdbdkaadoor", sum := "cf94148fc08b895819a2a7504709f0888f55a37f38b5ed6ae2a4393bf5b3b0b2", func := "dailies/dailieslaw10.SliceAgain", spec := "sliceAgain", unfollowed := true, recurses := true, named := ["dailies/golomb.widths"], apart := false, laid := [("dailies/golomb.widths", laid_dailies_golomb_widths)], narrowed := true }
def SliceAgainUptoSaid : Prop := sliceAgainUptoRow.holds Tryd.pinned (OpenSpec.upto sliceAgainSpec)

end Rows
end Go.Proofs.YtahoeodpjdbdkaaDoor
