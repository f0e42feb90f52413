/-
  NARROWER THAN 'FOR EVERY INPUT', by the rows' own cells (each row's printed sentence says how): SliceWhole: laid · SliceAny: laid · SliceFlat: laid.
  DERIVED. THE GIVEN ROWS OF THIS SEAT. 3 by the template 'for every input the law returns true; each argument reads behind the call as it read before'; 0 by the template 'total and deterministic' (their statements: YtahoeodpjdbdkabDoorTotals.lean).
  GIVEN WITH THE SEED: the statements are not yours to turn. If you find one false, say at which input.
  Laid BY PROGRAM, IN A SANDBOX (cutbox-rows.mjs): the forced cells as the released guide's own fill.sh prints them over the translation d94aefbd583de75b… (all of the seat's roots in one cut). By AI agents, Wed Nov 11 2026. No macro, syntax, notation, axiom, sorry.
-/
import Derived.Test.YtahoeodpjdbdkabDoorChecked
import GoSem.Claim
import GoSem.ClaimJoined
import GoSem.ClaimMapViews
import Derived.JoinedTies
import Derived.KernelRfl
namespace Go.Proofs.YtahoeodpjdbdkabDoor
/- THE CELL 'sum', in the pinned program and in every row, IS THE sha256 OF THE DUMP (.gsa) THAT YtahoeodpjdbdkabDoorProg.lean LOADS. Nothing in Lean hashes anything: it is a label: what it is worth is what the hold of that sum in a sandbox is worth. -/
noncomputable def Tryd.pinned : Pinned := { name := "ytahoeodpjdbdkabdoor", sum := "d94aefbd583de75bb5ab84627111676f64508504d40abcc3a2b3ee461cac4d28", checked := Tryd.checked }
namespace Rows
def none {H : Type} : Left H := { results := [], args := [] }

/- WHAT THE LISTED PACKAGE-LEVEL VARIABLES READ AS WHEN THE CALL BEGINS. Each datum BY PROGRAM (the guide's laid-datum.mjs) off the statement by which the dump's own 'gosem.cut.vars' lays the variable. In a bare row this is a premise. The card (YtahoeodpjdbdkabDoorCards.lean) ties it to the program's text. -/
def laid_dailies_golomb_widths {H : Type} : DataW H := .agg [.lit (.int .i64 0), .lit (.int .i64 0), .lit (.int .i64 0), .lit (.int .i64 0), .lit (.int .i64 1), .lit (.int .i64 1), .lit (.int .i64 1), .lit (.int .i64 1), .lit (.int .i64 2), .lit (.int .i64 2), .lit (.int .i64 2), .lit (.int .i64 3), .lit (.int .i64 3), .lit (.int .i64 4), .lit (.int .i64 4), .lit (.int .i64 5), .lit (.int .i64 6), .lit (.int .i64 7), .lit (.int .i64 8), .lit (.int .i64 9), .lit (.int .i64 10), .lit (.int .i64 11), .lit (.int .i64 12)]

/-- 'dailieslaw10.SliceWhole': WHATEVER THE INPUT: true; the input reads as it did. -/
def sliceWholeSpec : ChangeSpec := { name := "sliceWhole", fn := fun _ => fun
  | [d1, d2, d3] => { results := [.lit (.bool true)], args := [d1, d2, d3] }
  | _ => none }
def sliceWholeRow : OpenClaim := { program := "ytahoeodpjdbdkabdoor", sum := "d94aefbd583de75bb5ab84627111676f64508504d40abcc3a2b3ee461cac4d28", func := "dailies/dailieslaw10.SliceWhole", spec := "sliceWhole", unfollowed := true, recurses := true, named := ["dailies/golomb.widths"], apart := false, laid := [("dailies/golomb.widths", laid_dailies_golomb_widths)] }
def SliceWholeSaid : Prop := sliceWholeRow.holds Tryd.pinned (OpenSpec.ofChange sliceWholeSpec)

/-- ITS FALSE NEIGHBOUR: 'it returns false'. Refute it at one input. -/
def sliceWholeWrong : ChangeSpec := { name := "sliceWhole", fn := fun _ => fun
  | [d1, d2, d3] => { results := [.lit (.bool false)], args := [d1, d2, d3] }
  | _ => none }
def SliceWholeWrongFalsely : Prop := sliceWholeRow.holds Tryd.pinned (OpenSpec.ofChange sliceWholeWrong)

/-- 'dailieslaw10.SliceAny': WHATEVER THE INPUT: true; the input reads as it did. -/
def sliceAnySpec : ChangeSpec := { name := "sliceAny", fn := fun _ => fun
  | [d] => { results := [.lit (.bool true)], args := [d] }
  | _ => none }
def sliceAnyRow : OpenClaim := { program := "ytahoeodpjdbdkabdoor", sum := "d94aefbd583de75bb5ab84627111676f64508504d40abcc3a2b3ee461cac4d28", func := "dailies/dailieslaw10.SliceAny", spec := "sliceAny", unfollowed := true, recurses := true, named := ["dailies/golomb.widths"], apart := false, laid := [("dailies/golomb.widths", laid_dailies_golomb_widths)] }
def SliceAnySaid : Prop := sliceAnyRow.holds Tryd.pinned (OpenSpec.ofChange sliceAnySpec)

/-- ITS FALSE NEIGHBOUR: 'it returns false'. Refute it at one input. -/
def sliceAnyWrong : ChangeSpec := { name := "sliceAny", fn := fun _ => fun
  | [d] => { results := [.lit (.bool false)], args := [d] }
  | _ => none }
def SliceAnyWrongFalsely : Prop := sliceAnyRow.holds Tryd.pinned (OpenSpec.ofChange sliceAnyWrong)

/-- 'dailieslaw10.SliceFlat': WHATEVER THE INPUT: true; the input reads as it did. -/
def sliceFlatSpec : ChangeSpec := { name := "sliceFlat", fn := fun _ => fun
  | [d] => { results := [.lit (.bool true)], args := [d] }
  | _ => none }
def sliceFlatRow : OpenClaim := { program := "ytahoeodpjdbdkabdoor", sum := "d94aefbd583de75bb5ab84627111676f64508504d40abcc3a2b3ee461cac4d28", func := "dailies/dailieslaw10.SliceFlat", spec := "sliceFlat", unfollowed := true, recurses := true, named := ["dailies/golomb.widths"], apart := false, laid := [("dailies/golomb.widths", laid_dailies_golomb_widths)] }
def SliceFlatSaid : Prop := sliceFlatRow.holds Tryd.pinned (OpenSpec.ofChange sliceFlatSpec)

/-- ITS FALSE NEIGHBOUR: 'it returns false'. Refute it at one input. -/
def sliceFlatWrong : ChangeSpec := { name := "sliceFlat", fn := fun _ => fun
  | [d] => { results := [.lit (.bool false)], args := [d] }
  | _ => none }
def SliceFlatWrongFalsely : Prop := sliceFlatRow.holds Tryd.pinned (OpenSpec.ofChange sliceFlatWrong)

/- THE SECOND FORM. 'bulk': how many values and letters a reading holds, each counted each time it is reached (what is shared counts as often as it is met; a slice's spare places count too). A statement '..UptoSaid' is the law's where the arguments, and the package variables that the reading takes, are together of bulk at most 1048576: NARROWER than '..Said'. Prove '..Said' where nothing that the law and all that it calls make is longer than what came in: it says more and counts as full. Else prove '..UptoSaid'. A law counts once. -/
mutual
def uptoBulk {H : Type} : DataW H → Nat
  | .lit (.string bytes) => bytes.length + 1
  | .lit _ => 1
  | .nil => 1
  | .ptr d => uptoBulk d + 1
  | .slice elems spare => uptoBulkAll elems + uptoBulkAll spare + 1
  | .agg parts => uptoBulkAll parts + 1
  | .iface _ d => uptoBulk d + 1
  | .map entries => uptoBulkEntries entries + 1
  | .held _ => 1
def uptoBulkAll {H : Type} : List (DataW H) → Nat
  | [] => 0
  | d :: r => uptoBulk d + uptoBulkAll r
def uptoBulkEntries {H : Type} : List (Lit × DataW H) → Nat
  | [] => 0
  | x :: r => uptoBulkEntry x + uptoBulkEntries r
def uptoBulkEntry {H : Type} : Lit × DataW H → Nat
  | (.string bytes, d) => bytes.length + uptoBulk d + 1
  | (_, d) => uptoBulk d + 1
 end
def uptoSmall : (H : Type) → List (DataW H) → Bool := fun _ ds => decide (uptoBulkAll ds ≤ 1048576)
def OpenSpec.upto (s : _root_.Go.ChangeSpec) : _root_.Go.OpenSpec := { _root_.Go.OpenSpec.ofChange s with cond := some uptoSmall }

/-- 'dailieslaw10.SliceWhole', WHERE WHAT IT READS IS OF BULK AT MOST 1048576: true; the input reads as it did. -/
def sliceWholeUptoRow : OpenClaim := { program := "ytahoeodpjdbdkabdoor", sum := "d94aefbd583de75bb5ab84627111676f64508504d40abcc3a2b3ee461cac4d28", func := "dailies/dailieslaw10.SliceWhole", spec := "sliceWhole", unfollowed := true, recurses := true, named := ["dailies/golomb.widths"], apart := false, laid := [("dailies/golomb.widths", laid_dailies_golomb_widths)], narrowed := true }
def SliceWholeUptoSaid : Prop := sliceWholeUptoRow.holds Tryd.pinned (OpenSpec.upto sliceWholeSpec)

/-- 'dailieslaw10.SliceAny', WHERE WHAT IT READS IS OF BULK AT MOST 1048576: true; the input reads as it did. -/
def sliceAnyUptoRow : OpenClaim := { program := "ytahoeodpjdbdkabdoor", sum := "d94aefbd583de75bb5ab84627111676f64508504d40abcc3a2b3ee461cac4d28", func := "dailies/dailieslaw10.SliceAny", spec := "sliceAny", unfollowed := true, recurses := true, named := ["dailies/golomb.widths"], apart := false, laid := [("dailies/golomb.widths", laid_dailies_golomb_widths)], narrowed := true }
def SliceAnyUptoSaid : Prop := sliceAnyUptoRow.holds Tryd.pinned (OpenSpec.upto sliceAnySpec)

/-- 'dailieslaw10.SliceFlat', WHERE WHAT IT READS IS OF BULK AT MOST 1048576: true; the input reads as it did. -/
def sliceFlatUptoRow : OpenClaim := { program := "ytahoeodpjdbdkabdoor", sum := "d94aefbd583de75bb5ab84627111676f64508504d40abcc3a2b3ee461cac4d28", func := "dailies/dailieslaw10.SliceFlat", spec := "sliceFlat", unfollowed := true, recurses := true, named := ["dailies/golomb.widths"], apart := false, laid := [("dailies/golomb.widths", laid_dailies_golomb_widths)], narrowed := true }
def SliceFlatUptoSaid : Prop := sliceFlatUptoRow.holds Tryd.pinned (OpenSpec.upto sliceFlatSpec)

end Rows
end Go.Proofs.YtahoeodpjdbdkabDoor
