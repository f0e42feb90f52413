/-
  NARROWER THAN 'FOR EVERY INPUT', by the rows' own cells (each row's printed sentence says how): ConformMixes: laid · ConformBetween: laid.
  DERIVED. THE GIVEN ROWS OF THIS SEAT. 2 by the template 'for every input the law returns true; each argument reads behind the call as it read before'; 0 by the template 'total and deterministic' (their statements: YtgjjnkhkjnkahaaDoorTotals.lean).
  GIVEN WITH THE SEED: the statements are not yours to turn. If you find one false, say at which input.
  Laid BY PROGRAM, IN A SANDBOX (cutbox-rows.mjs): the forced cells as the released guide's own fill.sh prints them over the translation d1f58af9abe8627f… (all of the seat's roots in one cut). By AI agents, Wed Nov 11 2026. No macro, syntax, notation, axiom, sorry.
-/
import Derived.Test.YtgjjnkhkjnkahaaDoorChecked
import GoSem.PinnedTables
import GoSem.Claim
import GoSem.ClaimJoined
import GoSem.ClaimMapViews
import Derived.JoinedTies
import Derived.KernelRfl
namespace Go.Proofs.YtgjjnkhkjnkahaaDoor
/- THE CELL 'sum', in the pinned program and in every row, IS THE sha256 OF THE DUMP (.gsa) THAT YtgjjnkhkjnkahaaDoorProg.lean LOADS. Nothing in Lean hashes anything: it is a label: what it is worth is what the hold of that sum in a sandbox is worth. -/
noncomputable def Tryd.pinned : Pinned := { name := "ytgjjnkhkjnkahaadoor", sum := "d1f58af9abe8627f3aae9daf798206ecd8cdd150fe256f4857e340baafece009", checked := Tryd.checked }
namespace Rows
def none {H : Type} : Left H := { results := [], args := [] }

/- WHAT THE LISTED PACKAGE-LEVEL VARIABLES READ AS WHEN THE CALL BEGINS. Each datum BY PROGRAM (the guide's laid-datum.mjs) off the statement by which the dump's own 'gosem.cut.vars' lays the variable. In a bare row this is a premise. The card (YtgjjnkhkjnkahaaDoorCards.lean) ties it to the program's text. -/
def laid_unicode_utf8_acceptRanges {H : Type} : DataW H := .agg [.agg [.lit (.int .u8 128), .lit (.int .u8 191)], .agg [.lit (.int .u8 160), .lit (.int .u8 191)], .agg [.lit (.int .u8 128), .lit (.int .u8 159)], .agg [.lit (.int .u8 144), .lit (.int .u8 191)], .agg [.lit (.int .u8 128), .lit (.int .u8 143)], .agg [.lit (.int .u8 0), .lit (.int .u8 0)], .agg [.lit (.int .u8 0), .lit (.int .u8 0)], .agg [.lit (.int .u8 0), .lit (.int .u8 0)], .agg [.lit (.int .u8 0), .lit (.int .u8 0)], .agg [.lit (.int .u8 0), .lit (.int .u8 0)], .agg [.lit (.int .u8 0), .lit (.int .u8 0)], .agg [.lit (.int .u8 0), .lit (.int .u8 0)], .agg [.lit (.int .u8 0), .lit (.int .u8 0)], .agg [.lit (.int .u8 0), .lit (.int .u8 0)], .agg [.lit (.int .u8 0), .lit (.int .u8 0)], .agg [.lit (.int .u8 0), .lit (.int .u8 0)]]
def laid_dailies_timecode_paces {H : Type} : DataW H := .agg [.agg [.lit (.int .i64 24), .lit (.int .i64 24), .lit (.int .i64 1), .lit (.int .i64 0)], .agg [.lit (.int .i64 25), .lit (.int .i64 25), .lit (.int .i64 1), .lit (.int .i64 0)], .agg [.lit (.int .i64 30), .lit (.int .i64 30), .lit (.int .i64 1), .lit (.int .i64 0)], .agg [.lit (.int .i64 30), .lit (.int .i64 30000), .lit (.int .i64 1001), .lit (.int .i64 2)], .agg [.lit (.int .i64 50), .lit (.int .i64 50), .lit (.int .i64 1), .lit (.int .i64 0)], .agg [.lit (.int .i64 60), .lit (.int .i64 60), .lit (.int .i64 1), .lit (.int .i64 0)], .agg [.lit (.int .i64 60), .lit (.int .i64 60000), .lit (.int .i64 1001), .lit (.int .i64 4)]]
/-- One of Go's own tables, pinned by name: the form's constant. -/
def laid_unicode_utf8_first : DataW Unit := Go.Pinned.utf8First

/-- 'dailieslaw20.ConformMixes': WHATEVER THE INPUT: true; the input reads as it did. -/
def conformMixesSpec : ChangeSpec := { name := "conformMixes", fn := fun _ => fun
  | [d] => { results := [.lit (.bool true)], args := [d] }
  | _ => none }
def conformMixesRow : OpenClaim := { program := "ytgjjnkhkjnkahaadoor", sum := "d1f58af9abe8627f3aae9daf798206ecd8cdd150fe256f4857e340baafece009", func := "dailies/dailieslaw20.ConformMixes", spec := "conformMixes", unfollowed := true, recurses := true, named := ["unicode/utf8.first", "unicode/utf8.acceptRanges", "dailies/timecode.paces"], apart := false, laid := [("unicode/utf8.acceptRanges", laid_unicode_utf8_acceptRanges), ("dailies/timecode.paces", laid_dailies_timecode_paces), ("unicode/utf8.first", laid_unicode_utf8_first)] }
def ConformMixesSaid : Prop := conformMixesRow.holds Tryd.pinned (OpenSpec.ofChange conformMixesSpec)

/-- ITS FALSE NEIGHBOUR: 'it returns false'. Refute it at one input. -/
def conformMixesWrong : ChangeSpec := { name := "conformMixes", fn := fun _ => fun
  | [d] => { results := [.lit (.bool false)], args := [d] }
  | _ => none }
def ConformMixesWrongFalsely : Prop := conformMixesRow.holds Tryd.pinned (OpenSpec.ofChange conformMixesWrong)

/-- 'dailieslaw20.ConformBetween': WHATEVER THE INPUT: true; the input reads as it did. -/
def conformBetweenSpec : ChangeSpec := { name := "conformBetween", fn := fun _ => fun
  | [d1, d2, d3, d4] => { results := [.lit (.bool true)], args := [d1, d2, d3, d4] }
  | _ => none }
def conformBetweenRow : OpenClaim := { program := "ytgjjnkhkjnkahaadoor", sum := "d1f58af9abe8627f3aae9daf798206ecd8cdd150fe256f4857e340baafece009", func := "dailies/dailieslaw20.ConformBetween", spec := "conformBetween", unfollowed := true, recurses := true, named := ["unicode/utf8.first", "unicode/utf8.acceptRanges", "dailies/timecode.paces"], apart := false, laid := [("unicode/utf8.acceptRanges", laid_unicode_utf8_acceptRanges), ("dailies/timecode.paces", laid_dailies_timecode_paces), ("unicode/utf8.first", laid_unicode_utf8_first)] }
def ConformBetweenSaid : Prop := conformBetweenRow.holds Tryd.pinned (OpenSpec.ofChange conformBetweenSpec)

/-- ITS FALSE NEIGHBOUR: 'it returns false'. Refute it at one input. -/
def conformBetweenWrong : ChangeSpec := { name := "conformBetween", fn := fun _ => fun
  | [d1, d2, d3, d4] => { results := [.lit (.bool false)], args := [d1, d2, d3, d4] }
  | _ => none }
def ConformBetweenWrongFalsely : Prop := conformBetweenRow.holds Tryd.pinned (OpenSpec.ofChange conformBetweenWrong)

/- THE SECOND FORM. 'bulk': how many values and letters a reading holds, each counted each time it is reached (what is shared counts as often as it is met; a slice's spare places count too). A statement '..UptoSaid' is the law's where the arguments, and the package variables that the reading takes, are together of bulk at most 1048576: NARROWER than '..Said'. Prove '..Said' where nothing that the law and all that it calls make is longer than what came in: it says more and counts as full. Else prove '..UptoSaid'. A law counts once. -/
mutual
def uptoBulk {H : Type} : DataW H → Nat
  | .lit (.string bytes) => bytes.length + 1
  | .lit _ => 1
  | .nil => 1
  | .ptr d => uptoBulk d + 1
  | .slice elems spare => uptoBulkAll elems + uptoBulkAll spare + 1
  | .agg parts => uptoBulkAll parts + 1
  | .iface _ d => uptoBulk d + 1
  | .map entries => uptoBulkEntries entries + 1
  | .held _ => 1
def uptoBulkAll {H : Type} : List (DataW H) → Nat
  | [] => 0
  | d :: r => uptoBulk d + uptoBulkAll r
def uptoBulkEntries {H : Type} : List (Lit × DataW H) → Nat
  | [] => 0
  | x :: r => uptoBulkEntry x + uptoBulkEntries r
def uptoBulkEntry {H : Type} : Lit × DataW H → Nat
  | (.string bytes, d) => bytes.length + uptoBulk d + 1
  | (_, d) => uptoBulk d + 1
 end
def uptoSmall : (H : Type) → List (DataW H) → Bool := fun _ ds => decide (uptoBulkAll ds ≤ 1048576)
def OpenSpec.upto (s : _root_.Go.ChangeSpec) : _root_.Go.OpenSpec := { _root_.Go.OpenSpec.ofChange s with cond := some uptoSmall }

/-- 'dailieslaw20.ConformMixes', WHERE WHAT IT READS IS OF BULK AT MOST 1048576: true; the input reads as it did. -/
def conformMixesUptoRow : OpenClaim := { program := "ytgjjnkhkjnkahaadoor", sum := "d1f58af9abe8627f3aae9daf798206ecd8cdd150fe256f4857e340baafece009", func := "dailies/dailieslaw20.ConformMixes", spec := "conformMixes", unfollowed := true, recurses := true, named := ["unicode/utf8.first", "unicode/utf8.acceptRanges", "dailies/timecode.paces"], apart := false, laid := [("unicode/utf8.acceptRanges", laid_unicode_utf8_acceptRanges), ("dailies/timecode.paces", laid_dailies_timecode_paces), ("unicode/utf8.first", laid_unicode_utf8_first)], narrowed := true }
def ConformMixesUptoSaid : Prop := conformMixesUptoRow.holds Tryd.pinned (OpenSpec.upto conformMixesSpec)

/-- 'dailieslaw20.ConformBetween', WHERE WHAT IT READS IS OF BULK AT MOST 1048576: true; the input reads as it did. -/
def conformBetweenUptoRow : OpenClaim := { program := "ytgjjnkhkjnkahaadoor", sum := "d1f58af9abe8627f3aae9daf798206ecd8cdd150fe256f4857e340baafece009", func := "dailies/dailieslaw20.ConformBetween", spec := "conformBetween", unfollowed := true, recurses := true, named := ["unicode/utf8.first", "unicode/utf8.acceptRanges", "dailies/timecode.paces"], apart := false, laid := [("unicode/utf8.acceptRanges", laid_unicode_utf8_acceptRanges), ("dailies/timecode.paces", laid_dailies_timecode_paces), ("unicode/utf8.first", laid_unicode_utf8_first)], narrowed := true }
def ConformBetweenUptoSaid : Prop := conformBetweenUptoRow.holds Tryd.pinned (OpenSpec.upto conformBetweenSpec)

end Rows
end Go.Proofs.YtgjjnkhkjnkahaaDoor
