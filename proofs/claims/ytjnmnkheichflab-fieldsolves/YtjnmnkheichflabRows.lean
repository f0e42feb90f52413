/-
  No cell of these rows narrows 'for every input' (looked for: loops, veiled, ifaces, maps, wideKeys, modest, calm, conditions, laid).
  DERIVED. THE GIVEN ROWS OF THIS SEAT. 4 by the template 'for every input the law returns true; each argument reads behind the call as it read before'; 0 by the template 'total and deterministic' (their statements: YtjnmnkheichflabTotals.lean).
  GIVEN WITH THE SEED: the statements are not yours to turn. If you find one false, say at which input.
  Laid BY PROGRAM, IN A SANDBOX (cutbox-rows.mjs): the forced cells as the released guide's own fill.sh prints them over the translation ec82347ee33035ce… (all of the seat's roots in one cut). By AI agents, Wed Nov 11 2026. No macro, syntax, notation, axiom, sorry.
-/
import Derived.Test.YtjnmnkheichflabChecked
import GoSem.Claim
import GoSem.ClaimJoined
import GoSem.ClaimMapViews
import Derived.JoinedTies
import Derived.KernelRfl
namespace Go.Proofs.Ytjnmnkheichflab
/- THE CELL 'sum', in the pinned program and in every row, IS THE sha256 OF THE DUMP (.gsa) THAT YtjnmnkheichflabProg.lean LOADS. Nothing in Lean hashes anything: it is a label: what it is worth is what the hold of that sum in a sandbox is worth. -/
noncomputable def Try.pinned : Pinned := { name := "ytjnmnkheichflab", sum := "ec82347ee33035ce825b25ae12282a40987ab144380d2568a659ba8f90cf8355", checked := Try.checked }
namespace Rows
def none {H : Type} : Left H := { results := [], args := [] }

/-- 'dailieslaw04.FieldSolves': WHATEVER THE INPUT: true; the input reads as it did. -/
def fieldSolvesSpec : ChangeSpec := { name := "fieldSolves", fn := fun _ => fun
  | [d1, d2] => { results := [.lit (.bool true)], args := [d1, d2] }
  | _ => none }
def fieldSolvesRow : OpenClaim := { program := "ytjnmnkheichflab", sum := "ec82347ee33035ce825b25ae12282a40987ab144380d2568a659ba8f90cf8355", func := "dailies/dailieslaw04.FieldSolves", spec := "fieldSolves", apart := false }
def FieldSolvesSaid : Prop := fieldSolvesRow.holds Try.pinned (OpenSpec.ofChange fieldSolvesSpec)

/-- ITS FALSE NEIGHBOUR: 'it returns false'. Refute it at one input. -/
def fieldSolvesWrong : ChangeSpec := { name := "fieldSolves", fn := fun _ => fun
  | [d1, d2] => { results := [.lit (.bool false)], args := [d1, d2] }
  | _ => none }
def FieldSolvesWrongFalsely : Prop := fieldSolvesRow.holds Try.pinned (OpenSpec.ofChange fieldSolvesWrong)

/-- 'dailieslaw04.FieldCauchys': WHATEVER THE INPUT: true; the input reads as it did. -/
def fieldCauchysSpec : ChangeSpec := { name := "fieldCauchys", fn := fun _ => fun
  | [d1, d2] => { results := [.lit (.bool true)], args := [d1, d2] }
  | _ => none }
def fieldCauchysRow : OpenClaim := { program := "ytjnmnkheichflab", sum := "ec82347ee33035ce825b25ae12282a40987ab144380d2568a659ba8f90cf8355", func := "dailies/dailieslaw04.FieldCauchys", spec := "fieldCauchys", apart := false }
def FieldCauchysSaid : Prop := fieldCauchysRow.holds Try.pinned (OpenSpec.ofChange fieldCauchysSpec)

/-- ITS FALSE NEIGHBOUR: 'it returns false'. Refute it at one input. -/
def fieldCauchysWrong : ChangeSpec := { name := "fieldCauchys", fn := fun _ => fun
  | [d1, d2] => { results := [.lit (.bool false)], args := [d1, d2] }
  | _ => none }
def FieldCauchysWrongFalsely : Prop := fieldCauchysRow.holds Try.pinned (OpenSpec.ofChange fieldCauchysWrong)

/-- 'dailieslaw04.FieldThere': WHATEVER THE INPUT: true; the input reads as it did. -/
def fieldThereSpec : ChangeSpec := { name := "fieldThere", fn := fun _ => fun
  | [d1, d2, d3] => { results := [.lit (.bool true)], args := [d1, d2, d3] }
  | _ => none }
def fieldThereRow : OpenClaim := { program := "ytjnmnkheichflab", sum := "ec82347ee33035ce825b25ae12282a40987ab144380d2568a659ba8f90cf8355", func := "dailies/dailieslaw04.FieldThere", spec := "fieldThere", apart := false }
def FieldThereSaid : Prop := fieldThereRow.holds Try.pinned (OpenSpec.ofChange fieldThereSpec)

/-- ITS FALSE NEIGHBOUR: 'it returns false'. Refute it at one input. -/
def fieldThereWrong : ChangeSpec := { name := "fieldThere", fn := fun _ => fun
  | [d1, d2, d3] => { results := [.lit (.bool false)], args := [d1, d2, d3] }
  | _ => none }
def FieldThereWrongFalsely : Prop := fieldThereRow.holds Try.pinned (OpenSpec.ofChange fieldThereWrong)

/-- 'dailieslaw04.FieldCauchy': WHATEVER THE INPUT: true; the input reads as it did. -/
def fieldCauchySpec : ChangeSpec := { name := "fieldCauchy", fn := fun _ => fun
  | [d1, d2, d3] => { results := [.lit (.bool true)], args := [d1, d2, d3] }
  | _ => none }
def fieldCauchyRow : OpenClaim := { program := "ytjnmnkheichflab", sum := "ec82347ee33035ce825b25ae12282a40987ab144380d2568a659ba8f90cf8355", func := "dailies/dailieslaw04.FieldCauchy", spec := "fieldCauchy", apart := false }
def FieldCauchySaid : Prop := fieldCauchyRow.holds Try.pinned (OpenSpec.ofChange fieldCauchySpec)

/-- ITS FALSE NEIGHBOUR: 'it returns false'. Refute it at one input. -/
def fieldCauchyWrong : ChangeSpec := { name := "fieldCauchy", fn := fun _ => fun
  | [d1, d2, d3] => { results := [.lit (.bool false)], args := [d1, d2, d3] }
  | _ => none }
def FieldCauchyWrongFalsely : Prop := fieldCauchyRow.holds Try.pinned (OpenSpec.ofChange fieldCauchyWrong)

/- THE SECOND FORM. 'bulk': how many values and letters a reading holds, each counted each time it is reached (what is shared counts as often as it is met; a slice's spare places count too). A statement '..UptoSaid' is the law's where the arguments, and the package variables that the reading takes, are together of bulk at most 1048576: NARROWER than '..Said'. Prove '..Said' where nothing that the law and all that it calls make is longer than what came in: it says more and counts as full. Else prove '..UptoSaid'. A law counts once. -/
mutual
def uptoBulk {H : Type} : DataW H → Nat
  | .lit (.string bytes) => bytes.length + 1
  | .lit _ => 1
  | .nil => 1
  | .ptr d => uptoBulk d + 1
  | .slice elems spare => uptoBulkAll elems + uptoBulkAll spare + 1
  | .agg parts => uptoBulkAll parts + 1
  | .iface _ d => uptoBulk d + 1
  | .map entries => uptoBulkEntries entries + 1
  | .held _ => 1
def uptoBulkAll {H : Type} : List (DataW H) → Nat
  | [] => 0
  | d :: r => uptoBulk d + uptoBulkAll r
def uptoBulkEntries {H : Type} : List (Lit × DataW H) → Nat
  | [] => 0
  | x :: r => uptoBulkEntry x + uptoBulkEntries r
def uptoBulkEntry {H : Type} : Lit × DataW H → Nat
  | (.string bytes, d) => bytes.length + uptoBulk d + 1
  | (_, d) => uptoBulk d + 1
 end
def uptoSmall : (H : Type) → List (DataW H) → Bool := fun _ ds => decide (uptoBulkAll ds ≤ 1048576)
def OpenSpec.upto (s : _root_.Go.ChangeSpec) : _root_.Go.OpenSpec := { _root_.Go.OpenSpec.ofChange s with cond := some uptoSmall }

/-- 'dailieslaw04.FieldSolves', WHERE WHAT IT READS IS OF BULK AT MOST 1048576: true; the input reads as it did. -/
def fieldSolvesUptoRow : OpenClaim := { program := "ytjnmnkheichflab", sum := "ec82347ee33035ce825b25ae12282a40987ab144380d2568a659ba8f90cf8355", func := "dailies/dailieslaw04.FieldSolves", spec := "fieldSolves", apart := false, narrowed := true }
def FieldSolvesUptoSaid : Prop := fieldSolvesUptoRow.holds Try.pinned (OpenSpec.upto fieldSolvesSpec)

/-- 'dailieslaw04.FieldCauchys', WHERE WHAT IT READS IS OF BULK AT MOST 1048576: true; the input reads as it did. -/
def fieldCauchysUptoRow : OpenClaim := { program := "ytjnmnkheichflab", sum := "ec82347ee33035ce825b25ae12282a40987ab144380d2568a659ba8f90cf8355", func := "dailies/dailieslaw04.FieldCauchys", spec := "fieldCauchys", apart := false, narrowed := true }
def FieldCauchysUptoSaid : Prop := fieldCauchysUptoRow.holds Try.pinned (OpenSpec.upto fieldCauchysSpec)

/-- 'dailieslaw04.FieldThere', WHERE WHAT IT READS IS OF BULK AT MOST 1048576: true; the input reads as it did. -/
def fieldThereUptoRow : OpenClaim := { program := "ytjnmnkheichflab", sum := "ec82347ee33035ce825b25ae12282a40987ab144380d2568a659ba8f90cf8355", func := "dailies/dailieslaw04.FieldThere", spec := "fieldThere", apart := false, narrowed := true }
def FieldThereUptoSaid : Prop := fieldThereUptoRow.holds Try.pinned (OpenSpec.upto fieldThereSpec)

/-- 'dailieslaw04.FieldCauchy', WHERE WHAT IT READS IS OF BULK AT MOST 1048576: true; the input reads as it did. -/
def fieldCauchyUptoRow : OpenClaim := { program := "ytjnmnkheichflab", sum := "ec82347ee33035ce825b25ae12282a40987ab144380d2568a659ba8f90cf8355", func := "dailies/dailieslaw04.FieldCauchy", spec := "fieldCauchy", apart := false, narrowed := true }
def FieldCauchyUptoSaid : Prop := fieldCauchyUptoRow.holds Try.pinned (OpenSpec.upto fieldCauchySpec)

end Rows
end Go.Proofs.Ytjnmnkheichflab
