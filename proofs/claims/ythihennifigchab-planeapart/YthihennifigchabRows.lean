/-
  No cell of these rows narrows 'for every input' (looked for: loops, veiled, ifaces, maps, wideKeys, modest, calm, conditions, laid).
  DERIVED. THE GIVEN ROWS OF THIS SEAT. 5 by the template 'for every input the law returns true; each argument reads behind the call as it read before'; 0 by the template 'total and deterministic' (their statements: YthihennifigchabTotals.lean).
  GIVEN WITH THE SEED: the statements are not yours to turn. If you find one false, say at which input.
  Laid BY PROGRAM, IN A SANDBOX (cutbox-rows.mjs): the forced cells as the released guide's own fill.sh prints them over the translation d958e6d0b30227fb… (all of the seat's roots in one cut). By AI agents, Wed Nov 11 2026. No macro, syntax, notation, axiom, sorry.
-/
import Derived.Test.YthihennifigchabChecked
import GoSem.Claim
import GoSem.ClaimJoined
import GoSem.ClaimMapViews
import Derived.JoinedTies
import Derived.KernelRfl
namespace Go.Proofs.Ythihennifigchab
/- THE CELL 'sum', in the pinned program and in every row, IS THE sha256 OF THE DUMP (.gsa) THAT YthihennifigchabProg.lean LOADS. Nothing in Lean hashes anything: it is a label: what it is worth is what the hold of that sum in a sandbox is worth. -/
noncomputable def Try.pinned : Pinned := { name := "ythihennifigchab", sum := "d958e6d0b30227fb738f7bfccd5a0e49c70afea28d6441e612a6f9faf57f74bf", checked := Try.checked }
namespace Rows
def none {H : Type} : Left H := { results := [], args := [] }

/-- 'dailieslaw06.PlaneApart': WHATEVER THE INPUT: true; the input reads as it did. -/
def planeApartSpec : ChangeSpec := { name := "planeApart", fn := fun _ => fun
  | [d1, d2, d3] => { results := [.lit (.bool true)], args := [d1, d2, d3] }
  | _ => none }
def planeApartRow : OpenClaim := { program := "ythihennifigchab", sum := "d958e6d0b30227fb738f7bfccd5a0e49c70afea28d6441e612a6f9faf57f74bf", func := "dailies/dailieslaw06.PlaneApart", spec := "planeApart", apart := false }
def PlaneApartSaid : Prop := planeApartRow.holds Try.pinned (OpenSpec.ofChange planeApartSpec)

/-- ITS FALSE NEIGHBOUR: 'it returns false'. Refute it at one input. -/
def planeApartWrong : ChangeSpec := { name := "planeApart", fn := fun _ => fun
  | [d1, d2, d3] => { results := [.lit (.bool false)], args := [d1, d2, d3] }
  | _ => none }
def PlaneApartWrongFalsely : Prop := planeApartRow.holds Try.pinned (OpenSpec.ofChange planeApartWrong)

/-- 'dailieslaw06.PlaneBack': WHATEVER THE INPUT: true; the input reads as it did. -/
def planeBackSpec : ChangeSpec := { name := "planeBack", fn := fun _ => fun
  | [d1, d2, d3] => { results := [.lit (.bool true)], args := [d1, d2, d3] }
  | _ => none }
def planeBackRow : OpenClaim := { program := "ythihennifigchab", sum := "d958e6d0b30227fb738f7bfccd5a0e49c70afea28d6441e612a6f9faf57f74bf", func := "dailies/dailieslaw06.PlaneBack", spec := "planeBack", apart := false }
def PlaneBackSaid : Prop := planeBackRow.holds Try.pinned (OpenSpec.ofChange planeBackSpec)

/-- ITS FALSE NEIGHBOUR: 'it returns false'. Refute it at one input. -/
def planeBackWrong : ChangeSpec := { name := "planeBack", fn := fun _ => fun
  | [d1, d2, d3] => { results := [.lit (.bool false)], args := [d1, d2, d3] }
  | _ => none }
def PlaneBackWrongFalsely : Prop := planeBackRow.holds Try.pinned (OpenSpec.ofChange planeBackWrong)

/-- 'dailieslaw06.PlaneTiled': WHATEVER THE INPUT: true; the input reads as it did. -/
def planeTiledSpec : ChangeSpec := { name := "planeTiled", fn := fun _ => fun
  | [d1, d2, d3] => { results := [.lit (.bool true)], args := [d1, d2, d3] }
  | _ => none }
def planeTiledRow : OpenClaim := { program := "ythihennifigchab", sum := "d958e6d0b30227fb738f7bfccd5a0e49c70afea28d6441e612a6f9faf57f74bf", func := "dailies/dailieslaw06.PlaneTiled", spec := "planeTiled", apart := false }
def PlaneTiledSaid : Prop := planeTiledRow.holds Try.pinned (OpenSpec.ofChange planeTiledSpec)

/-- ITS FALSE NEIGHBOUR: 'it returns false'. Refute it at one input. -/
def planeTiledWrong : ChangeSpec := { name := "planeTiled", fn := fun _ => fun
  | [d1, d2, d3] => { results := [.lit (.bool false)], args := [d1, d2, d3] }
  | _ => none }
def PlaneTiledWrongFalsely : Prop := planeTiledRow.holds Try.pinned (OpenSpec.ofChange planeTiledWrong)

/-- 'dailieslaw06.PlaneTwice': WHATEVER THE INPUT: true; the input reads as it did. -/
def planeTwiceSpec : ChangeSpec := { name := "planeTwice", fn := fun _ => fun
  | [d1, d2, d3] => { results := [.lit (.bool true)], args := [d1, d2, d3] }
  | _ => none }
def planeTwiceRow : OpenClaim := { program := "ythihennifigchab", sum := "d958e6d0b30227fb738f7bfccd5a0e49c70afea28d6441e612a6f9faf57f74bf", func := "dailies/dailieslaw06.PlaneTwice", spec := "planeTwice", apart := false }
def PlaneTwiceSaid : Prop := planeTwiceRow.holds Try.pinned (OpenSpec.ofChange planeTwiceSpec)

/-- ITS FALSE NEIGHBOUR: 'it returns false'. Refute it at one input. -/
def planeTwiceWrong : ChangeSpec := { name := "planeTwice", fn := fun _ => fun
  | [d1, d2, d3] => { results := [.lit (.bool false)], args := [d1, d2, d3] }
  | _ => none }
def PlaneTwiceWrongFalsely : Prop := planeTwiceRow.holds Try.pinned (OpenSpec.ofChange planeTwiceWrong)

/-- 'dailieslaw06.PlaneNear': WHATEVER THE INPUT: true; the input reads as it did. -/
def planeNearSpec : ChangeSpec := { name := "planeNear", fn := fun _ => fun
  | [d1, d2, d3] => { results := [.lit (.bool true)], args := [d1, d2, d3] }
  | _ => none }
def planeNearRow : OpenClaim := { program := "ythihennifigchab", sum := "d958e6d0b30227fb738f7bfccd5a0e49c70afea28d6441e612a6f9faf57f74bf", func := "dailies/dailieslaw06.PlaneNear", spec := "planeNear", apart := false }
def PlaneNearSaid : Prop := planeNearRow.holds Try.pinned (OpenSpec.ofChange planeNearSpec)

/-- ITS FALSE NEIGHBOUR: 'it returns false'. Refute it at one input. -/
def planeNearWrong : ChangeSpec := { name := "planeNear", fn := fun _ => fun
  | [d1, d2, d3] => { results := [.lit (.bool false)], args := [d1, d2, d3] }
  | _ => none }
def PlaneNearWrongFalsely : Prop := planeNearRow.holds Try.pinned (OpenSpec.ofChange planeNearWrong)

/- THE SECOND FORM. 'bulk': how many values and letters a reading holds, each counted each time it is reached (what is shared counts as often as it is met; a slice's spare places count too). A statement '..UptoSaid' is the law's where the arguments, and the package variables that the reading takes, are together of bulk at most 1048576: NARROWER than '..Said'. Prove '..Said' where nothing that the law and all that it calls make is longer than what came in: it says more and counts as full. Else prove '..UptoSaid'. A law counts once. -/
mutual
def uptoBulk {H : Type} : DataW H → Nat
  | .lit (.string bytes) => bytes.length + 1
  | .lit _ => 1
  | .nil => 1
  | .ptr d => uptoBulk d + 1
  | .slice elems spare => uptoBulkAll elems + uptoBulkAll spare + 1
  | .agg parts => uptoBulkAll parts + 1
  | .iface _ d => uptoBulk d + 1
  | .map entries => uptoBulkEntries entries + 1
  | .held _ => 1
def uptoBulkAll {H : Type} : List (DataW H) → Nat
  | [] => 0
  | d :: r => uptoBulk d + uptoBulkAll r
def uptoBulkEntries {H : Type} : List (Lit × DataW H) → Nat
  | [] => 0
  | x :: r => uptoBulkEntry x + uptoBulkEntries r
def uptoBulkEntry {H : Type} : Lit × DataW H → Nat
  | (.string bytes, d) => bytes.length + uptoBulk d + 1
  | (_, d) => uptoBulk d + 1
 end
def uptoSmall : (H : Type) → List (DataW H) → Bool := fun _ ds => decide (uptoBulkAll ds ≤ 1048576)
def OpenSpec.upto (s : _root_.Go.ChangeSpec) : _root_.Go.OpenSpec := { _root_.Go.OpenSpec.ofChange s with cond := some uptoSmall }

/-- 'dailieslaw06.PlaneApart', WHERE WHAT IT READS IS OF BULK AT MOST 1048576: true; the input reads as it did. -/
def planeApartUptoRow : OpenClaim := { program := "ythihennifigchab", sum := "d958e6d0b30227fb738f7bfccd5a0e49c70afea28d6441e612a6f9faf57f74bf", func := "dailies/dailieslaw06.PlaneApart", spec := "planeApart", apart := false, narrowed := true }
def PlaneApartUptoSaid : Prop := planeApartUptoRow.holds Try.pinned (OpenSpec.upto planeApartSpec)

/-- 'dailieslaw06.PlaneBack', WHERE WHAT IT READS IS OF BULK AT MOST 1048576: true; the input reads as it did. -/
def planeBackUptoRow : OpenClaim := { program := "ythihennifigchab", sum := "d958e6d0b30227fb738f7bfccd5a0e49c70afea28d6441e612a6f9faf57f74bf", func := "dailies/dailieslaw06.PlaneBack", spec := "planeBack", apart := false, narrowed := true }
def PlaneBackUptoSaid : Prop := planeBackUptoRow.holds Try.pinned (OpenSpec.upto planeBackSpec)

/-- 'dailieslaw06.PlaneTiled', WHERE WHAT IT READS IS OF BULK AT MOST 1048576: true; the input reads as it did. -/
def planeTiledUptoRow : OpenClaim := { program := "ythihennifigchab", sum := "d958e6d0b30227fb738f7bfccd5a0e49c70afea28d6441e612a6f9faf57f74bf", func := "dailies/dailieslaw06.PlaneTiled", spec := "planeTiled", apart := false, narrowed := true }
def PlaneTiledUptoSaid : Prop := planeTiledUptoRow.holds Try.pinned (OpenSpec.upto planeTiledSpec)

/-- 'dailieslaw06.PlaneTwice', WHERE WHAT IT READS IS OF BULK AT MOST 1048576: true; the input reads as it did. -/
def planeTwiceUptoRow : OpenClaim := { program := "ythihennifigchab", sum := "d958e6d0b30227fb738f7bfccd5a0e49c70afea28d6441e612a6f9faf57f74bf", func := "dailies/dailieslaw06.PlaneTwice", spec := "planeTwice", apart := false, narrowed := true }
def PlaneTwiceUptoSaid : Prop := planeTwiceUptoRow.holds Try.pinned (OpenSpec.upto planeTwiceSpec)

/-- 'dailieslaw06.PlaneNear', WHERE WHAT IT READS IS OF BULK AT MOST 1048576: true; the input reads as it did. -/
def planeNearUptoRow : OpenClaim := { program := "ythihennifigchab", sum := "d958e6d0b30227fb738f7bfccd5a0e49c70afea28d6441e612a6f9faf57f74bf", func := "dailies/dailieslaw06.PlaneNear", spec := "planeNear", apart := false, narrowed := true }
def PlaneNearUptoSaid : Prop := planeNearUptoRow.holds Try.pinned (OpenSpec.upto planeNearSpec)

end Rows
end Go.Proofs.Ythihennifigchab
