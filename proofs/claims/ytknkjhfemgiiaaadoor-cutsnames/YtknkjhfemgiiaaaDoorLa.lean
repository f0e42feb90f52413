import Derived.Test.YtknkjhfemgiiaaaDoorK0
import Derived.LaidEql
import Derived.Stop.Asserts
import Derived.RowKitTokens
namespace Go.Proofs.YtknkjhfemgiiaaaDoor
open Go.RowKit Go.Extern.Stop Go.Stop Go.Extern

theorem rl_valueOf82 (t : Addr) (w : World) : (ReflectliteValue.unpack (.iface 82 (.pointer (some t)))).run Tryd.prog w
    = .ok (.agg #[.pointer (some ⟨6, 82, none⟩), .pointer (some ⟨w.heap.size, 0, none⟩), .int .u64 150]) (w.alloc (.cells #[.pointer (some t)] 82)) := by kernel_rfl
theorem rl_type82 (a : Addr) (w : World) : (ReflectliteValue.methodAny (ReflectliteValue.valueError "reflectlite.Value.Type" 0) (fun t _ _ _ => ReflectliteType.toType t) #[.agg #[.pointer (some ⟨6, 82, none⟩), .pointer (some a), .int .u64 150]]).run Tryd.prog w
    = .ok (.iface 128 (.agg #[.pointer (some ⟨6, 82, none⟩)])) w := by kernel_rfl
theorem rl_methodKind (h : Value) (w : World) : (Go.method 284 128 (.agg #[h]) "Kind").run Tryd.prog w = .ok (95, h) w := by kernel_rfl
/-- The model's entry for Kind. -/
def kndF : Array Value → Sem Value := ReflectliteType.abiMethod fun t => do pure (.int .u8 (← Rtype.kind t))
theorem rl_kind82 (w : World) : (kndF #[.pointer (some ⟨6, 82, none⟩)]).run Tryd.prog w = .ok (.int .u8 22) w := by kernel_rfl
theorem rl_kind74 (w : World) : (kndF #[.pointer (some ⟨6, 80, none⟩)]).run Tryd.prog w = .ok (.int .u8 22) w := by kernel_rfl
theorem rl_parts82 (a : Addr) (w : World) : (ReflectliteValue.parts (.agg #[.pointer (some ⟨6, 82, none⟩), .pointer (some a), .int .u64 150])).run Tryd.prog w = .ok (some (82, a, 150)) w := by kernel_rfl
theorem rl_isNil82 (a p : Addr) (W : World) (ha : W.cell? a = some (.pointer (some p))) :
    (ReflectliteValue.method (ReflectliteValue.valueError "reflectlite.Value.IsNil" 0) ReflectliteValue.isNil #[.agg #[.pointer (some ⟨6, 82, none⟩), .pointer (some a), .int .u64 150]]).run Tryd.prog W = .ok (.bool false) W := by
  refine (congrArg (fun z : Sem Value => z.run Tryd.prog W) (show ReflectliteValue.method (ReflectliteValue.valueError "reflectlite.Value.IsNil" 0) ReflectliteValue.isNil #[.agg #[.pointer (some ⟨6, 82, none⟩), .pointer (some a), .int .u64 150]] = Bind.bind (m := Sem) (ReflectliteValue.parts (.agg #[.pointer (some ⟨6, 82, none⟩), .pointer (some a), .int .u64 150])) _ from rfl)).trans ?_
  simp only [Sem.run_bind, rl_parts82, Result.andThen]
  simp [ReflectliteValue.isNil, loadVar, isAgg, underlying, Tryd.underlying82, ha, Result.andThen]
theorem rl_methodElem (h : Value) (w : World) : (Go.method 284 128 (.agg #[h]) "Elem").run Tryd.prog w = .ok (109, .agg #[h]) w := by kernel_rfl
theorem rl_methodImplements (h : Value) (w : World) : (Go.method 284 128 (.agg #[h]) "Implements").run Tryd.prog w = .ok (110, .agg #[h]) w := by kernel_rfl
theorem rl_methodAssignableTo (h : Value) (w : World) : (Go.method 284 128 (.agg #[h]) "AssignableTo").run Tryd.prog w = .ok (107, .agg #[h]) w := by kernel_rfl
theorem rl_methodComparable (h : Value) (w : World) : (Go.method 284 128 (.agg #[h]) "Comparable").run Tryd.prog w = .ok (108, .agg #[h]) w := by kernel_rfl
theorem rl_elem82 (w : World) : (ReflectliteType.method ReflectliteType.elem #[.agg #[.pointer (some ⟨6, 82, none⟩)]]).run Tryd.prog w = .ok (.iface 128 (.agg #[.pointer (some ⟨6, 80, none⟩)])) w := by kernel_rfl
theorem rl_implements74 (w : World) : (ReflectliteType.relation "Implements" ReflectliteType.implements_ #[.agg #[.pointer (some ⟨6, 80, none⟩)], .iface 128 (.agg #[.pointer (some ⟨6, 28, none⟩)])]).run Tryd.prog w = .ok (.bool true) w := by kernel_rfl
theorem rl_typeOf74 (v : Value) (w : World) : (ReflectliteType.typeOf #[.iface 80 v]).run Tryd.prog w = .ok (.iface 128 (.agg #[.pointer (some ⟨6, 80, none⟩)])) w := by kernel_rfl
theorem rl_typeOf24 (v : Value) (w : World) : (ReflectliteType.typeOf #[.iface 46 v]).run Tryd.prog w = .ok (.iface 128 (.agg #[.pointer (some ⟨6, 46, none⟩)])) w := by kernel_rfl
theorem rl_assignable74 (w : World) : (ReflectliteType.relation "AssignableTo" ReflectliteType.assignableTo #[.agg #[.pointer (some ⟨6, 80, none⟩)], .iface 128 (.agg #[.pointer (some ⟨6, 80, none⟩)])]).run Tryd.prog w = .ok (.bool true) w := by kernel_rfl
theorem rl_valueOf74 (e : Addr) (w : World) : (ReflectliteValue.unpack (.iface 80 (.pointer (some e)))).run Tryd.prog w
    = .ok (.agg #[.pointer (some ⟨6, 80, none⟩), .pointer (some ⟨w.heap.size, 0, none⟩), .int .u64 150]) (w.alloc (.cells #[.pointer (some e)] 80)) := by kernel_rfl
theorem rl_elemOf82 (w : World) : (Rtype.elem? 82).run Tryd.prog w = .ok (some 80) w := by kernel_rfl
theorem rl_mk74 (p : Addr) (w : World) : (ReflectliteValue.mk 80 p ReflectliteValue.flagAddr).run Tryd.prog w = .ok (.agg #[.pointer (some ⟨6, 80, none⟩), .pointer (some p), .int .u64 406]) w := by kernel_rfl
theorem rl_elemV82 (a p : Addr) (W : World) (ha : W.cell? a = some (.pointer (some p))) :
    (ReflectliteValue.method (ReflectliteValue.valueError "reflectlite.Value.Elem" 0) ReflectliteValue.elem #[.agg #[.pointer (some ⟨6, 82, none⟩), .pointer (some a), .int .u64 150]]).run Tryd.prog W
      = .ok (.agg #[.pointer (some ⟨6, 80, none⟩), .pointer (some p), .int .u64 406]) W := by
  refine (congrArg (fun z : Sem Value => z.run Tryd.prog W) (show ReflectliteValue.method (ReflectliteValue.valueError "reflectlite.Value.Elem" 0) ReflectliteValue.elem #[.agg #[.pointer (some ⟨6, 82, none⟩), .pointer (some a), .int .u64 150]] = Bind.bind (m := Sem) (ReflectliteValue.parts (.agg #[.pointer (some ⟨6, 82, none⟩), .pointer (some a), .int .u64 150])) _ from rfl)).trans ?_
  simp only [Sem.run_bind, rl_parts82, Result.andThen]
  simp [ReflectliteValue.elem, loadVar, isAgg, underlying, Tryd.underlying82, ha, Result.andThen, rl_elemOf82, rl_mk74]
theorem rl_parts74a (a : Addr) (w : World) : (ReflectliteValue.parts (.agg #[.pointer (some ⟨6, 80, none⟩), .pointer (some a), .int .u64 406])).run Tryd.prog w = .ok (some (80, a, 406)) w := by kernel_rfl
theorem rl_parts74 (a : Addr) (w : World) : (ReflectliteValue.parts (.agg #[.pointer (some ⟨6, 80, none⟩), .pointer (some a), .int .u64 150])).run Tryd.prog w = .ok (some (80, a, 150)) w := by kernel_rfl
theorem rl_direct74 (w : World) : (Rtype.directlyAssignable 80 80).run Tryd.prog w = .ok true w := by kernel_rfl
theorem rl_set74 (ta b e : Addr) (old : Value) (W : World) (hb : W.cell? b = some (.pointer (some e))) (ht : W.cell? ta = some old) (hf : W.frozen? ta = false) :
    (ReflectliteValue.set #[.agg #[.pointer (some ⟨6, 80, none⟩), .pointer (some ta), .int .u64 406], .agg #[.pointer (some ⟨6, 80, none⟩), .pointer (some b), .int .u64 150]]).run Tryd.prog W
      = .ok (.tuple #[]) (W.setCell ta (.pointer (some e))) := by
  refine (congrArg (fun z : Sem Value => z.run Tryd.prog W) (show ReflectliteValue.set #[.agg #[.pointer (some ⟨6, 80, none⟩), .pointer (some ta), .int .u64 406], .agg #[.pointer (some ⟨6, 80, none⟩), .pointer (some b), .int .u64 150]] = Bind.bind (m := Sem) (ReflectliteValue.parts (.agg #[.pointer (some ⟨6, 80, none⟩), .pointer (some ta), .int .u64 406])) _ from rfl)).trans ?_
  simp only [Array.getLit, List.getElem_toArray, List.getElem_cons_succ, List.getElem_cons_zero, Sem.run_bind, rl_parts74a, rl_parts74, Result.andThen]
  simp [ReflectliteValue.flagAddr, loadVar, isAgg, underlying, Tryd.underlying80, hb, Result.andThen, rl_direct74, storeVar, Value.cells, storeCells, Addr.add]
  rw [run_store Tryd.prog W ta _ _ (by rfl)]
  simp [ht, hf]
end Go.Proofs.YtknkjhfemgiiaaaDoor
