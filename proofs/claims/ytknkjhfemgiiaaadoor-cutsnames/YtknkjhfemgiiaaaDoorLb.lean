import Derived.Test.YtknkjhfemgiiaaaDoorLa
import Derived.Handy
namespace Go.Proofs.YtknkjhfemgiiaaaDoor
open Go.RowKit Go.Extern.Stop Go.Stop Go.Extern

/-- The model's entry for Comparable. -/
def cmpF : Array Value → Sem Value := ReflectliteType.method fun t => do Rtype.noPackHeld "Comparable" t; pure (.bool (← typeInfo t).comparable)
theorem rl_comparable24 (w : World) : (cmpF #[.agg #[.pointer (some ⟨6, 46, none⟩)]]).run Tryd.prog w = .ok (.bool true) w := by kernel_rfl
theorem noIsF (v : Value) (xT : TypeId) (w : World) : (Instr.typeAssert (.iface 80 v) xT 140 true).run Tryd.prog w = .ok (.tuple #[.nilIface, .bool false]) w := run_typeAssert_lacksB Tryd.underlying140 (by kernel_rfl) (by kernel_rfl) v xT w
theorem hasUnwrapF (v : Value) (xT : TypeId) (w : World) : (Instr.typeAssert (.iface 80 v) xT 135 true).run Tryd.prog w = .ok (.tuple #[.iface 80 v, .bool true]) w := run_typeAssert_hasB Tryd.underlying135 (by kernel_rfl) v xT w
theorem methodUnwrapF (v : Value) (w : World) : (Go.method 135 80 v "Unwrap").run Tryd.prog w = .ok (102, v) w := by kernel_rfl
theorem comp24 : (Tryd.prog.info? 46).map (·.comparable) = some true := by kernel_rfl
theorem eql_errno (E : Int) (w : World) : (binOp .eql 28 (.iface 46 (.int .i64 E)) (.iface 46 (.int .i64 E))).run Tryd.prog w = .ok (.bool true) w := by
  obtain ⟨i, hi, hc⟩ := Option.map_eq_some_iff.1 comp24
  have h : ∀ d : Nat, (Op.equalIn (d + 1 + 1) 28 (.iface 46 (.int .i64 E)) (.iface 46 (.int .i64 E))).run Tryd.prog w = .ok true w := fun d => by
    simp [Op.equalIn, run_underlying Tryd.underlying28, run_underlying Tryd.underlying46, typeInfo, hi, hc]
  simp only [binOp]
  simp [Op.equal, Op.maxDepth, h 9998]
set_option maxHeartbeats 4000000 in
set_option maxRecDepth 1000000 in
theorem is_fault (Q : Nat) (A E : Int) (w : World) (hq : w.heap[Q]? = some (.cells #[.int .i64 A, .int .i64 E] 85 (0, 0))) :
    Calls Tryd.prog 38 #[.iface 80 (.pointer (some ⟨Q, 0, none⟩)), .iface 46 (.int .i64 E)] w fun e w' => e = .returned (.bool true) ∧ w' = w := by
  have h57 := @run_callFunc_extern Tryd.prog 55 _ ReflectliteType.typeOf Tryd.func55 (by kernel_rfl) (by kernel_rfl) (by kernel_rfl) (by kernel_rfl)
  have h87 := @run_callFunc_extern Tryd.prog 108 _ cmpF Tryd.func108 (by kernel_rfl) (by kernel_rfl) (by kernel_rfl) (by kernel_rfl)
  have tT := rl_typeOf24
  have cT := rl_comparable24
  have mR := rl_methodComparable
  have nF := noIsF
  have uF := hasUnwrapF
  have mU := methodUnwrapF
  have c1 : w.cell? ⟨Q, 1, none⟩ = some (.int .i64 E) := by simp [World.cell?, hq]
  have heq := eql_errno E w
  have hty := run_eql_iface_types (P := Tryd.prog) 80 46 (.pointer (some ⟨Q, 0, none⟩)) (.int .i64 E) Tryd.underlying28 (by decide) w
  go_enter Tryd.func38, Tryd.ntmps38
  go_wp2
  refine wp_loop_rounds 2 ?_
  rw [rounds_succ]
  go_wp2
  rw [rounds_succ]
  go_wp2
  go_ret
  exact ⟨rfl, rfl⟩
end Go.Proofs.YtknkjhfemgiiaaaDoor
