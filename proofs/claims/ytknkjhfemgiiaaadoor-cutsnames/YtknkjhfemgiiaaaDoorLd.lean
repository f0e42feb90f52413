import Derived.Test.YtknkjhfemgiiaaaDoorLb
import Derived.Test.YtknkjhfemgiiaaaDoorLc
namespace Go.Proofs.YtknkjhfemgiiaaaDoor
open Go.RowKit Go.Extern.Stop Go.Stop Go.Extern

theorem noIsE (v : Value) (xT : TypeId) (w : World) : (Instr.typeAssert (.iface 46 v) xT 140 true).run Tryd.prog w = .ok (.tuple #[.nilIface, .bool false]) w := run_typeAssert_lacksB Tryd.underlying140 (by kernel_rfl) (by kernel_rfl) v xT w
theorem noUnE (v : Value) (xT : TypeId) (w : World) : (Instr.typeAssert (.iface 46 v) xT 135 true).run Tryd.prog w = .ok (.tuple #[.nilIface, .bool false]) w := run_typeAssert_lacksB Tryd.underlying135 (by kernel_rfl) (by kernel_rfl) v xT w
theorem noUsE (v : Value) (xT : TypeId) (w : World) : (Instr.typeAssert (.iface 46 v) xT 137 true).run Tryd.prog w = .ok (.tuple #[.nilIface, .bool false]) w := run_typeAssert_lacksB Tryd.underlying137 (by kernel_rfl) (by kernel_rfl) v xT w
theorem neq_errno (E K : Int) (h : E ≠ K) (w : World) : (binOp .eql 28 (.iface 46 (.int .i64 E)) (.iface 46 (.int .i64 K))).run Tryd.prog w = .ok (.bool false) w := by
  obtain ⟨i, hi, hc⟩ := Option.map_eq_some_iff.1 comp24
  have h : ∀ d : Nat, (Op.equalIn (d + 1 + 1) 28 (.iface 46 (.int .i64 E)) (.iface 46 (.int .i64 K))).run Tryd.prog w = .ok false w := fun d => by
    simp [Op.equalIn, run_underlying Tryd.underlying28, run_underlying Tryd.underlying46, typeInfo, hi, hc, h]
  simp only [binOp]
  simp [Op.equal, Op.maxDepth, h 9998]
set_option maxHeartbeats 4000000 in
set_option maxRecDepth 1000000 in
theorem is_other (Q : Nat) (A E K : Int) (w : World) (hq : w.heap[Q]? = some (.cells #[.int .i64 A, .int .i64 E] 85 (0, 0))) (hE : E ≠ K) :
    Calls Tryd.prog 38 #[.iface 80 (.pointer (some ⟨Q, 0, none⟩)), .iface 46 (.int .i64 K)] w fun e w' => e = .returned (.bool false) ∧ w' = w := by
  have h57 := @run_callFunc_extern Tryd.prog 55 _ ReflectliteType.typeOf Tryd.func55 (by kernel_rfl) (by kernel_rfl) (by kernel_rfl) (by kernel_rfl)
  have h87 := @run_callFunc_extern Tryd.prog 108 _ cmpF Tryd.func108 (by kernel_rfl) (by kernel_rfl) (by kernel_rfl) (by kernel_rfl)
  have tT := rl_typeOf24
  have cT := rl_comparable24
  have mR := rl_methodComparable
  have nF := noIsF
  have uF := hasUnwrapF
  have mU := methodUnwrapF
  have nE := noIsE
  have nU := noUnE
  have nS := noUsE
  have c1 : w.cell? ⟨Q, 1, none⟩ = some (.int .i64 E) := by simp [World.cell?, hq]
  have heq := neq_errno E K hE w
  have hty := run_eql_iface_types (P := Tryd.prog) 80 46 (.pointer (some ⟨Q, 0, none⟩)) (.int .i64 K) Tryd.underlying28 (by decide) w
  go_enter Tryd.func38, Tryd.ntmps38
  go_wp2
  refine wp_loop_rounds 2 ?_
  rw [rounds_succ]
  go_wp2
  rw [rounds_succ]
  go_wp2
  go_ret
  exact ⟨rfl, rfl⟩
/-- The variable errors.errorType. -/
def Et (w : World) : Prop := w.cell? ⟨1, 0, none⟩ = some (.iface 128 (.agg #[.pointer (some ⟨6, 28, none⟩)]))
theorem Et.keep {w w' : World} (h : Et w) (hk : Kept [] w w') : Et w' := cell_keep hk h (by simp)
end Go.Proofs.YtknkjhfemgiiaaaDoor
