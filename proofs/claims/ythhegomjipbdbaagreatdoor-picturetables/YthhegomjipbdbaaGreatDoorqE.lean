import Derived.Test.YthhegomjipbdbaaGreatDoorpG
import Derived.ChangeKeysEq
namespace Go.Proofs.YthhegomjipbdbaaGreatDoor.Pc
open Go.RowKit

theorem Tryz.cellsI : Tryz.prog.cellsOf 3 = 1 := by kernel_rfl
theorem Tryz.infoI3 : (Tryz.prog.info? 3).isSome = true := by kernel_rfl
/-- A rung is the same as itself. -/
theorem rung_eql (a0 a1 a2 a3 : Int) (w : World) : (Op.equalIn 10000 25 (.agg #[.int .i64 a0, .int .i64 a1, .int .i64 a2, .int .i64 a3]) (.agg #[.int .i64 a0, .int .i64 a1, .int .i64 a2, .int .i64 a3])).run Tryz.prog w = .ok true w := by
  obtain ⟨i, hi⟩ := Option.isSome_iff_exists.1 Tryz.infoI3
  rw [run_equalIn_array w 9999 _ _ Tryz.underlying25 hi]
  have hp : ∀ (j : Nat) (x : Int), (#[.int .i64 a0, .int .i64 a1, .int .i64 a2, .int .i64 a3] : Array Value)[j]? = some (.int .i64 x) → (part 3 #[.int .i64 a0, .int .i64 a1, .int .i64 a2, .int .i64 a3] (j * Tryz.prog.cellsOf 3)).run Tryz.prog w = .ok (.int .i64 x) w := fun j x h => by
    rw [Tryz.cellsI, Nat.mul_one]
    simp [part, isAgg, run_underlying Tryz.underlying3, h]
  have he : ∀ x : Int, (Op.equalIn 9999 3 (.int .i64 x) (.int .i64 x)).run Tryz.prog w = .ok true w := fun x => by
    rw [run_equalIn_int w 9998 3 .i64 .i64 _ _ Tryz.underlying3]
    simp
  show (Op.eqItems 9999 3 (Tryz.prog.cellsOf 3) _ _ [0, 1, 2, 3]).run Tryz.prog w = _
  simp only [Op.eqItems, Sem.run_bind, hp 0 a0 rfl, hp 1 a1 rfl, hp 2 a2 rfl, hp 3 a3 rfl, he, Result.andThen_ok, Bool.not_true, Bool.false_eq_true, if_false]
  first | rfl | simp
end Go.Proofs.YthhegomjipbdbaaGreatDoor.Pc
