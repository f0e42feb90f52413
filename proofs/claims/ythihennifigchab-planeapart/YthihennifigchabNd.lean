import Derived.Test.YthihennifigchabNc
import Derived.Test.YthihennifigchabB3
import Derived.Test.YthihennifigchabB6
import Derived.Test.YthihennifigchabLb
import Derived.ChangeKeysEq
namespace Go.Proofs.Ythihennifigchab
open Go.RowKit

theorem Try.cellsN : Try.prog.cellsOf 3 = 1 := by kernel_rfl
theorem rg_at (h : Nat → Int) {i : Nat} (hi : i < 4) : (#[Value.int .i64 (h 0), .int .i64 (h 1), .int .i64 (h 2), .int .i64 (h 3)] : Array Value)[i]? = some (.int .i64 (h i)) := by
  match i, hi with
  | 0, _ => rfl
  | 1, _ => rfl
  | 2, _ => rfl
  | 3, _ => rfl
theorem arr_items (h : Nat → Int) (w : World) (is : List Nat) (hh : ∀ i ∈ is, i < 4) : (Op.eqItems 9999 3 (Try.prog.cellsOf 3) #[.int .i64 (h 0), .int .i64 (h 1), .int .i64 (h 2), .int .i64 (h 3)] #[.int .i64 (h 0), .int .i64 (h 1), .int .i64 (h 2), .int .i64 (h 3)] is).run Try.prog w = .ok true w := by
  induction is with
  | nil => simp [Op.eqItems]
  | cons i is ih =>
    have hi : i < 4 := hh i (by simp)
    have hp : (part 3 #[.int .i64 (h 0), .int .i64 (h 1), .int .i64 (h 2), .int .i64 (h 3)] (i * Try.prog.cellsOf 3)).run Try.prog w = .ok (.int .i64 (h i)) w := by
      rw [Try.cellsN, Nat.mul_one]
      simp only [part, isAgg, Sem.run_bind, run_underlying Try.underlying3, Result.andThen_ok, Sem.run_pure, Bool.false_eq_true, if_false, rg_at h hi]
    have he : (Op.equalIn 9999 3 (.int .i64 (h i)) (.int .i64 (h i))).run Try.prog w = .ok true w := by
      rw [run_equalIn_int w 9998 3 .i64 .i64 _ _ Try.underlying3]
      simp
    simp only [Op.eqItems, Sem.run_bind, hp, he, Result.andThen_ok, Bool.not_true, Bool.false_eq_true, if_false]
    exact ih (fun j hj => hh j (by simp [hj]))
theorem Try.info3s : (Try.prog.info? 3).isSome = true := by kernel_rfl
theorem arr_eq (h : Nat → Int) (w : World) : Sem.run Try.prog (binOp .eql 67 (rgv h) (rgv h)) w = .ok (.bool true) w := by
  obtain ⟨j, hi⟩ := Option.isSome_iff_exists.1 Try.info3s
  have h1 : (Op.equalIn 10000 67 (rgv h) (rgv h)).run Try.prog w = .ok true w := by
    rw [run_equalIn_array w 9999 _ _ Try.underlying67 hi]
    exact arr_items h w _ (fun i hi => by simpa using hi)
  simp only [binOp, Op.equal, Sem.run_bind, show Op.maxDepth = 10000 from rfl, h1, Result.andThen_ok, Sem.run_pure]

/-- One value is another one. -/
def upd (f : Nat → Nat) (K v : Nat) : Nat → Nat := fun j => if j = K then v else f j
theorem df_self (a : Nat) : df a a = 0 := by unfold df; omega
theorem df_comm (a b : Nat) : df a b = df b a := by unfold df; omega
theorem mxd_self (f : Nat → Nat) : ∀ n, mxd f f n = 0
  | 0 => rfl
  | n + 1 => by
    show max (mxd f f n) (df (f n) (f n)) = 0
    rw [mxd_self f n, df_self]
    rfl
theorem mxd_upd (f : Nat → Nat) (K v : Nat) : ∀ n, mxd f (upd f K v) n = if K < n then df (f K) v else 0
  | 0 => by rw [if_neg (by omega)]; rfl
  | n + 1 => by
    show max (mxd f (upd f K v) n) (df (f n) (upd f K v n)) = _
    rw [mxd_upd f K v n]
    unfold upd
    by_cases e : n = K
    · subst e
      rw [if_neg (by omega), if_pos rfl, if_pos (by omega)]
      omega
    · rw [if_neg e, df_self]
      by_cases h : K < n
      · rw [if_pos h, if_pos (by omega)]
        omega
      · rw [if_neg h, if_neg (by omega)]
        rfl
theorem sqs_comm (f g : Nat → Nat) : ∀ n, sqs f g n = sqs g f n
  | 0 => rfl
  | n + 1 => by
    show sqs f g n + df (f n) (g n) * df (f n) (g n) = sqs g f n + df (g n) (f n) * df (g n) (f n)
    rw [sqs_comm f g n, df_comm]
theorem sqs_upd (f : Nat → Nat) (K v : Nat) : ∀ n, sqs f (upd f K v) n = if K < n then df (f K) v * df (f K) v else 0
  | 0 => by rw [if_neg (by omega)]; rfl
  | n + 1 => by
    show sqs f (upd f K v) n + df (f n) (upd f K v n) * df (f n) (upd f K v n) = _
    rw [sqs_upd f K v n]
    unfold upd
    by_cases e : n = K
    · subst e
      rw [if_neg (by omega), if_pos rfl, if_pos (by omega)]
      omega
    · rw [if_neg e, df_self]
      by_cases h : K < n
      · rw [if_pos h, if_pos (by omega), Nat.zero_mul, Nat.add_zero]
      · rw [if_neg h, if_neg (by omega)]
/-- A frame one of whose samples is another one. -/
def updF (F : Nat → Nat → Nat) (P K v : Nat) : Nat → Nat → Nat := fun i => if i = P then upd (F P) K v else F i
theorem rgF_self (n : Nat) (ln : Nat → Nat) (F : Nat → Nat → Nat) : rgF n ln F F = fun _ => 0 := by
  funext p
  unfold rgF
  split
  · rw [mxd_self]; rfl
  · rfl
theorem rgF_upd (n : Nat) (ln : Nat → Nat) (F : Nat → Nat → Nat) (P K v : Nat) (hP : P < n) (hK : K < ln P) : rgF n ln F (updF F P K v) = fun t => if t = P then ((df (F P K) v : Nat) : Int) else 0 := by
  funext p
  unfold rgF updF
  by_cases e : p = P
  · subst e
    rw [if_pos hP, if_pos rfl, if_pos rfl, mxd_upd, if_pos hK]
  · rw [if_neg e, if_neg e]
    split
    · rw [mxd_self]; rfl
    · rfl
theorem alF_upd (n : Nat) (ln : Nat → Nat) (F : Nat → Nat → Nat) (P K v : Nat) (hP : P < n) (hK : K < ln P) : alF F (updF F P K v) n ln ln = decide (df (F P K) v = 0) := by
  by_cases h : F P K = v
  · have hd : df (F P K) v = 0 := by rw [h]; exact df_self v
    rw [hd]
    refine (alF_yes (fun i hi => eqL_yes (fun j hj => ?_))).trans (by simp)
    unfold updF
    split
    · rename_i e
      subst e
      unfold upd
      split
      · rename_i e2; subst e2; exact h
      · rfl
    · rfl
  · have hd : ¬ df (F P K) v = 0 := by unfold df; omega
    rw [decide_eq_false hd]
    refine alF_no hP (eqL_no hK ?_)
    unfold updF upd
    rw [if_pos rfl, if_pos rfl]
    exact h
theorem vld_upd {W H D : Int} {A : Bool} {n : Nat} {ln : Nat → Nat} {F : Nat → Nat → Nat} {P K v : Nat} (h : Vld W H D A n ln F) (hv : v ≤ mx D) : Vld W H D A n ln (updF F P K v) :=
  ⟨h.shp, h.num, h.len, fun i hi j hj => by
    unfold updF
    split
    · rename_i e
      subst e
      unfold upd
      split
      · exact hv
      · exact h.top i hi j hj
    · exact h.top i hi j hj⟩
end Go.Proofs.Ythihennifigchab
