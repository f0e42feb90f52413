import Derived.Test.YtmgfapooanpgfaaN2
namespace Go.Proofs.Ytmgfapooanpgfaa
open Go Go.RowKit

theorem gt_stop {n : Nat} {A B : Nat → Nat → Nat} (c k : Nat) (h : gt n A B c = none) : gt n A B (c + k) = none := by
  induction k with
  | zero => exact h
  | succ k ih => rw [← Nat.add_assoc, gt, ih]
theorem gt_step {n : Nat} {A B X Y : Nat → Nat → Nat} {c r : Nat} (h : gt n A B c = some (X, Y)) (hr : pv X c c (n - c) = some r) : gt n A B (c + 1) = some (st X c r X, st X c r Y) := by
  rw [gt, h]; simp only [hr]
theorem gt_fail {n : Nat} {A B X Y : Nat → Nat → Nat} {c : Nat} (h : gt n A B c = some (X, Y)) (hr : pv X c c (n - c) = none) : gt n A B (c + 1) = none := by
  rw [gt, h]; simp only [hr]
end Go.Proofs.Ytmgfapooanpgfaa
