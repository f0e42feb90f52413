import Derived.Test.YtdnbjbdokppfnaaDoorA7
namespace Go.Proofs.YtdnbjbdokppfnaaDoor
open Go.RowKit

theorem plc_at (c l n : Int) (h : (c = 24 ∨ c = 25 ∨ c = 30 ∨ c = 50 ∨ c = 60) ∧ l = 0 ∨ c = 30 ∧ l = 2 ∨ c = 60 ∧ l = 4) (n0 : 0 ≤ n) (n1 : n < 144 * (600 * c - 9 * l)) :
    ∃ M k, 0 ≤ M ∧ M < 1440 ∧ 0 ≤ k ∧ k < 60 * c ∧ n + loa c l n = 60 * c * M + k ∧ loa c l n = (M - M / 10) * l ∧ (M % 10 ≠ 0 → l ≤ k) := by
  refine ⟨10 * (n / (600 * c - 9 * l)) + if 0 ≤ n % (600 * c - 9 * l) - 60 * c then 1 + (n % (600 * c - 9 * l) - 60 * c) / (60 * c - l) else 0, n + loa c l n - 60 * c * (10 * (n / (600 * c - 9 * l)) + if 0 ≤ n % (600 * c - 9 * l) - 60 * c then 1 + (n % (600 * c - 9 * l) - 60 * c) / (60 * c - l) else 0), ?_⟩
  unfold loa mno
  rcases h with ⟨rfl | rfl | rfl | rfl | rfl, rfl⟩ | ⟨rfl, rfl⟩ | ⟨rfl, rfl⟩ <;> (simp only [Int.mul_zero, Int.sub_zero, Int.reduceMul, Int.reduceSub] at n1 ⊢; split <;> refine ⟨?_, ?_, ?_, ?_, ?_, ?_, fun hm => ?_⟩ <;> first | trivial | omega)
theorem Rt.cl {r : Int} (h : Rt r) : (rc r = 24 ∨ rc r = 25 ∨ rc r = 30 ∨ rc r = 50 ∨ rc r = 60) ∧ rl r = 0 ∨ rc r = 30 ∧ rl r = 2 ∨ rc r = 60 ∧ rl r = 4 := by
  rcases h.cs with rfl | rfl | rfl | rfl | rfl | rfl | rfl <;> decide
theorem plc {r n : Int} (h : Rt r) (n0 : 0 ≤ n) (n1 : n < dy r) :
    ∃ M k, 0 ≤ M ∧ M < 1440 ∧ 0 ≤ k ∧ k < 60 * rc r ∧ n + loa (rc r) (rl r) n = 60 * rc r * M + k ∧ loa (rc r) (rl r) n = (M - M / 10) * rl r ∧ (M % 10 ≠ 0 → rl r ≤ k) :=
  plc_at _ _ n h.cl n0 n1
/-- A place among all names, by the clock. -/
theorem clk_at (c P M k : Int) (h : c = 24 ∨ c = 25 ∨ c = 30 ∨ c = 50 ∨ c = 60) (M0 : 0 ≤ M) (M1 : M < 1440) (k0 : 0 ≤ k) (k1 : k < 60 * c) (e : P = 60 * c * M + k) :
    P / c / 3600 = M / 60 ∧ P / c / 60 % 60 = M % 60 ∧ P / c % 60 = k / c ∧ P % c = k % c ∧ 0 ≤ M / 60 ∧ M / 60 ≤ 23 ∧ 0 ≤ M % 60 ∧ M % 60 ≤ 59 ∧ 0 ≤ k / c ∧ k / c ≤ 59 ∧ 0 ≤ k % c ∧ k % c < c := by
  subst e
  rcases h with rfl | rfl | rfl | rfl | rfl <;> (simp only [Int.reduceMul] at k1 ⊢; refine ⟨?_, ?_, ?_, ?_, ?_, ?_, ?_, ?_, ?_, ?_, ?_, ?_⟩ <;> omega)
theorem Rt.c5 {r : Int} (h : Rt r) : rc r = 24 ∨ rc r = 25 ∨ rc r = 30 ∨ rc r = 50 ∨ rc r = 60 := by
  rcases h.cs with rfl | rfl | rfl | rfl | rfl | rfl | rfl <;> decide
end Go.Proofs.YtdnbjbdokppfnaaDoor
