import Derived.Test.YtdnbjbdokppfnaaDoorE2
namespace Go.Proofs.YtdnbjbdokppfnaaDoor
open Go.RowKit Go.Lib

/-- A rate's speed, as the statement lists it. -/
def slw (k : Nat) : Int := if k = 0 then 24024000 else if k = 1 then 25025000 else if k = 2 then 30030000 else if k = 3 then 30000000 else if k = 4 then 50050000 else if k = 5 then 60060000 else 60000000
theorem slw_le (a b : Nat) (ha : a < 7) (hb : b < 7) (h : ¬ slw b < slw a) : ra (a + 1) * rb (b + 1) ≤ rb (a + 1) * ra (b + 1) := by
  have h1 : a = 0 ∨ a = 1 ∨ a = 2 ∨ a = 3 ∨ a = 4 ∨ a = 5 ∨ a = 6 := by omega
  have h2 : b = 0 ∨ b = 1 ∨ b = 2 ∨ b = 3 ∨ b = 4 ∨ b = 5 ∨ b = 6 := by omega
  revert h
  rcases h1 with rfl | rfl | rfl | rfl | rfl | rfl | rfl <;> rcases h2 with rfl | rfl | rfl | rfl | rfl | rfl | rfl <;> decide
theorem slw_cell (u : World) (k : Nat) (hk : k < 7) : (u.alloc (.cells #[.int .i64 24024000, .int .i64 25025000, .int .i64 30030000, .int .i64 30000000, .int .i64 50050000, .int .i64 60060000, .int .i64 60000000] 3 (0, 0))).cell? ⟨u.heap.size, k, none⟩ = some (.int .i64 (slw k)) := by
  have h1 : k = 0 ∨ k = 1 ∨ k = 2 ∨ k = 3 ∨ k = 4 ∨ k = 5 ∨ k = 6 := by omega
  rcases h1 with rfl | rfl | rfl | rfl | rfl | rfl | rfl <;> exact alloc_cell _ _ _ _ _ rfl
theorem cv_mono (f t m n : Int) (hf : Rt f) (ht : Rt t) (h : m ≤ n) : cv f t m ≤ cv f t n := by
  unfold cv
  have b0 := hf.pb.b0
  have a0 := ht.pb.a0
  have a1 := hf.pb.a0
  have b1 := ht.pb.b0
  refine Int.ediv_le_ediv (Int.mul_pos (by omega) (by omega)) ?_
  exact Int.mul_le_mul_of_nonneg_right (Int.mul_le_mul_of_nonneg_right h (by omega)) (by omega)
theorem cv_same (f n : Int) (hf : Rt f) : cv f f n = n := by
  unfold cv
  have b0 := hf.pb.b0
  have a0 := hf.pb.a0
  rw [Int.mul_assoc, Int.mul_comm (rb f) (ra f)]
  exact Int.mul_ediv_cancel _ (by have := Int.mul_pos (show 0 < ra f by omega) (show 0 < rb f by omega); omega)
theorem cv_nonneg (f t n : Int) (hf : Rt f) (ht : Rt t) (h : 0 ≤ n) : 0 ≤ cv f t n := by
  unfold cv
  have b0 := hf.pb.b0
  have a0 := ht.pb.a0
  have a1 := hf.pb.a0
  have b1 := ht.pb.b0
  exact Int.ediv_nonneg (Int.mul_nonneg (Int.mul_nonneg h (by omega)) (by omega)) (Int.mul_nonneg (by omega) (by omega))
theorem back_le (X Y n : Int) (hY : 0 < Y) (hX : Y ≤ X) : n * X / Y * Y / X = n ∨ n * X / Y * Y / X = n - 1 := by
  have h1 := Int.emod_add_mul_ediv (n * X) Y
  have h2 := Int.emod_nonneg (n * X) (show Y ≠ 0 by omega)
  have h3 := Int.emod_lt_of_pos (n * X) hY
  generalize n * X / Y = b at *
  generalize n * X % Y = e at *
  have h4 : b * Y = Y * b := Int.mul_comm _ _
  have lo : n - 1 ≤ b * Y / X := (Int.le_ediv_iff_mul_le (by omega)).2 (by rw [Int.sub_mul]; omega)
  have hi : b * Y / X < n + 1 := (Int.ediv_lt_iff_lt_mul (by omega)).2 (by rw [Int.add_mul]; omega)
  omega
theorem cv_back (a b : Nat) (n : Int) (ha : a < 7) (hb : b < 7) (h : ¬ slw b < slw a) : cv (b + 1) (a + 1) (cv (a + 1) (b + 1) n) = n ∨ cv (b + 1) (a + 1) (cv (a + 1) (b + 1) n) = n - 1 := by
  have ra1 : Rt ((a : Int) + 1) := ⟨by omega, by omega⟩
  have rb1 : Rt ((b : Int) + 1) := ⟨by omega, by omega⟩
  have := back_le (rb (a + 1) * ra (b + 1)) (ra (a + 1) * rb (b + 1)) n (Int.mul_pos (by have := ra1.pb.a0; omega) (by have := rb1.pb.b0; omega)) (slw_le a b ha hb h)
  unfold cv
  rw [Int.mul_assoc n, Int.mul_assoc (n * (rb (↑a + 1) * ra (↑b + 1)) / (ra (↑a + 1) * rb (↑b + 1)))]
  rw [Int.mul_comm (rb (↑b + 1)) (ra (↑a + 1)), Int.mul_comm (ra (↑b + 1)) (rb (↑a + 1))]
  exact this
end Go.Proofs.YtdnbjbdokppfnaaDoor
