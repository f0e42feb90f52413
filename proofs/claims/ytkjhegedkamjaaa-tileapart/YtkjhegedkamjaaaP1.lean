import Derived.Test.YtkjhegedkamjaaaAw
import Derived.Test.YtkjhegedkamjaaaT5
import Derived.Test.YtkjhegedkamjaaaF1
namespace Go.Proofs.Ytkjhegedkamjaaa
open Go.RowKit

theorem div_in {x s a : Int} (hs : 0 < s) : a * s ≤ x ∧ x < a * s + s ↔ x / s = a := by
  constructor
  · rintro ⟨h1, h2⟩
    have e1 : a ≤ x / s := Int.le_ediv_of_mul_le hs h1
    have e2 : x / s < a + 1 := Int.ediv_lt_of_lt_mul hs (by rw [Int.add_mul]; omega)
    omega
  · rintro rfl
    have h1 := Int.ediv_mul_le x (b := s) (by omega)
    have h2 := Int.lt_ediv_add_one_mul_self x hs
    rw [Int.add_mul] at h2
    omega
theorem hs_slice {W H sw sh c r : Int} (g : Gd W H sw sh c r) {k x y : Int} (x0 : 0 ≤ x) (x1 : x < W) (y1 : y < H) :
    hs (sX c sw k) (sY c sh k) (min sw (W - sX c sw k)) (min sh (H - sY c sh k)) x y = decide (k = sA c sw sh x y) := by
  have ax := at_x g x0 x1
  have dx := div_in (x := x) (s := sw) (a := k % c) (by have := g.s0; omega)
  have dy := div_in (x := y) (s := sh) (a := k / c) (by have := g.t0; omega)
  have hc := g.c0
  have ek : c * (k / c) + k % c = k := Int.mul_ediv_add_emod k c
  unfold hs
  refine decide_eq_decide.2 ?_
  unfold sX sY
  have e : (k % c * sw ≤ x ∧ x < k % c * sw + min sw (W - k % c * sw) ∧ k / c * sh ≤ y ∧ y < k / c * sh + min sh (H - k / c * sh)) ↔ (x / sw = k % c ∧ y / sh = k / c) := by
    rw [← dx, ← dy]
    constructor
    · rintro ⟨h1, h2, h3, h4⟩; omega
    · rintro ⟨⟨h1, h2⟩, h3, h4⟩; omega
  rw [e]
  unfold sA
  constructor
  · rintro ⟨h1, h2⟩
    rw [h1, h2, Int.mul_comm]
    omega
  · intro h
    have m1 : k % c = x / sw := by rw [h, Int.add_comm, Int.mul_comm, Int.add_mul_emod_self_left]; exact Int.emod_eq_of_lt ax.1 ax.2
    have m2 : k / c = y / sh := by
      rw [h, Int.add_comm, Int.add_mul_ediv_right _ _ (by omega), Int.ediv_eq_zero_of_lt ax.1 ax.2]; omega
    exact ⟨m1.symm, m2.symm⟩
theorem hs_half {X Y rw rh x y : Int} (Xe : X % 2 = 0) : hs (X / 2) Y (hf rw) rh (x / 2) y = hs X Y rw rh (x - x % 2) y := by
  unfold hs hf
  refine decide_eq_decide.2 ?_
  omega
end Go.Proofs.Ytkjhegedkamjaaa
