import Derived.Test.YtahoeodpjdbdkabDoorFy
import Derived.Test.YtahoeodpjdbdkabDoorFx
namespace Go.Proofs.YtahoeodpjdbdkabDoor
open Go.RowKit

/-- The sides that are picked may be. -/
theorem flat_sides (a b : Int) : ∃ W H n : Nat, 1 + pk a 4096 = (W : Int) ∧ 1 + pk b (min 4096 (4194304 / (W : Int))) = (H : Int) ∧ n = W * H ∧ szd (W : Int) (H : Int) = true ∧ (W : Int) * (H : Int) = (n : Int) ∧ 1 ≤ W ∧ W ≤ 4096 ∧ 1 ≤ H ∧ H ≤ 4096 ∧ 1 ≤ n ∧ n ≤ 4194304 ∧ 1024 ≤ 4194304 / (W : Int) ∧ 4194304 / (W : Int) ≤ 4194304 := by
  have h1 := pk_in a (n := 4096) (by omega)
  obtain ⟨W, hW⟩ : ∃ W : Nat, 1 + pk a 4096 = (W : Int) := ⟨(1 + pk a 4096).toNat, by omega⟩
  have hW1 : 1 ≤ W := by omega
  have hW2 : W ≤ 4096 := by omega
  have q1 : 1024 ≤ 4194304 / W := by
    rw [Nat.le_div_iff_mul_le (by omega)]
    have := Nat.mul_le_mul (Nat.le_refl 1024) hW2
    omega
  have q2 : 4194304 / W ≤ 4194304 := Nat.div_le_self _ _
  have qc : (4194304 : Int) / (W : Int) = ((4194304 / W : Nat) : Int) := by simp
  have h2 := pk_in b (n := min 4096 (4194304 / (W : Int))) (by rw [qc]; omega)
  obtain ⟨H, hH⟩ : ∃ H : Nat, 1 + pk b (min 4096 (4194304 / (W : Int))) = (H : Int) := ⟨(1 + pk b (min 4096 (4194304 / (W : Int)))).toNat, by omega⟩
  rw [qc] at h2 hH
  have hH1 : 1 ≤ H := by omega
  have hH2 : H ≤ 4096 := by omega
  have hH3 : H ≤ 4194304 / W := by omega
  have hm : W * H ≤ 4194304 := Nat.le_trans (Nat.mul_le_mul (Nat.le_refl W) hH3) (Nat.mul_div_le _ _)
  have hm1 : 1 ≤ W * H := Nat.mul_pos hW1 hH1
  refine ⟨W, H, W * H, hW, by rw [qc]; exact hH, rfl, ?_, by simp, hW1, hW2, hH1, hH2, hm1, hm, by rw [qc]; omega, by rw [qc]; omega⟩
  unfold szd
  have hc : (W : Int) * (H : Int) = ((W * H : Nat) : Int) := by simp
  rw [decide_eq_true_eq, hc]
  omega

theorem flat_depth (c : Int) : ∃ D T : Int, 10 + 2 * pk c 2 = D ∧ Dp D T ∧ 2 ^ D.toNat = T + 1 ∧ (D = 10 ∨ D = 12) := by
  have h := pk_in c (n := 2) (by omega)
  rcases (show pk c 2 = 0 ∨ pk c 2 = 1 by omega) with e | e
  · exact ⟨10, 1023, by rw [e]; rfl, .inl ⟨rfl, rfl⟩, by decide, .inl rfl⟩
  · exact ⟨12, 4095, by rw [e]; rfl, .inr ⟨rfl, rfl⟩, by decide, .inr rfl⟩
end Go.Proofs.YtahoeodpjdbdkabDoor
