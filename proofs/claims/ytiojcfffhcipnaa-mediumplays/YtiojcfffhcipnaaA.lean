import Derived.Test.YtiojcfffhcipnaaK
import Derived.Test.YtiojcfffhcipnaaM
namespace Go.Proofs.Ytiojcfffhcipnaa
open Go.RowKit

theorem ret_int {k : IntKind} {a b : Int} (h : a = b) : Ending.returned (.int k a) = .returned (.int k b) := by rw [h]
theorem ret_bool {a b : Bool} (h : a = b) : Ending.returned (.bool a) = .returned (.bool b) := by rw [h]

theorem mask_eq (v n : Int) (h0 : 0 ≤ n) (h1 : n ≤ 63) (v0 : 0 ≤ v) (v1 : v < 18446744073709551616) :
    bits BinOp.and IntKind.u64 v (IntKind.u64.wrap (IntKind.u64.wrap (2 ^ n.toNat) - 1)) = v % 2 ^ n.toNat := by
  have hp : (2 : Nat) ^ n.toNat ≤ 2 ^ 63 := Nat.pow_le_pow_right (by decide) (by omega)
  have hp0 : 0 < (2 : Nat) ^ n.toNat := Nat.two_pow_pos _
  have e1 : ((2 : Int) ^ n.toNat) = (((2 : Nat) ^ n.toNat : Nat) : Int) := by simp
  rw [e1, IntKind.wrap_u64, IntKind.wrap_u64]
  generalize hq : (2 : Nat) ^ n.toNat = q at *
  have e2 : ((((q : Nat) : Int) % 18446744073709551616 - 1) % 18446744073709551616) = ((q - 1 : Nat) : Int) := by omega
  rw [e2, u64_and v _ v0 v1 (by omega) (by omega), Int.toNat_natCast, ← hq, Nat.and_two_pow_sub_one_eq_mod, Int.natCast_emod, Int.toNat_of_nonneg v0]

theorem byte_eq (X k : Int) (j : Nat) (k1 : k ≤ 8) (X0 : 0 ≤ X) (hj : (j : Int) < k) :
    X / 2 ^ (8 * (k - 1 - (j : Int))).toNat % 256 = ((X.toNat / 256 ^ (k.toNat - (j + 1)) % 256 : Nat) : Int) := by
  obtain ⟨x, rfl⟩ := Int.eq_ofNat_of_zero_le X0
  obtain ⟨q, rfl⟩ := Int.eq_ofNat_of_zero_le (show 0 ≤ k by omega)
  have e : (8 * ((q : Int) - 1 - (j : Int))).toNat = 8 * (q - (j + 1)) := by omega
  have e1 : ((2 : Int) ^ (8 * (q - (j + 1)))) = (((2 : Nat) ^ (8 * (q - (j + 1))) : Nat) : Int) := by simp
  rw [e, pow256, e1, Int.toNat_natCast, Int.toNat_natCast, Int.natCast_emod, Int.natCast_ediv]
  rfl

end Go.Proofs.Ytiojcfffhcipnaa
