import Derived.Test.YtmgfapooanpgfaaM3
namespace Go.Proofs.Ytmgfapooanpgfaa
open Go.RowKit

theorem powN_inv (a : Nat) : powN a (-1) = iv a := by
  unfold powN iv
  rw [if_neg (by decide), show ((-1 : Int) % 255).toNat = 254 from by decide]
  split
  · rename_i h; subst h; exact iv_zero.symm
  · rfl
/-- The error of an inverse. -/
def dvE (b : Nat) : Int := if b = 0 then 41 else 0
theorem powE_inv (a : Nat) : powE a (-1) = dvE a := by
  unfold powE dvE; simp
theorem dvE_zero : dvE 0 = 41 := rfl
theorem dvE_pos {b : Nat} (h : b ≠ 0) : dvE b = 0 := if_neg h

/-- What alive says. -/
theorem alive_mul : mu 2 128 = 101 := by decide +kernel
theorem alive_iv : iv 2 = 178 := (iv_one (by decide) (by decide) (by decide) (by decide +kernel)).symm

end Go.Proofs.Ytmgfapooanpgfaa
