import Derived.Test.YtlkbpimlofgflaaDoorcC2
namespace Go.Proofs.YtlkbpimlofgflaaDoor.Cr
open Go.RowKit

/-- The rest of x^(8 n). -/
def far (n : Nat) : BitVec 32 := X (8 * n) 1#32

theorem far_mul (p q : Nat) : M (far p) (far q) = far (p + q) := by
  unfold far
  rw [M_X_X, Nat.mul_add]
theorem far_zero : nm (far 0) = 1 := rfl
theorem far_one : nm (far 1) = 256 := by decide +kernel

/-- What Join comes to. -/
def jn (a b : BitVec 32) (n : Nat) : BitVec 32 := b ^^^ X (8 * n) a

theorem jn_code (a b : BitVec 32) (n : Nat) : b ^^^ M a (far n) = jn a b n := by rw [far, M_X]; rfl
theorem jn_doc (a b : BitVec 32) (n : Nat) : b ^^^ M (far n) a = jn a b n := by rw [M_comm, jn_code]

end Go.Proofs.YtlkbpimlofgflaaDoor.Cr
