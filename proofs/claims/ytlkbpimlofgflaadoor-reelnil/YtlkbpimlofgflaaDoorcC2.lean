import Derived.Test.YtlkbpimlofgflaaDoorcC0
namespace Go.Proofs.YtlkbpimlofgflaaDoor.Cr
open Go.RowKit

/-- A rest as a number of Go. -/
def nm (a : BitVec 32) : Int := (a.toNat : Int)

theorem nm_lo (a : BitVec 32) : 0 ≤ nm a := by unfold nm; omega
theorem nm_hi (a : BitVec 32) : nm a < 4294967296 := by have := a.isLt; unfold nm; omega
theorem nm_eq {a b : BitVec 32} : nm a = nm b ↔ a = b := by
  unfold nm
  constructor
  · intro h; exact BitVec.eq_of_toNat_eq (by omega)
  · rintro rfl; rfl

theorem nm_of (n : Int) (h0 : 0 ≤ n) (h1 : n < 4294967296) : ∃ a, n = nm a := ⟨BitVec.ofNat 32 n.toNat, by
  unfold nm
  rw [BitVec.toNat_ofNat]
  omega⟩

theorem nm_xor (a b : BitVec 32) : bits BinOp.xor IntKind.u32 (nm a) (nm b) = nm (a ^^^ b) := by
  unfold nm
  rw [u32_xor_nat _ _ a.isLt b.isLt, BitVec.toNat_xor]

theorem nm_P : (79764919 : Int) = nm P := by decide

theorem nm_shl (a : BitVec 32) (n : Nat) : nm a * 2 ^ n % 4294967296 = nm (a <<< n) := by
  unfold nm
  rw [BitVec.toNat_shiftLeft, Nat.shiftLeft_eq]
  have : ((a.toNat * 2 ^ n : Nat) : Int) = (a.toNat : Int) * 2 ^ n := by simp
  omega

theorem nm_msb (a : BitVec 32) : a.msb = decide (2147483648 ≤ nm a) := by
  rw [BitVec.msb_eq_decide]
  unfold nm
  simp only [show 2 ^ (32 - 1) = 2147483648 from rfl]
  congr 1
  apply propext; omega

theorem tx_nm_hi (a : BitVec 32) (h : 2147483648 ≤ nm a) : bits BinOp.xor IntKind.u32 (nm a * 2 % 4294967296) 79764919 = nm (tx a) := by
  have hs := nm_shl a 1
  rw [Int.pow_one] at hs
  rw [hs, nm_P, nm_xor]
  unfold tx
  rw [nm_msb]
  simp [h]

theorem tx_nm_lo (a : BitVec 32) (h : nm a < 2147483648) : nm a * 2 = nm (tx a) := by
  have hs := nm_shl a 1
  rw [Int.pow_one] at hs
  have h0 := nm_lo a
  have e : nm a * 2 % 4294967296 = nm a * 2 := by omega
  rw [e] at hs
  rw [hs]
  unfold tx
  rw [nm_msb]
  simp [show ¬ 2147483648 ≤ nm a by omega]

set_option maxHeartbeats 400000 in
theorem timesX_any (a : BitVec 32) (w : World) :
    Calls Tryd.prog 69 #[.int .u32 (nm a)] w fun e w' => e = .returned (.int .u32 (nm (tx a))) ∧ w' = w := by
  have h0 := nm_lo a
  have h1 := nm_hi a
  by_cases h : 2147483648 ≤ nm a
  · have hd : nm a / 2147483648 = 1 := by omega
    have hx := tx_nm_hi a h
    go_enter Tryd.func69, Tryd.ntmps69
    go_wp2
    go_ret
    exact ⟨rfl, rfl⟩
  · have hd : nm a / 2147483648 = 0 := by omega
    have hx := tx_nm_lo a (by omega)
    go_enter Tryd.func69, Tryd.ntmps69
    go_wp2
    go_ret
    exact ⟨rfl, rfl⟩

theorem nm_bit (a : BitVec 32) (j : Nat) : a.getLsbD j = decide (nm a / 2 ^ j % 2 = 1) := by
  have h : a.getLsbD j = a.toNat.testBit j := by rw [BitVec.testBit_toNat]
  rw [h, Nat.testBit_eq_decide_div_mod_eq]
  unfold nm
  have : ((a.toNat / 2 ^ j : Nat) : Int) = (a.toNat : Int) / 2 ^ j := by simp
  congr 1
  apply propext
  constructor <;> intro h <;> omega

theorem nm_top (a : BitVec 32) (k : Nat) (hk : k < 32) : nm a * 2 ^ k % 4294967296 / 2147483648 = if a.getLsbD (31 - k) then 1 else 0 := by
  rw [nm_shl]
  have h1 := nm_hi (a <<< k)
  have h0 := nm_lo (a <<< k)
  have hm := nm_msb (a <<< k)
  rw [BitVec.msb_eq_getLsbD_last, BitVec.getLsbD_shiftLeft] at hm
  simp only [show 32 - 1 = 31 from rfl] at hm
  rw [show decide (31 < 32) = true from rfl, show decide (31 < k) = false from by simp; omega] at hm
  simp only [Bool.not_false, Bool.true_and] at hm
  rw [hm]
  by_cases h : 2147483648 ≤ nm (a <<< k)
  · simp [h]; omega
  · simp [h]; omega

theorem mh_pos (a b : BitVec 32) (k : Nat) (h : a.getLsbD (31 - k) = true) : tx (mh a b k) ^^^ b = mh a b (k + 1) := by simp only [mh, h, if_true]
theorem mh_neg (a b : BitVec 32) (k : Nat) (h : a.getLsbD (31 - k) = false) : tx (mh a b k) = mh a b (k + 1) := by simp only [mh, h, Bool.false_eq_true, if_false, BitVec.xor_zero]

theorem nm_zero : (0 : Int) = nm 0#32 := rfl
theorem nm_one : (1 : Int) = nm 1#32 := rfl

/-- A coefficient as a number, as a rest. -/
def bi (c : Bool) : Int := if c then 1 else 0
def bv (c : Bool) : BitVec 32 := if c then 1#32 else 0#32

theorem bi_or (c : Bool) : bi c = 0 ∨ bi c = 1 := by cases c <;> simp [bi]

theorem nm_step (r : BitVec 32) (c : Bool) : (2 : Int) * nm r % (4294967296 : Int) + bi c = nm ((r <<< 1) ^^^ bv c) := by
  have hs := nm_shl r 1
  rw [Int.pow_one] at hs
  rw [Int.mul_comm, hs]
  cases c
  · simp [bi, bv]
  · simp only [bi, bv, if_true]
    have h : (r <<< 1) ^^^ 1#32 = (r <<< 1) + 1#32 := by
      rw [BitVec.add_eq_or_of_and_eq_zero]
      · ext i hi
        simp [BitVec.getElem_one]
        rcases i with _ | i <;> simp
      · ext i hi
        simp [BitVec.getElem_one]
        omega
    rw [h]
    unfold nm
    rw [BitVec.toNat_add]
    have h2 : (r <<< 1).toNat = r.toNat * 2 % 4294967296 := by simp [Nat.shiftLeft_eq]
    have h3 := r.isLt
    rw [h2]
    simp
    omega

theorem step_hi (r : BitVec 32) (c : Bool) (h : 2147483648 ≤ nm r) : bits BinOp.xor IntKind.u32 ((2 : Int) * nm r % (4294967296 : Int) + bi c) 79764919 = nm (tx r ^^^ bv c) := by
  rw [nm_step, nm_P, nm_xor]
  unfold tx
  rw [nm_msb]
  simp only [h, decide_true, if_true]
  rw [BitVec.xor_assoc, BitVec.xor_comm (bv c), ← BitVec.xor_assoc]

theorem step_lo (r : BitVec 32) (c : Bool) (h : nm r < 2147483648) : (2 : Int) * nm r + bi c = nm (tx r ^^^ bv c) := by
  have hs := nm_step r c
  have h0 := nm_lo r
  rw [show (2 : Int) * nm r % (4294967296 : Int) = 2 * nm r by omega] at hs
  rw [hs]
  unfold tx
  rw [nm_msb]
  simp [show ¬ 2147483648 ≤ nm r by omega]

end Go.Proofs.YtlkbpimlofgflaaDoor.Cr
