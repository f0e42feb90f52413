import Derived.Test.YtmgfapooanpgfaaK0
namespace Go.Proofs.Ytmgfapooanpgfaa
open Go.RowKit

/-- Nothing but draws. -/
def Qt (w w' : World) : Prop := ∃ m, w' = w.drewN m
theorem Qt.refl (w : World) : Qt w w := ⟨0, rfl⟩
theorem Qt.drewN {a w : World} (h : Qt a w) (n : Nat) : Qt a (w.drewN n) := by
  obtain ⟨m, rfl⟩ := h
  exact ⟨m + n, by rw [World.drewN_drewN]⟩
theorem Qt.kept {w w' : World} (h : Qt w w') (l : List Nat) : Kept l w w' := by
  obtain ⟨m, rfl⟩ := h
  exact (Kept.refl l w).drewN m

theorem ret2 {k j : IntKind} {a b c d : Int} (h : a = b) (h2 : c = d) : Ending.returned (.tuple #[.int k a, .int j c]) = .returned (.tuple #[.int k b, .int j d]) := by rw [h, h2]

/-- Times x, of numbers. -/
def t2 (a : Nat) : Nat := if a < 128 then 2 * a else (2 * a - 256) ^^^ 0x65

theorem t2_all : ∀ a : Fin 256, (tx (el a.val)).toNat = t2 a.val := by decide +kernel
theorem t2_lt {a : Nat} (h : a < 256) : t2 a < 256 := by
  rw [← t2_all ⟨a, h⟩]; exact (tx _).isLt

theorem t2_hi (a : Nat) (h : a < 256) (h1 : 128 ≤ a) : bits BinOp.xor IntKind.u8 ((a : Int) * 2 % 256) 101 = (t2 a : Int) := by
  have e : ((a : Int) * 2 % 256) = ((2 * a - 256 : Nat) : Int) := by omega
  rw [e]
  have := u8_xor_nat (2 * a - 256) 101 (by omega) (by decide)
  rw [show ((101 : Nat) : Int) = 101 from rfl] at this
  rw [this]
  unfold t2
  rw [if_neg (by omega)]
theorem t2_lo (a : Nat) (h1 : a < 128) : bits BinOp.xor IntKind.u8 ((a : Int) * 2) 0 = (t2 a : Int) := by
  have e : ((a : Int) * 2) = ((2 * a : Nat) : Int) := by omega
  rw [e]
  have := u8_xor_nat (2 * a) 0 (by omega) (by decide)
  rw [show ((0 : Nat) : Int) = 0 from rfl] at this
  rw [this, Nat.xor_zero]
  unfold t2
  rw [if_pos h1]

set_option maxHeartbeats 400000 in
theorem timesX_any (a : Nat) (ha : a < 256) (w : World) :
    Calls Try.prog 39 #[.int .u8 (a : Int)] w fun e w' => e = .returned (.int .u8 (t2 a : Int)) ∧ w' = w := by
  by_cases h : 128 ≤ a
  · have hd : (a : Int) / 128 = 1 := by omega
    have hx := t2_hi a ha h
    go_enter Try.func39, Try.ntmps39
    go_wp2
    go_ret
    exact ⟨rfl, rfl⟩
  · have hd : (a : Int) / 128 = 0 := by omega
    have hx := t2_lo a (by omega)
    have hx2 := t2_lo a (by omega)
    rw [show (a : Int) * 2 = (a : Int) * 2 % 256 from by omega] at hx2
    go_enter Try.func39, Try.ntmps39
    go_wp2
    go_ret
    exact ⟨rfl, rfl⟩
end Go.Proofs.Ytmgfapooanpgfaa
