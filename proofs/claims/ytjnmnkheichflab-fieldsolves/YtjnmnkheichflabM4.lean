import Derived.Test.YtjnmnkheichflabM3
namespace Go.Proofs.Ytjnmnkheichflab
open Go.RowKit

theorem powN_inv (a : Nat) : powN a (-1) = iv a := by
  unfold powN iv
  rw [if_neg (by decide), show ((-1 : Int) % 255).toNat = 254 from by decide]
  split
  · rename_i h; subst h; exact iv_zero.symm
  · rfl
/-- The error of an inverse. -/
def dvE (b : Nat) : Int := if b = 0 then 41 else 0
theorem powE_inv (a : Nat) : powE a (-1) = dvE a := by
  unfold powE dvE; simp
theorem dvE_zero : dvE 0 = 41 := rfl
theorem dvE_pos {b : Nat} (h : b ≠ 0) : dvE b = 0 := if_neg h

set_option maxHeartbeats 1000000 in
set_option maxRecDepth 1000000 in
theorem inv_any (a : Nat) (ha : a < 256) (w : World) :
    Calls Try.prog 24 #[.int .u8 (a : Int)] w fun e w' => e = .returned (.tuple #[.int .u8 (iv a : Int), .int .i64 (dvE a)]) ∧ ∃ m, w' = w.drewN m := by
  have h := pow_any a (-1) ha (by decide)
  rw [powN_inv, powE_inv] at h
  have H := Hid.mk h
  clear h
  obtain ⟨x, hx⟩ : ∃ x : Int, x = dvE a := ⟨_, rfl⟩
  rw [← hx] at H ⊢
  clear hx
  obtain ⟨y, hy⟩ : ∃ y : Int, y = (iv a : Int) := ⟨_, rfl⟩
  rw [← hy] at H ⊢
  clear hy
  go_enter Try.func24, Try.ntmps24
  go_wp2_with (go_at_call 46; refine (H.out _).mono ?_; rintro e w' ⟨rfl, mm, rfl⟩)
  go_ret2
  exact ⟨rfl, mm, rfl⟩

/-- What alive says. -/
theorem alive_mul : mu 2 128 = 101 := by decide +kernel
theorem alive_iv : iv 2 = 178 := (iv_one (by decide) (by decide) (by decide) (by decide +kernel)).symm

set_option maxHeartbeats 1000000 in
set_option maxRecDepth 1000000 in
theorem alive_any (w : World) :
    Calls Try.prog 7 #[] w fun e w' => e = .returned (.bool true) ∧ ∃ m, w' = w.drewN m := by
  have h1 := mul_any 2 128 (by decide) (by decide)
  have h2 := inv_any 2 (by decide)
  rw [alive_mul] at h1
  rw [alive_iv, dvE_pos (by decide)] at h2
  have H1 := Hid.mk h1
  have H2 := Hid.mk h2
  clear h1 h2
  go_enter Try.func7, Try.ntmps7
  go_wp2_with (first | (go_at_call 23; refine (H1.out _).mono ?_; rintro e w' ⟨rfl, mm, rfl⟩) | (go_at_call 24; refine (H2.out _).mono ?_; rintro e w' ⟨rfl, mm, rfl⟩))
  go_ret
  exact ⟨rfl, _, rfl⟩
end Go.Proofs.Ytjnmnkheichflab
