import Derived.Test.YtjnmnkheichflabM6
namespace Go.Proofs.Ytjnmnkheichflab
open Go.RowKit

/-- The document's Inv looks through all. -/
theorem found {a b : Nat} (ha : a < 256) (hb : b < 256) (h : mu a b = 1) : a ≠ 0 ∧ b = iv a := by
  have h0 : a ≠ 0 := by rintro rfl; rw [zero_mu] at h; cases h
  exact ⟨h0, iv_one h0 ha hb h⟩

set_option maxHeartbeats 2000000 in
set_option maxRecDepth 1000000 in
theorem refInv_any (a : Nat) (ha : a < 256) (w : World) :
    Calls Try.prog 34 #[.int .u8 (a : Int)] w fun e w' => e = .returned (.tuple #[.int .u8 (iv a : Int), .int .i64 (dvE a)]) ∧ w' = w := by
  go_enter Try.func34, Try.ntmps34
  go_wp2
  go_loop [4] (fun i => ∃ b : Nat, 1 ≤ b ∧ b ≤ 256 ∧ i = .int .i64 (b : Int) ∧ ∀ j, 1 ≤ j → j < b → mu a j ≠ 1) (fun i => 256 - (intOf i).toNat)
  case atStart => exact ⟨1, by omega, by omega, rfl, fun j h1 h2 => by omega⟩
  case round =>
    obtain ⟨b, hb1, hb2, rfl, hno⟩ := hrel
    have Hno := Hid.mk hno
    clear hno
    by_cases hlt : b < 256
    · by_cases hm : mu a b = 1
      · obtain ⟨h0, hiv⟩ := found ha hlt hm
        have Hiv := Hid.mk hiv
        clear hiv
        have Hc := Hid.mk (refMul_any a b ha hlt)
        rw [hm] at Hc
        clear hm
        go_wp2_with (go_at_call 35; refine (Hc.out _).mono ?_; rintro e w' ⟨rfl, rfl⟩)
        go_ret2
        exact ⟨ret2 (by rw [← Hiv.out]) (by rw [dvE_pos h0]), rfl⟩
      · have Hm := Hid.mk hm
        have hml := mu_lt a b
        have Hc := Hid.mk (refMul_any a b ha hlt)
        obtain ⟨x, hx⟩ : ∃ x, x = mu a b := ⟨_, rfl⟩
        rw [← hx] at hm Hc hml Hm
        have hx1 : ¬ (x : Int) = 1 := by omega
        have HX := Hid.mk hx
        clear hx hm
        go_wp2_with (go_at_call 35; refine (Hc.out _).mono ?_; rintro e w' ⟨rfl, rfl⟩)
        go_round
        case rel =>
          refine ⟨b + 1, by omega, by omega, by go_num, fun j h1 h2 => ?_⟩
          by_cases e : j = b
          · subst e; rw [← HX.out]; exact Hm.out
          · exact Hno.out j h1 (by omega)
        case measure => simp [intOf]; omega
    · obtain rfl : b = 256 := by omega
      have ha0 : a = 0 := by
        refine Classical.byContradiction fun h0 => ?_
        refine Hno.out (iv a) ?_ (iv_lt a) (mu_iv h0 ha)
        have := iv_ne h0 ha
        omega
      subst ha0
      clear Hno
      go_wp2
      go_ret2
      refine ⟨?_, rfl⟩
      rw [iv_zero]; rfl
end Go.Proofs.Ytjnmnkheichflab
