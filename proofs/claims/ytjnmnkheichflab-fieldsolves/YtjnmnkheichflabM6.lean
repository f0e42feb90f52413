import Derived.Test.YtjnmnkheichflabM5
namespace Go.Proofs.Ytjnmnkheichflab
open Go.RowKit

theorem bit_int (b k : Nat) : ((b : Int) / 2 ^ k).tmod 2 = if b.testBit k then 1 else 0 := by
  have e : (b : Int) / 2 ^ k = ((b / 2 ^ k : Nat) : Int) := by simp
  rw [e, Int.tmod_eq_emod_of_nonneg (Int.natCast_nonneg _), Nat.testBit_eq_decide_div_mod_eq]
  by_cases h : b / 2 ^ k % 2 = 1
  · simp only [h, decide_true, if_true]; omega
  · simp only [h, decide_false, Bool.false_eq_true, if_false]; omega

set_option maxHeartbeats 2000000 in
set_option maxRecDepth 1000000 in
theorem refMul_any (a b : Nat) (ha : a < 256) (hb : b < 256) (w : World) :
    Calls Try.prog 35 #[.int .u8 (a : Int), .int .u8 (b : Int)] w fun e w' => e = .returned (.int .u8 (mu a b : Int)) ∧ w' = w := by
  go_enter Try.func35, Try.ntmps35
  go_wp2
  go_loop [5, 6] (fun p i => ∃ k : Nat, k ≤ 8 ∧ i = .int .i64 (k : Int) ∧ p = .int .i64 (cm a b k : Int)) (fun _ i => 8 - (intOf i).toNat)
  case atStart => exact ⟨0, by omega, rfl, rfl⟩
  case round =>
    obtain ⟨k, hk, rfl, rfl⟩ := hrel
    have hc := cm_lt a b k ha hk
    by_cases hlt : k < 8
    · have hbit := bit_int b k
      have h2k : (2 : Nat) ^ k ≤ 128 := Nat.le_trans (Nat.pow_le_pow_right (by decide) (show k ≤ 7 by omega)) (by decide)
      have h2p : 0 < (2 : Nat) ^ k := Nat.pow_pos (by decide)
      have hak : a * 2 ^ k < 32768 := Nat.lt_of_le_of_lt (Nat.mul_le_mul_left a h2k) (by omega)
      have hki : (a : Int) * 2 ^ k = ((a * 2 ^ k : Nat) : Int) := by simp
      have hk1 : (0 : Int) ≤ (a : Int) * 2 ^ k := by rw [hki]; omega
      have hk2 : (a : Int) * 2 ^ k < 32768 := by rw [hki]; omega
      have Hp := Hid.mk (cm_pos a b k)
      have Hn := Hid.mk (cm_neg a b k)
      have hx := i64_xor_nat (cm a b k) (a * 2 ^ k) hc hak
      rw [← hki] at hx
      have hsh : IntKind.i64.wrap ((a : Int) * 2 ^ min k IntKind.i64.bits) = (a : Int) * 2 ^ k := by
        rw [show min k IntKind.i64.bits = k from by simp [IntKind.bits]; omega]
        simp [IntKind.wrap, IntKind.bits, IntKind.signed]; omega
      clear hki
      obtain ⟨p, hp⟩ : ∃ p, p = cm a b k := ⟨_, rfl⟩
      rw [← hp] at Hp Hn hc hx ⊢
      clear hp
      cases hbb : b.testBit k
      · have Hb := Hid.mk hbb
        rw [hbb] at hbit
        simp only [Bool.false_eq_true, if_false] at hbit
        clear hbb
        go_wp2
        go_round
        case rel => exact ⟨k + 1, by omega, by go_num, by rw [Hn.out Hb.out]⟩
        case measure => simp [intOf]; omega
      · have Hb := Hid.mk hbb
        rw [hbb] at hbit
        simp only [if_true] at hbit
        clear hbb
        go_wp2
        go_round
        case rel => exact ⟨k + 1, by omega, by go_num, by rw [Hp.out Hb.out]⟩
        case measure => simp [intOf]; omega
    · obtain rfl : k = 8 := by omega
      have HM := Hid.mk (rd_mu a b ha hb)
      obtain ⟨c, hcc⟩ : ∃ c, c = cm a b 8 := ⟨_, rfl⟩
      rw [← hcc] at HM hc ⊢
      clear hcc
      go_wp2
      go_loop [5, 7] (fun p i => ∃ j : Nat, 7 ≤ j ∧ j ≤ 14 ∧ i = .int .i64 (j : Int) ∧ p = .int .i64 (rd c (14 - j) : Int)) (fun _ i => (intOf i).toNat)
      case atStart => exact ⟨14, by omega, by omega, rfl, rfl⟩
      case round =>
        obtain ⟨j, hj7, hj14, rfl, rfl⟩ := hrel
        have hr := rd_lt c (14 - j) hc
        by_cases hlt : 7 < j
        · have hbit := bit_int (rd c (14 - j)) j
          have h2k : (2 : Nat) ^ (j - 8) ≤ 64 := Nat.le_trans (Nat.pow_le_pow_right (by decide) (show j - 8 ≤ 6 by omega)) (by decide)
          have hak : 357 * 2 ^ (j - 8) < 32768 := by omega
          have e0 : 14 - (14 - j) = j := by omega
          have e3 : 14 - (j - 1) = (14 - j) + 1 := by omega
          have hp0 := rd_pos c (14 - j)
          have hn0 := rd_neg c (14 - j)
          rw [e0] at hp0 hn0
          rw [← e3] at hp0 hn0
          have hx := i64_xor_nat (rd c (14 - j)) (357 * 2 ^ (j - 8)) hr hak
          obtain ⟨i, hi⟩ : ∃ i, i = j - 8 := ⟨_, rfl⟩
          rw [← hi] at hx hp0 hak h2k
          have hij : (j : Int) - 8 = (i : Int) := by omega
          have hki : (357 : Int) * 2 ^ i = ((357 * 2 ^ i : Nat) : Int) := by simp
          have hk1 : (0 : Int) ≤ (357 : Int) * 2 ^ i := by rw [hki]; omega
          have hk2 : (357 : Int) * 2 ^ i < 32768 := by rw [hki]; omega
          rw [← hki] at hx
          have hsh : IntKind.i64.wrap ((357 : Int) * 2 ^ min i IntKind.i64.bits) = (357 : Int) * 2 ^ i := by
            rw [show min i IntKind.i64.bits = i from by simp [IntKind.bits]; omega]
            simp [IntKind.wrap, IntKind.bits, IntKind.signed]; omega
          have Hp := Hid.mk hp0
          have Hn := Hid.mk hn0
          clear hp0 hn0 e0 e3 hi hki
          obtain ⟨p, hp⟩ : ∃ p, p = rd c (14 - j) := ⟨_, rfl⟩
          rw [← hp] at Hp Hn hr hx hbit ⊢
          clear hp
          cases hbb : p.testBit j
          · have Hb := Hid.mk hbb
            rw [hbb] at hbit
            simp only [Bool.false_eq_true, if_false] at hbit
            clear hbb
            go_wp2
            go_round
            case rel => exact ⟨j - 1, by omega, by omega, by go_num, by rw [Hn.out Hb.out]⟩
            case measure => simp [intOf]; omega
          · have Hb := Hid.mk hbb
            rw [hbb] at hbit
            simp only [if_true] at hbit
            clear hbb
            go_wp2
            go_round
            case rel => exact ⟨j - 1, by omega, by omega, by go_num, by rw [Hp.out Hb.out]⟩
            case measure => simp [intOf]; omega
        · obtain rfl : j = 7 := by omega
          have hl := mu_lt a b
          rw [show 14 - 7 = 7 from rfl, HM.out] at hr ⊢
          obtain ⟨p, hp⟩ : ∃ p, p = mu a b := ⟨_, rfl⟩
          rw [← hp] at hl hr ⊢
          have HP := Hid.mk hp
          clear hp HM
          go_wp2
          go_ret
          exact ⟨ret_int (by rw [HP.out]), rfl⟩
end Go.Proofs.Ytjnmnkheichflab
