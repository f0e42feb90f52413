import Derived.Test.YtmgfapooanpgfaaM1
namespace Go.Proofs.Ytmgfapooanpgfaa
open Go.RowKit

/-- A product, as far as k coefficients. -/
def mN (a b k : Nat) : Nat := (mh (el a) (el b) k).toNat
theorem mN_lt (a b k : Nat) : mN a b k < 256 := (mh _ _ _).isLt
theorem mN_8 (a b : Nat) : mN a b 8 = mu a b := rfl

theorem top_all : ∀ a : Fin 256, ∀ k : Fin 8, a.val * 2 ^ k.val % 256 / 128 = if (el a.val).getLsbD (7 - k.val) then 1 else 0 := by decide +kernel

theorem t2_tx {a : Nat} (h : a < 256) : t2 a = (tx (el a)).toNat := (t2_all ⟨a, h⟩).symm

theorem mN_pos (a b k : Nat) (hb : b < 256) (h : (el a).getLsbD (7 - k) = true) : t2 (mN a b k) ^^^ b = mN a b (k + 1) := by
  rw [t2_tx (mN_lt _ _ _)]
  simp only [mN, el_toNat, mh, h, if_true, BitVec.toNat_xor, toNat_el hb]
theorem mN_neg (a b k : Nat) (h : (el a).getLsbD (7 - k) = false) : t2 (mN a b k) = mN a b (k + 1) := by
  rw [t2_tx (mN_lt _ _ _)]
  simp only [mN, el_toNat, mh, h, Bool.false_eq_true, if_false, BitVec.xor_zero]

set_option maxHeartbeats 1000000 in
set_option maxRecDepth 1000000 in
theorem mul_any (a b : Nat) (ha : a < 256) (hb : b < 256) (w : World) :
    Calls Try.prog 17 #[.int .u8 (a : Int), .int .u8 (b : Int)] w fun e w' => e = .returned (.int .u8 (mu a b : Int)) ∧ ∃ m, w' = w.drewN m := by
  go_enter Try.func17, Try.ntmps17
  go_wp2
  go_loopw [5, 7] (fun p i wr => ∃ k : Nat, k ≤ 8 ∧ i = .int .i64 k ∧ p = .int .u8 (mN a b k : Int) ∧ Qt w wr) (fun _ i _ => 8 - (intOf i).toNat)
  case atStart => exact ⟨0, by omega, rfl, rfl, Qt.refl w⟩
  case round =>
    obtain ⟨k, hk, rfl, rfl, hq⟩ := hrel
    have Hq := Hid.mk hq
    clear hq
    by_cases hlt : k < 8
    · have ht : (a : Int) * 2 ^ k % 256 / 128 = if (el a).getLsbD (7 - k) then 1 else 0 := by
        have h := top_all ⟨a, ha⟩ ⟨k, hlt⟩
        simp only at h
        have h2 : ((a * 2 ^ k % 256 / 128 : Nat) : Int) = (a : Int) * 2 ^ k % 256 / 128 := by simp
        rw [← h2, h]
        split <;> rfl
      have Hp := Hid.mk (mN_pos a b k hb)
      have Hn := Hid.mk (mN_neg a b k)
      have hp1 := mN_lt a b k
      obtain ⟨p, hp⟩ : ∃ p, p = mN a b k := ⟨_, rfl⟩
      rw [← hp] at Hp Hn hp1 ⊢
      clear hp
      have htl := t2_lt hp1
      cases hbit : (el a).getLsbD (7 - k)
      · have Hb := Hid.mk hbit
        rw [hbit] at ht
        simp only [Bool.false_eq_true, if_false] at ht
        have hx := u8_xor_nat (t2 p) 0 htl (by decide)
        rw [Nat.xor_zero, show ((0 : Nat) : Int) = 0 from rfl] at hx
        clear hbit
        go_wp2
        go_quiet ((go_at_call 39; refine Calls.quiet_of_same (timesX_any _ hp1 _)))
        go_wp2
        go_roundw
        case rel => exact ⟨k + 1, by omega, by go_num, by rw [Hn.out Hb.out], Hq.out.drewN _⟩
        case measure => simp [intOf]; omega
      · have Hb := Hid.mk hbit
        rw [hbit] at ht
        simp only [if_true] at ht
        have hx := u8_xor_nat (t2 p) b htl hb
        clear hbit
        go_wp2
        go_quiet ((go_at_call 39; refine Calls.quiet_of_same (timesX_any _ hp1 _)))
        go_wp2
        go_roundw
        case rel => exact ⟨k + 1, by omega, by go_num, by rw [Hp.out Hb.out], Hq.out.drewN _⟩
        case measure => simp [intOf]; omega
    · obtain rfl : k = 8 := by omega
      have HM := Hid.mk (mN_8 a b)
      obtain ⟨p, hp⟩ : ∃ p, p = mN a b 8 := ⟨_, rfl⟩
      rw [← hp] at HM
      rw [← hp]
      clear hp
      go_wp2
      go_ret
      exact ⟨ret_int (by rw [HM.out]), Hq.out⟩
end Go.Proofs.Ytmgfapooanpgfaa
