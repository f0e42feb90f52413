import Derived.Test.YtjnmnkheichflaaM7
namespace Go.Proofs.Ytjnmnkheichflaa
open Go.RowKit

/-- What Div answers. -/
def dvN (a b : Nat) : Nat := mu a (iv b)

set_option maxHeartbeats 2000000 in
set_option maxRecDepth 1000000 in
theorem refDiv_any (a b : Nat) (ha : a < 256) (hb : b < 256) (w : World) :
    Calls Try.prog 15 #[.int .u8 (a : Int), .int .u8 (b : Int)] w fun e w' => e = .returned (.tuple #[.int .u8 (dvN a b : Int), .int .i64 (dvE b)]) ∧ w' = w := by
  have Hc := Hid.mk (refInv_any b hb)
  have hil := iv_lt b
  have Hd : Hid (dvN a b = mu a (iv b)) := Hid.mk rfl
  by_cases h0 : b = 0
  · have He : Hid (dvE b = 41) := Hid.mk (by rw [h0]; rfl)
    rw [He.out] at Hc
    have Hz : Hid (iv b = 0) := Hid.mk (by rw [h0, iv_zero])
    obtain ⟨x, hx⟩ : ∃ x, x = iv b := ⟨_, rfl⟩
    rw [← hx] at Hc hil Hd Hz
    clear hx h0
    go_enter Try.func15, Try.ntmps15
    go_wp2_with (first | (go_at_call 13; refine (Hc.out _).mono ?_; rintro e w' ⟨rfl, rfl⟩) | (go_at_call 11; refine (refMul_any _ _ (by assumption) (by assumption) _).mono ?_; rintro e w' ⟨rfl, rfl⟩))
    go_ret2
    refine ⟨?_, rfl⟩
    rw [Hd.out, He.out, Hz.out, mu_zero]; rfl
  · have He : Hid (dvE b = 0) := Hid.mk (dvE_pos h0)
    rw [He.out] at Hc
    obtain ⟨x, hx⟩ : ∃ x, x = iv b := ⟨_, rfl⟩
    rw [← hx] at Hc hil Hd
    clear hx h0
    go_enter Try.func15, Try.ntmps15
    go_wp2_with (first | (go_at_call 13; refine (Hc.out _).mono ?_; rintro e w' ⟨rfl, rfl⟩) | (go_at_call 11; refine (refMul_any _ _ (by assumption) (by assumption) _).mono ?_; rintro e w' ⟨rfl, rfl⟩))
    go_ret2
    exact ⟨ret2 (by rw [Hd.out]) (by rw [He.out]), rfl⟩

set_option maxHeartbeats 2000000 in
set_option maxRecDepth 1000000 in
theorem div_any (a b : Nat) (ha : a < 256) (hb : b < 256) (w : World) :
    Calls Try.prog 14 #[.int .u8 (a : Int), .int .u8 (b : Int)] w fun e w' => e = .returned (.tuple #[.int .u8 (dvN a b : Int), .int .i64 (dvE b)]) ∧ ∃ m, w' = w.drewN m := by
  have Hc := Hid.mk (inv_any b hb)
  have hil := iv_lt b
  have Hd : Hid (dvN a b = mu a (iv b)) := Hid.mk rfl
  obtain ⟨x, hx⟩ : ∃ x, x = iv b := ⟨_, rfl⟩
  rw [← hx] at Hc hil Hd
  obtain ⟨y, hy⟩ : ∃ y : Int, y = dvE b := ⟨_, rfl⟩
  have He := Hid.mk hy
  rw [← hy] at Hc
  clear hx hy
  go_enter Try.func14, Try.ntmps14
  go_wp2_with (first | (go_at_call 12; refine (Hc.out _).mono ?_; rintro e w' ⟨rfl, mm, rfl⟩) | (go_at_call 10; refine (mul_any _ _ (by assumption) (by assumption) _).mono ?_; rintro e w' ⟨rfl, mm2, rfl⟩))
  go_ret2
  exact ⟨ret2 (by rw [Hd.out]) (by rw [He.out]), _, rfl⟩

set_option maxHeartbeats 2000000 in
set_option maxRecDepth 1000000 in
theorem refPow_any (a : Nat) (n : Int) (ha : a < 256) (hn : -9223372036854775808 ≤ n ∧ n ≤ 9223372036854775807) (w : World) :
    Calls Try.prog 17 #[.int .u8 (a : Int), .int .i64 n] w fun e w' => e = .returned (.tuple #[.int .u8 (powN a n : Int), .int .i64 (powE a n)]) ∧ w' = w := by
  have Hd : Hid (powN a n = (if n = 0 then 1 else if a = 0 then 0 else pw a (n % 255).toNat)) := Hid.mk rfl
  have He : Hid (powE a n = (if a = 0 ∧ n < 0 then 41 else 0)) := Hid.mk rfl
  by_cases h0 : n = 0
  · subst h0
    go_enter Try.func17, Try.ntmps17
    go_wp2
    go_ret2
    refine ⟨?_, rfl⟩
    rw [Hd.out, He.out]; simp
  · by_cases ha0 : a = 0
    · subst ha0
      by_cases hneg : n < 0
      · go_enter Try.func17, Try.ntmps17
        go_wp2
        go_ret2
        refine ⟨?_, rfl⟩
        rw [Hd.out, He.out]; simp [h0, hneg]
      · go_enter Try.func17, Try.ntmps17
        go_wp2
        go_ret2
        refine ⟨?_, rfl⟩
        rw [Hd.out, He.out]; simp [h0, hneg]
    · obtain ⟨b1, b2⟩ := rest_bounds n
      have hn0 : (n == 0) = false := by simp [h0]
      have hz0 : ((a : Int) == 0) = false := by simp; omega
      have hr0 : (if n.tmod 255 < 0 then n.tmod 255 + 255 else n.tmod 255) = ((n % 255).toNat : Int) := by
        have h1 : n.tmod 255 = n - 255 * n.tdiv 255 := Int.tmod_def n 255
        split <;> omega
      have hm : (n % 255).toNat ≤ 255 := by omega
      obtain ⟨m, hmm⟩ : ∃ m, m = (n % 255).toNat := ⟨_, rfl⟩
      rw [← hmm] at hr0 hm Hd
      clear hmm
      obtain ⟨t, ht⟩ : ∃ t, t = n.tmod 255 := ⟨_, rfl⟩
      rw [← ht] at hr0 b1 b2
      have ht2 := ht.symm
      clear ht
      have Ht : Hid (n.tmod 255 = t) := Hid.mk ht2
      by_cases hneg : t < 0
      · rw [if_pos hneg] at hr0
        go_enter Try.func17, Try.ntmps17
        go_wp2
        go_loop [7, 8] (fun p i => ∃ k : Nat, k ≤ m ∧ i = .int .i64 (k : Int) ∧ p = .int .u8 (pw a k : Int)) (fun _ i => m - (intOf i).toNat)
        case atStart => exact ⟨0, by omega, rfl, rfl⟩
        case round =>
          obtain ⟨k, hk, rfl, rfl⟩ := hrel
          have hpl := pw_lt a k
          by_cases hlt : k < m
          · have hN : Hid (mu (pw a k) a = pw a (k + 1)) := Hid.mk rfl
            obtain ⟨p, hp⟩ : ∃ p, p = pw a k := ⟨_, rfl⟩
            rw [← hp] at hN hpl ⊢
            clear hp
            go_wp2_with (go_at_call 11; refine (refMul_any _ _ (by assumption) (by assumption) _).mono ?_; rintro e w' ⟨rfl, rfl⟩)
            go_round
            case rel => exact ⟨k + 1, by omega, by go_num, by rw [hN.out]⟩
            case measure => simp [intOf]; omega
          · obtain rfl : k = m := by omega
            obtain ⟨p, hp⟩ : ∃ p, p = pw a k := ⟨_, rfl⟩
            rw [← hp] at Hd hpl ⊢
            clear hp
            go_wp2
            go_ret2
            exact ⟨ret2 (by rw [Hd.out, if_neg h0, if_neg ha0]) (by rw [He.out, if_neg (fun h => ha0 h.1)]), rfl⟩
      · rw [if_neg hneg] at hr0
        subst hr0
        clear Ht
        go_enter Try.func17, Try.ntmps17
        go_wp2
        go_loop [7, 8] (fun p i => ∃ k : Nat, k ≤ m ∧ i = .int .i64 (k : Int) ∧ p = .int .u8 (pw a k : Int)) (fun _ i => m - (intOf i).toNat)
        case atStart => exact ⟨0, by omega, rfl, rfl⟩
        case round =>
          obtain ⟨k, hk, rfl, rfl⟩ := hrel
          have hpl := pw_lt a k
          by_cases hlt : k < m
          · have hN : Hid (mu (pw a k) a = pw a (k + 1)) := Hid.mk rfl
            obtain ⟨p, hp⟩ : ∃ p, p = pw a k := ⟨_, rfl⟩
            rw [← hp] at hN hpl ⊢
            clear hp
            go_wp2_with (go_at_call 11; refine (refMul_any _ _ (by assumption) (by assumption) _).mono ?_; rintro e w' ⟨rfl, rfl⟩)
            go_round
            case rel => exact ⟨k + 1, by omega, by go_num, by rw [hN.out]⟩
            case measure => simp [intOf]; omega
          · obtain rfl : k = m := by omega
            obtain ⟨p, hp⟩ : ∃ p, p = pw a k := ⟨_, rfl⟩
            rw [← hp] at Hd hpl ⊢
            clear hp
            go_wp2
            go_ret2
            exact ⟨ret2 (by rw [Hd.out, if_neg h0, if_neg ha0]) (by rw [He.out, if_neg (fun h => ha0 h.1)]), rfl⟩
end Go.Proofs.Ytjnmnkheichflaa
