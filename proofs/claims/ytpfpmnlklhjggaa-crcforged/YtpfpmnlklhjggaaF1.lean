import Derived.Test.YtpfpmnlklhjggaaC8
namespace Go.Proofs.Ytpfpmnlklhjggaa
open Go.RowKit

/-- A rest gone back by x. -/
def px (s : BitVec 32) : BitVec 32 := if nm s % 2 = 1 then BitVec.ofNat 32 ((s ^^^ P).toNat / 2 + 2147483648) else BitVec.ofNat 32 (s.toNat / 2)

def pX : Nat → BitVec 32 → BitVec 32
  | 0, a => a
  | n + 1, a => px (pX n a)

theorem nm_ofNat (n : Nat) (h : n < 4294967296) : nm (BitVec.ofNat 32 n) = (n : Int) := by
  unfold nm
  rw [BitVec.toNat_ofNat]
  omega

theorem px_odd (s : BitVec 32) (h : nm s % 2 = 1) : nm (s ^^^ P) / 2 + 2147483648 = nm (px s) := by
  have := nm_hi (s ^^^ P)
  unfold px
  rw [if_pos h, nm_ofNat]
  · unfold nm; omega
  · unfold nm at this; omega

theorem px_even (s : BitVec 32) (h : ¬ nm s % 2 = 1) : nm s / 2 = nm (px s) := by
  have := nm_hi s
  unfold px
  rw [if_neg h, nm_ofNat]
  · unfold nm; omega
  · unfold nm at this; omega

theorem xor_even (s : BitVec 32) (h : nm s % 2 = 1) : nm (s ^^^ P) % 2 = 0 := by
  have h0 := nm_bit s 0
  have h1 := nm_bit (s ^^^ P) 0
  simp only [Int.pow_zero, Int.ediv_one] at h0 h1
  rw [BitVec.getLsbD_xor, h0, show P.getLsbD 0 = true from by decide] at h1
  simp only [h, decide_true] at h1
  have := of_decide_eq_false h1.symm
  omega

theorem tx_px (s : BitVec 32) : tx (px s) = s := by
  apply nm_eq.1
  by_cases h : nm s % 2 = 1
  · have hp := px_odd s h
    have he := xor_even s h
    have h1 := nm_hi (s ^^^ P)
    have h0 := nm_lo (s ^^^ P)
    rw [← tx_nm_hi (px s) (by omega), show nm (px s) * 2 % 4294967296 = nm (s ^^^ P) by omega, nm_P, nm_xor, BitVec.xor_assoc, BitVec.xor_self, BitVec.xor_zero]
  · have hp := px_even s h
    have h1 := nm_hi s
    have h0 := nm_lo s
    rw [← tx_nm_lo (px s) (by omega)]
    omega

theorem X_pX (k : Nat) (z : BitVec 32) : X k (pX k z) = z := by
  induction k with
  | zero => rfl
  | succ k ih => rw [X, ← X_tx, pX, tx_px, ih]

theorem adv_ones (l : List Nat) : adv (~~~ 0#32) l = ~~~ sm l := by unfold sm mr; rw [BitVec.not_not]

theorem forged_sum (l : List Nat) (z : BitVec 32) : sm (l ++ fr4 (pX 32 (~~~ z) ^^^ ~~~ sm l)) = z := by
  have h : sm (l ++ fr4 (pX 32 (~~~ z) ^^^ ~~~ sm l)) = ~~~ adv (~~~ 0#32) (l ++ fr4 (pX 32 (~~~ z) ^^^ ~~~ sm l)) := rfl
  rw [h, adv_append, adv_ones, adv_fr4, BitVec.xor_comm (pX 32 (~~~ z)), xor_twice, X_pX, BitVec.not_not]

theorem forged_more (l : List Nat) (z : BitVec 32) : mr (sm l) (fr4 (pX 32 (~~~ z) ^^^ ~~~ sm l)) = z := by
  unfold mr
  rw [adv_fr4, BitVec.xor_comm (pX 32 (~~~ z)), xor_twice, X_pX, BitVec.not_not]

set_option maxHeartbeats 1000000 in
set_option maxRecDepth 1000000 in
theorem forged_any (ao : Option Addr) (cap m : Nat) (l : List Nat) (z : BitVec 32) (w : World) (hr : Reads w ao l) (hb : Byts l) (hm : l.length = m) (hz : ao = none → cap = 0) (hl : m ≤ 140737488351232) :
    Calls Try.prog 8 #[.slice ao m cap, .int .u32 (nm z)] w fun e w' => e = .returned (.bool true) ∧ Kept [] w w' := by
  have hn := nm_not z
  go_enter Try.func8, Try.ntmps8
  go_wp2_with (go_at_call 9; refine (shown_any _).mono ?_; rintro e w1 ⟨rfl, hk1⟩)
  have hr1 := hr.keep hk1
  have Hk1 := Hid.mk hk1
  clear hr hk1 hn
  go_loop [6, 7] (fun p i => ∃ k : Nat, k ≤ 32 ∧ i = .int .i64 (k : Int) ∧ p = .int .u32 (nm (pX k (~~~ z)))) (fun _ i => 32 - (intOf i).toNat)
  case atStart => exact ⟨0, by omega, rfl, rfl⟩
  case round =>
    obtain ⟨k, hk, rfl, rfl⟩ := hrel
    by_cases hlt : k < 32
    · have Hn : Hid (pX (k + 1) (~~~ z) = px (pX k (~~~ z))) := Hid.mk rfl
      obtain ⟨p, hp⟩ : ∃ p, p = pX k (~~~ z) := ⟨_, rfl⟩
      rw [← hp] at Hn ⊢
      clear hp
      have h0 := nm_lo p
      have h1 := nm_hi p
      by_cases ho : nm p % 2 = 1
      · have hx := nm_xor p P
        rw [← nm_P] at hx
        have hq := px_odd p ho
        have hq0 := nm_lo (p ^^^ P)
        have hq1 := nm_hi (p ^^^ P)
        obtain ⟨q, hqq⟩ : ∃ q, q = nm (p ^^^ P) := ⟨_, rfl⟩
        rw [← hqq] at hx hq hq0 hq1
        obtain ⟨r, hrr⟩ : ∃ r, r = px p := ⟨_, rfl⟩
        rw [← hrr] at hq Hn
        clear hrr
        have hd : q.tdiv 2 = q / 2 := Int.tdiv_eq_ediv_of_nonneg hq0
        have hmod : (nm p).tmod 2 = 1 := by rw [Int.tmod_eq_emod_of_nonneg h0]; exact ho
        have Hq := Hid.mk hq
        clear hqq ho hq h0 h1
        go_wp2
        go_round
        case rel => exact ⟨k + 1, by omega, by go_num, by rw [Hn.out, ← Hq.out]⟩
        case measure => simp [intOf]; omega
      · have hq := px_even p ho
        obtain ⟨r, hrr⟩ : ∃ r, r = px p := ⟨_, rfl⟩
        rw [← hrr] at hq Hn
        clear hrr
        have hmod : (nm p).tmod 2 = 0 := by rw [Int.tmod_eq_emod_of_nonneg h0]; omega
        have hd : (nm p).tdiv 2 = nm p / 2 := Int.tdiv_eq_ediv_of_nonneg h0
        have Hq : Hid (nm p / 2 % 4294967296 = nm r) := Hid.mk (by omega)
        clear ho hq h0 h1
        go_wp2
        go_round
        case rel => exact ⟨k + 1, by omega, by go_num, by rw [Hn.out, ← Hq.out]⟩
        case measure => simp [intOf]; omega
    · obtain rfl : k = 32 := by omega
      have hx1 := nm_not (sm l)
      have hx2 := nm_xor (pX 32 (~~~ z)) (~~~ sm l)
      have Hs := Hid.mk (forged_sum l z)
      have Hm := Hid.mk (forged_more l z)
      obtain ⟨p, hp⟩ : ∃ p, p = pX 32 (~~~ z) := ⟨_, rfl⟩
      rw [← hp] at hx2 Hs Hm ⊢
      clear hp
      go_wp2_with (first
        | (go_at_call 15; refine (sum_any _ _ _ l _ hr1 hb hm (by omega)).mono ?_; rintro e w2 ⟨rfl, hk2⟩)
        | (go_at_call 20; refine (four_any (p ^^^ ~~~ sm l) _).mono ?_; rintro e w3 ⟨rfl, hr3, hk3⟩))
      have hr4 := hr1.keep (hk2.trans hk3)
      have Hk3 := Hid.mk (Hk1.out.trans (hk2.trans hk3))
      obtain ⟨N, hN⟩ : ∃ N, N = w2.heap.size := ⟨_, rfl⟩
      rw [← hN] at hr3 ⊢
      clear hN hk2 hk3 hr1
      have zn : (some (⟨N, 0, none⟩ : Addr)) = none → 4 = 0 := by simp
      have hb4 := fr4_byts (p ^^^ ~~~ sm l)
      have hbb : Byts (l ++ fr4 (p ^^^ ~~~ sm l)) := fun x hx => (List.mem_append.1 hx).elim (hb x) (hb4 x)
      have hlen : (l ++ fr4 (p ^^^ ~~~ sm l)).length = m + 4 := by rw [List.length_append, hm]; rfl
      have h4 : (fr4 (p ^^^ ~~~ sm l)).length = 4 := rfl
      obtain ⟨y, hy⟩ : ∃ y, y = fr4 (p ^^^ ~~~ sm l) := ⟨_, rfl⟩
      rw [← hy] at hr3 hb4 hbb hlen h4 Hs Hm
      clear hy hx1 hx2
      go_wp2_with (go_at_call 16; refine (both_any _ _ _ _ _ _ l y _ hr4 hr3 hm h4 hz zn (by omega)).mono ?_; rintro e w4 ⟨co, cc, rfl, hr5, hz5, hk4⟩)
      have hr6 := hr3.keep hk4
      clear hr3 hr4
      go_wp2_with (go_at_call 15; refine (sum_any _ _ _ (l ++ y) _ hr5 hbb hlen (by omega)).mono ?_; rintro e w5 ⟨rfl, hk5⟩; rw [Hs.out])
      have hr7 := hr6.keep hk5
      go_wp2_with (go_at_call 17; refine (more_any _ _ _ y (sm l) _ hr7 hb4 h4 (by omega)).mono ?_; rintro e w6 ⟨rfl, hk6⟩; rw [Hm.out])
      go_ret
      exact ⟨rfl, Hk3.out.trans (hk4.trans (hk5.trans hk6))⟩
end Go.Proofs.Ytpfpmnlklhjggaa
