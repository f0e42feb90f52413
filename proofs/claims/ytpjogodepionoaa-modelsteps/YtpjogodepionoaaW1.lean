import Derived.Test.YtpjogodepionoaaH1
import Derived.Lib.Slices
import Derived.Lib.Small
import Derived.Lib.Walk
import Derived.Lib.BitFns
namespace Go.Proofs.Ytpjogodepionoaa
open Go.RowKit

theorem tab_int (x : Int) (h0 : 0 ≤ x) (h : x.toNat < Lib.len8tab.size) : wrap64 ((Lib.len8tab[x.toNat]'h).toNat : Int) = (Lib.bitLen x.toNat : Int) ∧ Lib.bitLen x.toNat ≤ 8 := by
  have h2 : x.toNat < 256 := by rw [← Lib.len8tab_size]; exact h
  have hl : Lib.bitLen x.toNat ≤ 8 := Lib.bitLen_le8 ⟨x.toNat, h2⟩
  have e := Lib.len8_of x h0 (by omega)
  unfold Lib.len8 at e
  rw [getElem?_pos Lib.len8tab x.toNat h, Option.getD_some] at e
  refine ⟨?_, hl⟩
  rw [e]
  unfold wrap64
  omega
theorem bl_iff (x k : Nat) (hx : x < 4096) (hk : k < 13) : 2 ^ k ≤ x ↔ k < Lib.bitLen x := by
  constructor
  · intro h
    rw [Lib.bitLen_shift k x h (by omega)]
    have h1 : x / 2 ^ k ≠ 0 := by
      have := Nat.div_pos h (Nat.pow_pos (by omega)); omega
    have h2 : x / 2 ^ k ≤ x := Nat.div_le_self _ _
    rw [Lib.bitLen_half _ h1 (by omega)]
    omega
  · intro h
    by_cases hc : 2 ^ k ≤ x
    · exact hc
    · have := Lib.bitLen_le x k (by omega) (by omega); omega
theorem bl_le (x : Nat) (hx : x < 4096) : Lib.bitLen x ≤ 12 := Lib.bitLen_le x 12 (by omega) hx

set_option maxHeartbeats 4000000 in
set_option maxRecDepth 100000 in
theorem len64_any (x : Int) (w : World) (h0 : 0 ≤ x) (h1 : x ≤ 4095) :
    Calls Try.prog 59 #[.int .u64 x] w fun e w' => e = .returned (.int .i64 (Lib.bitLen x.toNat)) ∧ w' = w := by
  have hsz := Lib.len8tab_size
  by_cases c2 : x < 256
  · go_enter Try.func59, Try.ntmps59
    go_wp2
    go_ret
    refine ⟨congrArg Ending.returned (congrArg (Value.int IntKind.i64) ?_), rfl⟩
    have t := tab_int (x) (by omega) (by rw [Lib.len8tab_size]; omega)
    rw [t.1]
    unfold wrap64
    omega
  · go_enter Try.func59, Try.ntmps59
    go_wp2
    go_ret
    refine ⟨congrArg Ending.returned (congrArg (Value.int IntKind.i64) ?_), rfl⟩
    have t := tab_int (x / 256) (by omega) (by rw [Lib.len8tab_size]; omega)
    rw [t.1]
    have s := Lib.bitLen_shift8 x.toNat (by omega) (by omega)
    have e : (x / 256).toNat = x.toNat / 256 := by omega
    have l := t.2
    rw [e] at l ⊢
    unfold wrap64
    omega

set_option maxHeartbeats 4000000 in
set_option maxRecDepth 100000 in
theorem len_any (x : Int) (w : World) (h0 : 0 ≤ x) (h1 : x ≤ 4095) :
    Calls Try.prog 48 #[.int .u64 x] w fun e w' => e = .returned (.int .i64 (Lib.bitLen x.toNat)) ∧ w' = w := by
  have C := Hid.mk (len64_any x w h0 h1)
  go_enter Try.func48, Try.ntmps48
  go_wp2_with (go_at_call 59; refine C.out.mono ?_; rintro e w' ⟨rfl, rfl⟩)
  go_ret
  exact ⟨rfl, rfl⟩

set_option maxHeartbeats 4000000 in
set_option maxRecDepth 100000 in
theorem wide_any (P : Nat) (T d : Int) (w : World) (H : Hd w P T d) (G : Gd T d) : Calls Try.prog 25 #[.pointer (some ⟨P, 0, none⟩)] w fun e w' => e = .returned (.int .i64 (Lib.bitLen (rg T d - 1).toNat : Int)) ∧ w' = w := by
  have ⟨g0, g1⟩ := rg_pos T d G
  have h3 := H.c3
  have C := Hid.mk (len_any (rg T d - 1) w (by omega) (by omega))
  obtain ⟨b, hb⟩ : ∃ b, b = Lib.bitLen (rg T d - 1).toNat := ⟨_, rfl⟩
  rw [← hb] at C ⊢
  clear hb
  generalize rg T d = K at *
  clear H G
  go_enter Try.func25, Try.ntmps25
  go_wp2_with (go_at_call 48; refine C.out.mono ?_; rintro e w' ⟨rfl, rfl⟩)
  go_ret
  exact ⟨rfl, rfl⟩

set_option maxHeartbeats 4000000 in
set_option maxRecDepth 100000 in
theorem wideD_any (R : Nat) (T d : Int) (w : World) (H : Rh w R T d) (G : Gd T d) : Calls Try.prog 37 #[.pointer (some ⟨R, 0, none⟩)] w fun e w' => e = .returned (.int .i64 (Lib.bitLen (rg T d - 1).toNat : Int)) ∧ ∃ m, w' = w.drewN m := by
  have ⟨g0, g1⟩ := rg_pos T d G
  have CR := Hid.mk (fun n m => rangeD_any R T d ((w.drewN n).drewN m) ((H.drewN n).drewN m) G)
  have HB := Hid.mk (bl_le (rg T d - 1).toNat (by omega))
  have HI := Hid.mk (fun k hk => bl_iff (rg T d - 1).toNat k (by omega) hk)
  generalize rg T d = K at *
  obtain ⟨b, hb⟩ : ∃ b, b = Lib.bitLen (K - 1).toNat := ⟨_, rfl⟩
  rw [← hb] at HB HI ⊢
  clear H G hb
  go_enter Try.func37, Try.ntmps37
  go_wp2
  go_loopw [3] (fun i wr => ∃ (k m : Nat), k ≤ b ∧ i = .int .i64 (k : Int) ∧ wr = w.drewN m) (fun i _ => b - (intOf i).toNat)
  case atStart => exact ⟨0, 0, by omega, rfl, rfl⟩
  case round =>
    obtain ⟨k, m, hk, rfl, hw⟩ := hrel
    have hb12 := HB.out
    have hq := HI.out k (by omega)
    have C := Hid.mk (CR.out m)
    rw [← hw] at C
    have HW := Hid.mk hw
    have p0 : (0 : Int) < 2 ^ k := Int.pow_pos (by omega)
    have p1 : (2 : Int) ^ k ≤ 4096 := by
      have := Nat.pow_le_pow_right (n := 2) (by omega) (show k ≤ 12 by omega)
      have e : ((2 ^ k : Nat) : Int) = (2 : Int) ^ k := by simp
      omega
    have e2 : ((2 ^ k : Nat) : Int) = (2 : Int) ^ k := by simp
    have hs : wrap64 (2 ^ k) = 2 ^ k := w64_in (by omega) (by omega)
    by_cases hlt : k < b
    · have hc : (2 : Int) ^ k < K := by have := hq.2 hlt; omega
      obtain ⟨X, hX⟩ : ∃ X, (2 : Int) ^ k = X := ⟨_, rfl⟩
      have hx : wrap64 (2 ^ k) = X := hs.trans hX
      rw [hX] at hc
      clear hw hs hX hq e2 p0 p1
      go_wp2
      go_quiet ((go_at_call 36; exact Calls.quiet_of (C.out _)))
      go_wp2
      go_roundw
      case rel => exact ⟨k + 1, m + nq, by omega, by go_num, by rw [HW.out, World.drewN_drewN]⟩
      case measure => simp [intOf]; omega
    · obtain rfl : b = k := by omega
      have hc : K ≤ (2 : Int) ^ b := by
        have : ¬ 2 ^ b ≤ (K - 1).toNat := fun h => by have := hq.1 h; omega
        omega
      obtain ⟨X, hX⟩ : ∃ X, (2 : Int) ^ b = X := ⟨_, rfl⟩
      have hx : wrap64 (2 ^ b) = X := hs.trans hX
      rw [hX] at hc
      clear hw hs hX hq e2 p0 p1
      go_wp2
      go_quiet ((go_at_call 36; exact Calls.quiet_of (C.out _)))
      go_wp2
      go_ret
      exact ⟨rfl, _, by rw [HW.out, World.drewN_drewN]⟩
end Go.Proofs.Ytpjogodepionoaa
