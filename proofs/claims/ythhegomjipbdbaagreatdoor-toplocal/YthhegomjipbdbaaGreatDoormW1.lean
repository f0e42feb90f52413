import Derived.Test.YthhegomjipbdbaaGreatDoormA1Z
import Derived.Lib.Slices
import Derived.Lib.Small
import Derived.Lib.Walk
import Derived.Lib.BitFns
namespace Go.Proofs.YthhegomjipbdbaaGreatDoor
open Go.RowKit

theorem mtab_int (x : Int) (h0 : 0 ≤ x) (h : x.toNat < Lib.len8tab.size) : wrap64 ((Lib.len8tab[x.toNat]'h).toNat : Int) = (Lib.bitLen x.toNat : Int) ∧ Lib.bitLen x.toNat ≤ 8 := by
  have h2 : x.toNat < 256 := by rw [← Lib.len8tab_size]; exact h
  have hl : Lib.bitLen x.toNat ≤ 8 := Lib.bitLen_le8 ⟨x.toNat, h2⟩
  have e := Lib.len8_of x h0 (by omega)
  unfold Lib.len8 at e
  rw [getElem?_pos Lib.len8tab x.toNat h, Option.getD_some] at e
  refine ⟨?_, hl⟩
  rw [e]
  unfold wrap64
  omega
theorem bl_iff (x k : Nat) (hx : x < 4096) (hk : k < 13) : 2 ^ k ≤ x ↔ k < Lib.bitLen x := by
  constructor
  · intro h
    rw [Lib.bitLen_shift k x h (by omega)]
    have h1 : x / 2 ^ k ≠ 0 := by
      have := Nat.div_pos h (Nat.pow_pos (by omega)); omega
    have h2 : x / 2 ^ k ≤ x := Nat.div_le_self _ _
    rw [Lib.bitLen_half _ h1 (by omega)]
    omega
  · intro h
    by_cases hc : 2 ^ k ≤ x
    · exact hc
    · have := Lib.bitLen_le x k (by omega) (by omega); omega
theorem bl_le (x : Nat) (hx : x < 4096) : Lib.bitLen x ≤ 12 := Lib.bitLen_le x 12 (by omega) hx

set_option maxHeartbeats 4000000 in
set_option maxRecDepth 100000 in
theorem len64_any (x : Int) (w : World) (h0 : 0 ≤ x) (h1 : x ≤ 4095) :
    Calls Tryz.prog 185 #[.int .u64 x] w fun e w' => e = .returned (.int .i64 (Lib.bitLen x.toNat)) ∧ w' = w := by
  have hsz := Lib.len8tab_size
  by_cases c2 : x < 256
  · go_enter Tryz.func185, Tryz.ntmps185
    go_wp2
    go_ret
    refine ⟨congrArg Ending.returned (congrArg (Value.int IntKind.i64) ?_), rfl⟩
    have t := mtab_int (x) (by omega) (by rw [Lib.len8tab_size]; omega)
    rw [t.1]
    unfold wrap64
    omega
  · go_enter Tryz.func185, Tryz.ntmps185
    go_wp2
    go_ret
    refine ⟨congrArg Ending.returned (congrArg (Value.int IntKind.i64) ?_), rfl⟩
    have t := mtab_int (x / 256) (by omega) (by rw [Lib.len8tab_size]; omega)
    rw [t.1]
    have s := Lib.bitLen_shift8 x.toNat (by omega) (by omega)
    have e : (x / 256).toNat = x.toNat / 256 := by omega
    have l := t.2
    rw [e] at l ⊢
    unfold wrap64
    omega

set_option maxHeartbeats 4000000 in
set_option maxRecDepth 100000 in
theorem mlen_any (x : Int) (w : World) (h0 : 0 ≤ x) (h1 : x ≤ 4095) :
    Calls Tryz.prog 178 #[.int .u64 x] w fun e w' => e = .returned (.int .i64 (Lib.bitLen x.toNat)) ∧ w' = w := by
  have C := Hid.mk (len64_any x w h0 h1)
  go_enter Tryz.func178, Tryz.ntmps178
  go_wp2_with (go_at_call 185; refine C.out.mono ?_; rintro e w' ⟨rfl, rfl⟩)
  go_ret
  exact ⟨rfl, rfl⟩

set_option maxHeartbeats 4000000 in
set_option maxRecDepth 100000 in
theorem wide_any (P : Nat) (T d : Int) (w : World) (H : Hd w P T d) (G : Gd T d) : Calls Tryz.prog 155 #[.pointer (some ⟨P, 0, none⟩)] w fun e w' => e = .returned (.int .i64 (Lib.bitLen (rg T d - 1).toNat : Int)) ∧ w' = w := by
  have ⟨g0, g1⟩ := rg_pos T d G
  have h3 := H.c3
  have C := Hid.mk (mlen_any (rg T d - 1) w (by omega) (by omega))
  obtain ⟨b, hb⟩ : ∃ b, b = Lib.bitLen (rg T d - 1).toNat := ⟨_, rfl⟩
  rw [← hb] at C ⊢
  clear hb
  generalize rg T d = K at *
  clear H G
  go_enter Tryz.func155, Tryz.ntmps155
  go_wp2_with (go_at_call 178; refine C.out.mono ?_; rintro e w' ⟨rfl, rfl⟩)
  go_ret
  exact ⟨rfl, rfl⟩

end Go.Proofs.YthhegomjipbdbaaGreatDoor
