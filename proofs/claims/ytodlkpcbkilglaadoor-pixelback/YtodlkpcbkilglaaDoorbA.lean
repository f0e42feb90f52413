import Derived.Test.YtodlkpcbkilglaaDoorbK
import Derived.Test.YtodlkpcbkilglaaDoorbM
namespace Go.Proofs.YtodlkpcbkilglaaDoor.Bt
open Go.RowKit

theorem ret_int {k : IntKind} {a b : Int} (h : a = b) : Ending.returned (.int k a) = .returned (.int k b) := by rw [h]
theorem ret_bool {a b : Bool} (h : a = b) : Ending.returned (.bool a) = .returned (.bool b) := by rw [h]

set_option maxHeartbeats 400000 in
theorem fits32_any (v n : Int) (w : World) (h0 : 0 ≤ n) (h1 : n ≤ 32) :
    Calls Tryd.prog 97 #[.int .u32 v, .int .i64 n] w fun e w' => e = .returned (.bool (v / 2 ^ n.toNat == 0)) ∧ w' = w := by
  go_enter Tryd.func97, Tryd.ntmps97
  go_wp2
  go_ret
  exact ⟨rfl, rfl⟩



theorem mask_eq (v n : Int) (h0 : 0 ≤ n) (h1 : n ≤ 63) (v0 : 0 ≤ v) (v1 : v < 18446744073709551616) :
    bits BinOp.and IntKind.u64 v (IntKind.u64.wrap (IntKind.u64.wrap (2 ^ n.toNat) - 1)) = v % 2 ^ n.toNat := by
  have hp : (2 : Nat) ^ n.toNat ≤ 2 ^ 63 := Nat.pow_le_pow_right (by decide) (by omega)
  have hp0 : 0 < (2 : Nat) ^ n.toNat := Nat.two_pow_pos _
  have e1 : ((2 : Int) ^ n.toNat) = (((2 : Nat) ^ n.toNat : Nat) : Int) := by simp
  rw [e1, IntKind.wrap_u64, IntKind.wrap_u64]
  generalize hq : (2 : Nat) ^ n.toNat = q at *
  have e2 : ((((q : Nat) : Int) % 18446744073709551616 - 1) % 18446744073709551616) = ((q - 1 : Nat) : Int) := by omega
  rw [e2, u64_and v _ v0 v1 (by omega) (by omega), Int.toNat_natCast, ← hq, Nat.and_two_pow_sub_one_eq_mod, Int.natCast_emod, Int.toNat_of_nonneg v0]

set_option maxHeartbeats 400000 in
theorem lowest_any (v n : Int) (w : World) (h0 : 0 ≤ n) (h1 : n ≤ 63) (v0 : 0 ≤ v) (v1 : v < 18446744073709551616) :
    Calls Tryd.prog 99 #[.int .u64 v, .int .i64 n] w fun e w' => e = .returned (.int .u64 (v % 2 ^ n.toNat)) ∧ w' = w := by
  have hm := mask_eq v n h0 h1 v0 v1
  go_enter Tryd.func99, Tryd.ntmps99
  go_wp2
  go_ret
  exact ⟨rfl, rfl⟩


theorem byte_eq (X k : Int) (j : Nat) (k1 : k ≤ 8) (X0 : 0 ≤ X) (hj : (j : Int) < k) :
    X / 2 ^ (8 * (k - 1 - (j : Int))).toNat % 256 = ((X.toNat / 256 ^ (k.toNat - (j + 1)) % 256 : Nat) : Int) := by
  obtain ⟨x, rfl⟩ := Int.eq_ofNat_of_zero_le X0
  obtain ⟨q, rfl⟩ := Int.eq_ofNat_of_zero_le (show 0 ≤ k by omega)
  have e : (8 * ((q : Int) - 1 - (j : Int))).toNat = 8 * (q - (j + 1)) := by omega
  have e1 : ((2 : Int) ^ (8 * (q - (j + 1)))) = (((2 : Nat) ^ (8 * (q - (j + 1))) : Nat) : Int) := by simp
  rw [e, pow256, e1, Int.toNat_natCast, Int.toNat_natCast, Int.natCast_emod, Int.natCast_ediv]
  rfl

set_option maxHeartbeats 1000000 in
set_option maxRecDepth 1000000 in
theorem appendBig_any (v : Value) (n : Nat) (xs : List Value) (X k : Int) (w : World) (hown : w.ownsRow 0 5 1 v n xs) (k0 : 0 ≤ k) (k1 : k ≤ 8) (X0 : 0 ≤ X) (hn : n + 8 ≤ 140737488355328) :
    Calls Tryd.prog 98 #[v, .int .u64 X, .int .i64 k] w fun e w' => ∃ v', e = .returned v' ∧ w'.ownsRow 0 5 1 v' (n + k.toNat) (xs ++ (big k.toNat X.toNat).map byt) ∧ Kept v.ownBlock.toList w w' ∧ Lies w v v' := by
  obtain ⟨i0, hi, hz0, hz1, hz2⟩ := info_parts Tryd.info5
  go_enter Tryd.func98, Tryd.ntmps98
  go_wp2
  go_loopw [0, 9] (fun v1 i wr => ∃ j : Nat, (j : Int) ≤ k ∧ i = .int .i64 j ∧ wr.ownsRow 0 5 1 v1 (n + j) (xs ++ (big j (X.toNat / 256 ^ (k.toNat - j))).map byt) ∧ Kept v.ownBlock.toList w wr ∧ Lies w v v1)
    (fun _ i _ => k.toNat - (intOf i).toNat)
  case atStart => exact ⟨0, by omega, rfl, by simpa [big] using hown, Kept.refl _ _, Lies.refl _ _⟩
  case round =>
    obtain ⟨j, hj, rfl, hor, hkr, hlr⟩ := hrel
    by_cases hlt : (j : Int) < k
    · go_wp2_with (at_builtin; refine wpList_append_own_at _ rfl _ _ 37 rfl 0 5 i0 (.int .u8 0) 1 1 Tryd.underlying37 hi hz0 hz1 hz2 rfl (by decide) _ _ _ rfl (hor.alloc _) ⟨wr.heap.size, 0, none⟩ 1 1 [.int .u8 (X / 2 ^ (8 * (k - 1 - (j : Int))).toNat % 256)] rfl rfl ?c1 ?c2 ?c3 ?c4 ?c5 ?_)
      case c1 =>
        intro i u hu
        match i, hu with
        | 0, hu => simp at hu; subst hu; simp [Addr.add]
      case c2 => intro u hu; simp at hu; subst hu; rfl
      case c3 => unfold maxLen; omega
      case c4 => omega
      case c5 => omega
      intro v' w1 hown' hgrow _ hat
      have hk' : Kept v.ownBlock.toList w w1 := (hkr.alloc _).step (Kept.of_grown hgrow) (Lies.mem hlr)
      have hl' : Lies w v v' := by
        refine hlr.trans (w1 := wr) (v1 := u0) ?_ hkr.size
        rcases hat with h | h
        · exact .inl h
        · exact .inr ⟨_, h, by simp⟩
      have ho' : w1.ownsRow 0 5 1 v' (n + (j + 1)) (xs ++ (big (j + 1) (X.toNat / 256 ^ (k.toNat - (j + 1)))).map byt) := by
        have e1 : X.toNat / 256 ^ (k.toNat - (j + 1)) / 256 = X.toNat / 256 ^ (k.toNat - j) := by
          rw [Nat.div_div_eq_div_mul, ← Nat.pow_succ, show (k.toNat - (j + 1)).succ = k.toNat - j by omega]
        rw [big, e1, List.map_append, ← List.append_assoc, List.map_singleton, byt, ← byte_eq X k j k1 X0 hlt]
        simpa [Nat.add_assoc] using hown'
      clear hown' hgrow hat hor hkr hlr
      go_wp2
      go_roundw
      case rel => exact ⟨j + 1, by omega, by go_num, ho', hk', hl'⟩
      case measure => simp [intOf]; omega
    · go_wp2
      go_ret
      obtain rfl : k = (j : Int) := by omega
      exact ⟨_, rfl, by simpa using hor, hkr, hlr⟩
end Go.Proofs.YtodlkpcbkilglaaDoor.Bt
