import Derived.Test.YtahoeodpjdbdkabDoorG1Z
namespace Go.Proofs.YtahoeodpjdbdkabDoor
open Go.RowKit

set_option maxHeartbeats 400000 in
theorem formed_ok (k wide : Int) (w : World) (k0 : 0 ≤ k) (k1 : k ≤ 15) (w0 : 1 ≤ wide) (w1 : wide ≤ 16) :
    Calls Tryd.prog 81 #[.int .i64 k, .int .i64 wide] w fun e w' => e = .returned (.bool true) ∧ w' = w := by
  go_enter Tryd.func81, Tryd.ntmps81
  go_wp2
  go_ret
  exact ⟨ret_bool (by simp), rfl⟩

set_option maxHeartbeats 400000 in
theorem check_ok (v k wide : Int) (w : World) (k0 : 0 ≤ k) (k1 : k ≤ 15) (w0 : 1 ≤ wide) (w1 : wide ≤ 16) (v0 : 0 ≤ v) (hv : v / 2 ^ wide.toNat = 0) :
    Calls Tryd.prog 88 #[.int .i64 v, .int .i64 k, .int .i64 wide] w fun e w' => e = .returned (.int .i64 0) ∧ w' = w := by
  have v0' : decide (v < 0) = false := by simp; omega
  go_enter Tryd.func88, Tryd.ntmps88
  go_wp2_with (go_at_call 81; refine (formed_ok k wide _ k0 k1 w0 w1).mono ?_; rintro e w' ⟨rfl, rfl⟩)
  go_ret
  exact ⟨rfl, rfl⟩
end Go.Proofs.YtahoeodpjdbdkabDoor

namespace Go.Proofs.YtahoeodpjdbdkabDoor
open Go.RowKit

theorem one_lt (n : Nat) (h : 1 ≤ n) : 1 < 2 ^ n := by
  have : 2 ^ 1 ≤ 2 ^ n := Nat.pow_le_pow_right (by decide) h
  omega

theorem keep_two {w w1 w2 : World} {B : Nat} {V V1 : Value} (k1 : Kept (B :: V.ownBlock.toList) w w1) (l1 : Lies w V V1) (k2 : Kept (B :: V1.ownBlock.toList) w1 w2) : Kept (B :: V.ownBlock.toList) w w2 := by
  refine k1.step k2 ?_
  intro x hx
  rcases List.mem_cons.1 hx with h | h
  · left; rw [h]; exact List.mem_cons_self
  · rcases l1.mem x h with h | h
    · left; exact List.mem_cons_of_mem _ h
    · right; exact h

set_option maxHeartbeats 2000000 in
set_option maxRecDepth 1000000 in
theorem gput_short (B : Nat) (V : Value) (N len : Nat) (v k wide u M low : Int) (w : World) (hw : WriterAt w B V N len) (k0 : 0 ≤ k) (k1 : k ≤ 15) (w0 : 1 ≤ wide) (w1 : wide ≤ 16) (v0 : 0 ≤ v) (v1 : v < 65536)
    (hv : v / 2 ^ wide.toNat = 0) (hu : v / 2 ^ k.toNat = u) (u0 : 0 ≤ u) (u1 : u < 24) (hM : u * 2 ^ k.toNat = M) (M0 : 0 ≤ M) (hlow : v - M = low) (l0 : 0 ≤ low) (l1 : low.toNat < 2 ^ k.toNat) (l2 : low < 65536) (hl : len / 8 + 16 ≤ 140737488355328) :
    Calls Tryd.prog 67 #[.pointer (some ⟨B, 0, none⟩), .int .i64 v, .int .i64 k, .int .i64 wide] w fun e w' => e = .returned (.int .i64 0) ∧
      ∃ V', WriterAt w' B V' ((N * 2 ^ (u + 1).toNat + 1) * 2 ^ k.toNat + low.toNat) (len + (u + 1).toNat + k.toNat) ∧ Kept (B :: V.ownBlock.toList) w w' ∧ Lies w V V' := by
  have HW := Hid.mk hw
  have HC := Hid.mk (fun w => check_ok v k wide w k0 k1 w0 w1 v0 hv)
  have Hl1 := Hid.mk l1
  have hM1 : M ≤ v := by omega
  clear hw l1 hv
  go_enter Tryd.func67, Tryd.ntmps67
  go_wp2_with (go_at_call 88; refine (HC.out _).mono ?_; rintro e w' ⟨rfl, rfl⟩)
  refine (put_any B V N len 1 (u + 1) _ HW.out (by omega) (by omega) (by omega) (one_lt _ (by omega)) (by omega)).mono ?_
  rintro e w1 ⟨rfl, V1, hw1, hk1, hl1⟩
  have HW1 := Hid.mk hw1
  clear hw1
  go_wp2_with fail
  refine (put_any B V1 _ _ low k _ HW1.out (by omega) (by omega) (by omega) Hl1.out (by omega)).mono ?_
  rintro e w2 ⟨rfl, V2, hw2, hk2, hl2⟩
  have HW2 := Hid.mk hw2
  clear hw2
  go_wp2_with fail
  go_ret
  exact ⟨rfl, V2, HW2.out, keep_two hk1 hl1 hk2, hl1.trans hl2 hk1.size⟩

set_option maxHeartbeats 2000000 in
set_option maxRecDepth 1000000 in
theorem gput_long (B : Nat) (V : Value) (N len : Nat) (v k wide u : Int) (w : World) (hw : WriterAt w B V N len) (k0 : 0 ≤ k) (k1 : k ≤ 15) (w0 : 1 ≤ wide) (w1 : wide ≤ 16) (v0 : 0 ≤ v) (v1 : v < 65536)
    (hv : v / 2 ^ wide.toNat = 0) (hv2 : v.toNat < 2 ^ wide.toNat) (hu : v / 2 ^ k.toNat = u) (u1 : 24 ≤ u) (hl : len / 8 + 16 ≤ 140737488355328) :
    Calls Tryd.prog 67 #[.pointer (some ⟨B, 0, none⟩), .int .i64 v, .int .i64 k, .int .i64 wide] w fun e w' => e = .returned (.int .i64 0) ∧
      ∃ V', WriterAt w' B V' ((N * 2 ^ (24 : Int).toNat + (0 : Int).toNat) * 2 ^ wide.toNat + v.toNat) (len + (24 : Int).toNat + wide.toNat) ∧ Kept (B :: V.ownBlock.toList) w w' ∧ Lies w V V' := by
  have HW := Hid.mk hw
  have HC := Hid.mk (fun w => check_ok v k wide w k0 k1 w0 w1 v0 hv)
  have Hv2 := Hid.mk hv2
  clear hw hv hv2
  go_enter Tryd.func67, Tryd.ntmps67
  go_wp2_with (go_at_call 88; refine (HC.out _).mono ?_; rintro e w' ⟨rfl, rfl⟩)
  refine (put_any B V N len 0 24 _ HW.out (by omega) (by omega) (by omega) (Nat.two_pow_pos _) (by omega)).mono ?_
  rintro e w1 ⟨rfl, V1, hw1, hk1, hl1⟩
  have HW1 := Hid.mk hw1
  clear hw1
  go_wp2_with fail
  refine (put_any B V1 _ _ v wide _ HW1.out (by omega) (by omega) (by omega) Hv2.out (by omega)).mono ?_
  rintro e w2 ⟨rfl, V2, hw2, hk2, hl2⟩
  have HW2 := Hid.mk hw2
  clear hw2
  go_wp2_with fail
  go_ret
  exact ⟨rfl, V2, HW2.out, keep_two hk1 hl1 hk2, hl1.trans hl2 hk1.size⟩

theorem pow16 (wide : Int) (w1 : wide ≤ 16) : 2 ^ wide.toNat ≤ 65536 := by
  have : 2 ^ wide.toNat ≤ 2 ^ 16 := Nat.pow_le_pow_right (by decide) (by omega)
  exact this

theorem div_zero_of (v wide : Int) (v0 : 0 ≤ v) (hv : v.toNat < 2 ^ wide.toNat) : v / 2 ^ wide.toNat = 0 := by
  rw [pow_two_int]
  exact Int.ediv_eq_zero_of_lt v0 (by omega)

/-- Put of a number lays its form down. -/
theorem gput_any (B : Nat) (V : Value) (N len : Nat) (v k wide : Int) (w : World) (hw : WriterAt w B V N len) (k0 : 0 ≤ k) (k1 : k ≤ 15) (w0 : 1 ≤ wide) (w1 : wide ≤ 16) (v0 : 0 ≤ v) (hv : v.toNat < 2 ^ wide.toNat) (hl : len / 8 + 16 ≤ 140737488355328) :
    Calls Tryd.prog 67 #[.pointer (some ⟨B, 0, none⟩), .int .i64 v, .int .i64 k, .int .i64 wide] w fun e w' => e = .returned (.int .i64 0) ∧
      ∃ V', WriterAt w' B V' (N * 2 ^ gw v.toNat k.toNat wide.toNat + gf v.toNat k.toNat) (len + gw v.toNat k.toNat wide.toNat) ∧ Kept (B :: V.ownBlock.toList) w w' ∧ Lies w V V' := by
  have h16 := pow16 wide w1
  have hv0 := div_zero_of v wide v0 hv
  obtain ⟨x, rfl⟩ := Int.eq_ofNat_of_zero_le v0
  rw [Int.toNat_natCast] at hv ⊢
  have hdiv : (x : Int) / 2 ^ k.toNat = ((x / 2 ^ k.toNat : Nat) : Int) := by rw [pow_two_int, Int.natCast_ediv]
  have hmod := Nat.mod_lt x (Nat.two_pow_pos k.toNat)
  have hdm : x / 2 ^ k.toNat * 2 ^ k.toNat + x % 2 ^ k.toNat = x := by rw [Nat.mul_comm]; exact Nat.div_add_mod x (2 ^ k.toNat)
  by_cases hs : x / 2 ^ k.toNat < 24
  · obtain ⟨e1, e2⟩ := gf_short (wide := wide.toNat) hs
    rw [e1, e2]
    have hM : ((x / 2 ^ k.toNat : Nat) : Int) * 2 ^ k.toNat = ((x / 2 ^ k.toNat * 2 ^ k.toNat : Nat) : Int) := by rw [pow_two_int, Int.natCast_mul]
    have hmul : (N * 2 ^ (x / 2 ^ k.toNat + 1) + 1) * 2 ^ k.toNat + x % 2 ^ k.toNat = N * 2 ^ (x / 2 ^ k.toNat + 1 + k.toNat) + (2 ^ k.toNat + x % 2 ^ k.toNat) := by
      rw [Nat.pow_add _ (x / 2 ^ k.toNat + 1), Nat.add_mul, Nat.one_mul, Nat.mul_assoc, Nat.add_assoc]
    clear e1 e2
    generalize x / 2 ^ k.toNat = q at *
    generalize hr : x % 2 ^ k.toNat = low at *
    have h := gput_short B V N len x k wide (q : Int) ((q * 2 ^ k.toNat : Nat) : Int) (low : Int) w hw k0 k1 w0 w1 v0 (by omega) hv0 hdiv (by omega) (by omega) hM (by omega) (by omega) (by omega) (by rw [Int.toNat_natCast]; exact hmod) (by omega) hl
    rw [Int.toNat_natCast, show ((q : Int) + 1).toNat = q + 1 by omega, hmul, Nat.add_assoc len] at h
    exact h
  · obtain ⟨e1, e2⟩ := gf_long (wide := wide.toNat) hs
    rw [e1, e2]
    have h := gput_long B V N len x k wide ((x / 2 ^ k.toNat : Nat) : Int) w hw k0 k1 w0 w1 v0 (by omega) hv0 (by rw [Int.toNat_natCast]; exact hv) hdiv (by omega) hl
    rw [Int.toNat_natCast, show (24 : Int).toNat = 24 from rfl, show (0 : Int).toNat = 0 from rfl, Nat.add_zero, Nat.mul_assoc, ← Nat.pow_add, Nat.add_assoc len] at h
    exact h

end Go.Proofs.YtahoeodpjdbdkabDoor
