import Derived.Test.YthhcihcgefeblaaDoorX3Z
namespace Go.Proofs.YthhcihcgefeblaaDoor
open Go.RowKit

theorem pow_step2 (j : Nat) (n : Int) (x : Int) (hj : (j : Int) < n) (hn : n ≤ 40) (hx : x = ((2 ^ j : Nat) : Int)) : 1 ≤ x ∧ 2 * x < 9223372036854775808 ∧ 2 * x = ((2 ^ (j + 1) : Nat) : Int) := by
  have h1 : (2 : Nat) ^ (j + 1) ≤ 2 ^ 40 := Nat.pow_le_pow_right (by decide) (by omega)
  have h2 := Nat.two_pow_pos j
  rw [Nat.pow_succ] at h1 ⊢
  generalize (2 : Nat) ^ j = y at *
  refine ⟨by omega, by omega, by omega⟩

set_option maxHeartbeats 1000000 in
/-- The document's power. -/
theorem power_any (n X : Int) (w : World) (h0 : 0 ≤ n) (h1 : n ≤ 40) (hX : X = ((2 ^ n.toNat : Nat) : Int)) :
    Calls Tryd.prog 63 #[.int .i64 n] w fun e w' => e = .returned (.int .i64 X) ∧ w' = w := by
  have HX := Hid.mk hX
  clear hX
  go_enter Tryd.func63, Tryd.ntmps63
  go_wp2
  go_loop [3, 4] (fun v i => ∃ (j : Nat) (x : Int), (j : Int) ≤ n ∧ i = .int .i64 j ∧ v = .int .i64 x ∧ x = ((2 ^ j : Nat) : Int)) (fun _ i => n.toNat - (intOf i).toNat)
  case atStart => exact ⟨0, 1, by omega, rfl, rfl, rfl⟩
  case round =>
    obtain ⟨j, x, hj, rfl, rfl, hx⟩ := hrel
    have Hx := Hid.mk hx
    by_cases hlt : (j : Int) < n
    · obtain ⟨x0, x1, x2⟩ := pow_step2 j n x hlt h1 hx
      have Hx2 := Hid.mk x2
      clear hx x2
      go_wp2
      go_round
      case rel => exact ⟨j + 1, 2 * x, by omega, by go_num, by go_num, Hx2.out⟩
      case measure => simp [intOf]; omega
    · clear hx
      go_wp2
      go_ret
      refine ⟨ret_int ?_, rfl⟩
      rw [HX.out, Hx.out, show n.toNat = j by omega]

set_option maxHeartbeats 1000000 in
theorem params_ok (k wide : Int) (w : World) (k0 : 0 ≤ k) (k1 : k ≤ 15) (w0 : 1 ≤ wide) (w1 : wide ≤ 16) :
    Calls Tryd.prog 62 #[.int .i64 k, .int .i64 wide] w fun e w' => e = .returned (.bool true) ∧ w' = w := by
  go_enter Tryd.func62, Tryd.ntmps62
  go_wp2
  go_ret
  exact ⟨ret_bool (by simp), rfl⟩

theorem digit_val (v X : Int) (c : Nat) (v0 : 0 ≤ v) (hX : X = ((2 ^ c : Nat) : Int)) : (v / X).tmod 2 % 256 = ((v.toNat / 2 ^ c % 2 : Nat) : Int) := by
  obtain ⟨x, rfl⟩ := Int.eq_ofNat_of_zero_le v0
  subst hX
  rw [Int.toNat_natCast, ← Int.natCast_ediv]
  generalize x / 2 ^ c = q at *
  rw [Int.tmod_eq_emod_of_nonneg (by omega)]
  omega

theorem bin_step (v n j : Nat) (hj : j < n) : bin (j + 1) (v / 2 ^ (n - (j + 1))) = bin j (v / 2 ^ (n - j)) ++ [v / 2 ^ (n - 1 - j) % 2] := by
  rw [bin, Nat.div_div_eq_div_mul, ← Nat.pow_succ, show (n - (j + 1)).succ = n - j by omega, show n - (j + 1) = n - 1 - j by omega]

set_option maxHeartbeats 2000000 in
set_option maxRecDepth 1000000 in
theorem digits_any (v n : Int) (w : World) (v0 : 0 ≤ v) (v1 : v < 65536) (h0 : 0 ≤ n) (h1 : n ≤ 40) :
    Calls Tryd.prog 67 #[.int .i64 v, .int .i64 n] w fun e w' => ∃ V, e = .returned V ∧ w'.ownsRow 0 5 1 V n.toNat ((bin n.toNat v.toNat).map byt) ∧ Kept [] w w' ∧ Lies w (.slice none 0 0) V := by
  obtain ⟨i0, hi, hz0, hz1, hz2⟩ := info_parts Tryd.info5
  go_enter Tryd.func67, Tryd.ntmps67
  go_wp2_with fail
  go_loopw [5, 6] (fun ov i wr => ∃ j : Nat, (j : Int) ≤ n ∧ i = .int .i64 (n - 1 - (j : Int)) ∧ wr.ownsRow 0 5 1 ov j ((bin j (v.toNat / 2 ^ (n.toNat - j))).map byt) ∧ Kept [] w wr ∧ Lies w (.slice none 0 0) ov) (fun _ i _ => (intOf i + 1).toNat)
  case atStart => exact ⟨0, by omega, by simp, by simpa [bin] using World.ownsRow_nil _ 0 5 1, Kept.refl _ _, Lies.refl _ _⟩
  case round =>
    obtain ⟨j, hj, rfl, hor, hkr, hlr⟩ := hrel
    have Hor := Hid.mk hor
    have Hkr := Hid.mk hkr
    have Hlr := Hid.mk hlr
    by_cases hlt : (j : Int) < n
    · obtain ⟨X, hX⟩ : ∃ X : Int, X = ((2 ^ (n - 1 - (j : Int)).toNat : Nat) : Int) := ⟨_, rfl⟩
      have hX1 : 1 ≤ X := by have := Nat.two_pow_pos (n - 1 - (j : Int)).toNat; omega
      have Hp := Hid.mk (fun w => power_any (n - 1 - (j : Int)) X w (by omega) (by omega) hX)
      have Hd := Hid.mk (digit_val v X (n - 1 - (j : Int)).toNat v0 hX)
      obtain ⟨y, hy⟩ : ∃ y : Nat, y = v.toNat / 2 ^ (n - 1 - (j : Int)).toNat % 2 := ⟨_, rfl⟩
      rw [← hy] at Hd
      have hd : (v / X).tmod 2 % 256 = (y : Int) := Hd.out
      have Hy := Hid.mk hy
      clear hX hy hor hkr hlr
      go_wp2_with (first
        | (go_at_call 63; refine (Hp.out _).mono ?_; rintro e w1 ⟨rfl, rfl⟩)
        | (at_builtin; refine wpList_append_own_at _ rfl _ _ 34 rfl 0 5 i0 (.int .u8 0) 1 1 Tryd.underlying34 hi hz0 hz1 hz2 rfl (by decide) _ _ _ rfl (Hor.out.alloc _) ⟨w1.heap.size, 0, none⟩ 1 1 [.int .u8 (y : Int)] rfl rfl ?c1 ?c2 ?c3 ?c4 ?c5 ?_))
      case c1 =>
        intro i u hu
        match i, hu with
        | 0, hu => simp at hu; subst hu; simp [Addr.add]
      case c2 => intro u hu; simp at hu; subst hu; rfl
      case c3 => unfold maxLen; omega
      case c4 => omega
      case c5 => omega
      intro v' w2 hown' hgrow _ hat
      have hk' : Kept [] w w2 := (Hkr.out.alloc _).step (Kept.of_grown hgrow) (by have := Hlr.out.mem; simpa [Value.ownBlock] using this)
      have hl' : Lies w (.slice none 0 0) v' := by
        refine Hlr.out.trans (w1 := w1) (v1 := u5) ?_ Hkr.out.size
        rcases hat with h | h
        · exact .inl h
        · exact .inr ⟨_, h, by simp⟩
      have ho' : w2.ownsRow 0 5 1 v' (j + 1) ((bin (j + 1) (v.toNat / 2 ^ (n.toNat - (j + 1)))).map byt) := by
        have e : y = v.toNat / 2 ^ (n.toNat - 1 - j) % 2 := by rw [Hy.out, show (n - 1 - (j : Int)).toNat = n.toNat - 1 - j by omega]
        rw [bin_step _ _ _ (by omega), List.map_append, List.map_singleton, byt, ← e]
        exact hown'
      have HO := Hid.mk ho'
      have HK := Hid.mk hk'
      have HL := Hid.mk hl'
      clear hown' hgrow hat ho' hk' hl'
      go_wp2
      go_roundw
      case rel => exact ⟨j + 1, by omega, by congr 1; omega, HO.out, HK.out, HL.out⟩
      case measure => simp [intOf]; omega
    · obtain rfl : n = (j : Int) := by omega
      clear hor hkr hlr
      go_wp2
      go_ret
      have h := Hor.out
      simp only [Int.toNat_natCast, Nat.sub_self, Nat.pow_zero, Nat.div_one] at h
      exact ⟨_, rfl, h, Hkr.out, Hlr.out⟩
end Go.Proofs.YthhcihcgefeblaaDoor
