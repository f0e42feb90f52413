import Derived.Test.YthhcihcgefeblaaDoorX4
namespace Go.Proofs.YthhcihcgefeblaaDoor
open Go.RowKit

theorem refw_cell {w : World} {B : Nat} {V : Value} {bs : List Nat} (h : RefW w B V bs) (k : Nat) (hk : k < bs.length) :
    ∃ g cap, V = .slice (some ⟨g, 0, none⟩) bs.length cap ∧ w.cell? ⟨g, k, none⟩ = some (byt (bs.getD k 0)) := by
  obtain ⟨g, cap, rfl⟩ := row_some h.2 (by omega)
  refine ⟨g, cap, rfl, ?_⟩
  rw [h.2.cellAt k (by omega)]
  simp [hk]

theorem refw_kept {w w' : World} {B : Nat} {V : Value} {bs : List Nat} {ks : List Nat} (h : RefW w B V bs) (hk : Kept ks w w') (h1 : B ∉ ks) (h2 : ∀ g, V.ownBlock = some g → g ∉ ks) : RefW w' B V bs :=
  ⟨hk.heap h.1 h1, hk.row h.2 h2⟩

/-- The bits of what is filled up. -/
theorem pad_digit (N len M k : Nat) (hM : len ≤ M) (hk : k < M) : N * 2 ^ (M - len) / 2 ^ (M - 1 - k) % 2 = if k < len then (bin len N).getD k 0 else 0 := by
  by_cases h : k < len
  · rw [if_pos h, bin_getD len N k h, show M - 1 - k = (M - len) + (len - 1 - k) by omega, Nat.pow_add, ← Nat.div_div_eq_div_mul, Nat.mul_div_cancel _ (Nat.two_pow_pos _)]
  · rw [if_neg h, show M - len = (M - 1 - k) + ((k - len) + 1) by omega, Nat.pow_add, Nat.mul_left_comm, Nat.mul_div_cancel_left _ (Nat.two_pow_pos _), Nat.pow_succ, ← Nat.mul_assoc, Nat.mul_mod_left]

theorem mod_step (Y j : Nat) : Y % 2 ^ (j + 1) = 2 * (Y / 2 % 2 ^ j) + Y % 2 := by
  have e : Y % 2 ^ (j + 1) / 2 = Y / 2 % 2 ^ j := by rw [Nat.pow_succ, Nat.mul_comm, Nat.mod_mul_right_div_self]
  have e2 : Y % 2 ^ (j + 1) % 2 = Y % 2 := Nat.mod_mod_of_dvd _ ⟨2 ^ j, by rw [Nat.pow_succ, Nat.mul_comm]⟩
  rw [← e, ← e2]
  omega

theorem byte_step (X p j : Nat) (hp : 1 ≤ p) : X / 2 ^ (p - 1) % 2 ^ (j + 1) = 2 * (X / 2 ^ p % 2 ^ j) + X / 2 ^ (p - 1) % 2 := by
  rw [mod_step, Nat.div_div_eq_div_mul, ← Nat.pow_succ, show (p - 1).succ = p by omega]

theorem big_step (X M c : Nat) (hc : c < M) : big (c + 1) (X / 256 ^ (M - (c + 1))) = big c (X / 256 ^ (M - c)) ++ [X / 2 ^ (8 * (M - c) - 8) % 2 ^ 8] := by
  rw [big, Nat.div_div_eq_div_mul, ← Nat.pow_succ, show (M - (c + 1)).succ = M - c by omega, pow256 (M - (c + 1)), show 8 * (M - (c + 1)) = 8 * (M - c) - 8 by omega]

set_option maxHeartbeats 2000000 in
set_option maxRecDepth 1000000 in
theorem refBytes_any (B : Nat) (V : Value) (N len M : Nat) (w : World) (h : RefW w B V (bin len N)) (hM : M = (len + 7) / 8) (hl : len ≤ 100000000000000) :
    Calls Tryd.prog 48 #[.pointer (some ⟨B, 0, none⟩)] w fun e w' => ∃ V', e = .returned V' ∧ w'.ownsRow 0 5 1 V' M ((big M (N * 2 ^ (8 * M - len))).map byt) ∧ Kept [] w w' := by
  obtain ⟨i0, hi, hz0, hz1, hz2⟩ := info_parts Tryd.info5
  obtain ⟨X, hX⟩ : ∃ X, X = N * 2 ^ (8 * M - len) := ⟨_, rfl⟩
  have HX := Hid.mk hX
  rw [← hX]
  have Hh := Hid.mk h
  obtain ⟨ao, cap, rfl⟩ : ∃ ao cap, V = .slice ao len cap := by have hf := row_form h.2; rw [bin_length] at hf; exact hf
  have HM := Hid.mk hM
  clear hX h hM
  go_enter Tryd.func48, Tryd.ntmps48
  go_wp2
  go_loopw [3, 4, 5, 6] (fun s3 s4 s5 s6 wr => ∃ (c : Nat) (ci : Int), c ≤ M ∧ ci = 8 * (c : Int) ∧ s4 = .int .i64 ci ∧ wr.ownsRow 0 5 1 s3 c ((big c (X / 256 ^ (M - c))).map byt) ∧ Lies w (.slice none 0 0) s3 ∧ Kept [] w wr) (fun _ s4 _ _ _ => (8 * M + 8) - (intOf s4).toNat)
  case atStart => exact ⟨0, 0, Nat.zero_le _, rfl, rfl, by simpa [big] using World.ownsRow_nil _ _ _ _, Lies.refl _ _, Kept.refl _ _⟩
  case round =>
    obtain ⟨c, ci, hcM, hci, rfl, hown, hlies, hkr⟩ := hrel
    have Hown := Hid.mk hown
    have Hlies := Hid.mk hlies
    have Hkr := Hid.mk hkr
    have Hci := Hid.mk hci
    have hW := refw_kept Hh.out hkr (by simp) (by simp)
    have c0 := (cells_one' hW.1).1
    have HW := Hid.mk hW
    have hm := HM.out
    by_cases hlt : ci < (len : Int)
    · have hcM2 : c < M := by omega
      have ci0 : 0 ≤ ci := by omega
      have hcb : c ≤ 100000000000000 := by omega
      have cib : ci ≤ 100000000000000 := by omega
      clear hown hlies hkr hW hci hm
      go_wp2
      go_loop [5, 6] (fun s5 s6 => ∃ (j : Nat) (x k : Int), j ≤ 8 ∧ k = ci + (j : Int) ∧ s6 = .int .i64 k ∧ s5 = .int .i64 x ∧ x = ((X / 2 ^ (8 * (M - c) - j) % 2 ^ j : Nat) : Int)) (fun _ s6 => (ci + 8 - intOf s6).toNat)
      case atStart => exact ⟨0, 0, ci, by omega, by omega, rfl, rfl, by simp [Nat.mod_one]⟩
      case round =>
        obtain ⟨j, x, k, hj, hk, rfl, rfl, hx⟩ := hrel
        have Hx := Hid.mk hx
        have Hk := Hid.mk hk
        have hxl : X / 2 ^ (8 * (M - c) - j) % 2 ^ j < 2 ^ j := Nat.mod_lt _ (Nat.two_pow_pos _)
        have hp8 : (2 : Nat) ^ j ≤ 2 ^ 8 := Nat.pow_le_pow_right (by decide) hj
        have hx0 : 0 ≤ x := by omega
        have hx1 : x < 256 := by have : (2 : Nat) ^ 8 = 256 := by decide
                                 omega
        clear hxl hp8
        by_cases hj8 : j < 8
        · have klt : k < ci + 8 := by omega
          have hbs := byte_step X (8 * (M - c) - j) j (by omega)
          have hpd := pad_digit N len (8 * M) (8 * c + j) (by have := HM.out; omega) (by omega)
          rw [show 8 * (M - c) - j - 1 = 8 * (M - c) - (j + 1) by omega] at hbs
          rw [show 8 * M - 1 - (8 * c + j) = 8 * (M - c) - (j + 1) by omega, ← HX.out] at hpd
          by_cases hin : k < (len : Int)
          · rw [if_pos (by have := Hci.out; omega)] at hpd
            obtain ⟨g, cap', he, hcell⟩ := refw_cell HW.out (8 * c + j) (by rw [bin_length]; have := Hci.out; omega)
            simp only [Value.slice.injEq] at he
            obtain ⟨rfl, hlz, rfl⟩ := he
            clear hlz
            have hbit : (bin len N).getD (8 * c + j) 0 < 2 := by rw [← hpd]; exact Nat.mod_lt _ (by decide)
            obtain ⟨y, hy⟩ : ∃ y : Int, y = (((bin len N).getD (8 * c + j) 0 : Nat) : Int) := ⟨_, rfl⟩
            have hcell2 : wr.cell? ⟨g, k.toNat, none⟩ = some (.int .u8 y) := by rw [show k.toNat = 8 * c + j by have := Hci.out; omega, hcell, hy]; rfl
            have y0 : 0 ≤ y := by omega
            have y1 : y < 2 := by omega
            have k0 : 0 ≤ k := by omega
            have kb : k ≤ 100000000000010 := by omega
            have hfin : 2 * x + y = ((X / 2 ^ (8 * (M - c) - (j + 1)) % 2 ^ (j + 1) : Nat) : Int) := by rw [hbs, hpd]; omega
            have Hfin := Hid.mk hfin
            clear hx hcell hbs hpd hbit hy hfin hk
            go_wp2
            go_round
            case rel => exact ⟨j + 1, 2 * x + y, k + 1, by omega, by have := Hk.out; omega, by go_num, by go_num, Hfin.out⟩
            case measure => simp [intOf]; omega
          · rw [if_neg (by have := Hci.out; omega)] at hpd
            have k0 : 0 ≤ k := by omega
            have kb : k ≤ 100000000000010 := by omega
            have hfin : 2 * x = ((X / 2 ^ (8 * (M - c) - (j + 1)) % 2 ^ (j + 1) : Nat) : Int) := by rw [hbs, hpd]; omega
            have Hfin := Hid.mk hfin
            clear hx hbs hpd hfin hk
            go_wp2
            go_round
            case rel => exact ⟨j + 1, 2 * x, k + 1, by omega, by have := Hk.out; omega, by go_num, by go_num, Hfin.out⟩
            case measure => simp [intOf]; omega
        · obtain rfl : j = 8 := by omega
          obtain rfl : k = ci + 8 := by omega
          have Hbig := Hid.mk (big_step X M c hcM2)
          clear hx hk
          go_wp2_with (at_builtin; refine wpList_append_own_at _ rfl _ _ 34 rfl 0 5 i0 (.int .u8 0) 1 1 Tryd.underlying34 hi hz0 hz1 hz2 rfl (by decide) _ _ _ rfl (Hown.out.alloc _) ⟨wr.heap.size, 0, none⟩ 1 1 [.int .u8 x] rfl rfl ?c1 ?c2 ?c3 ?c4 ?c5 ?_)
          case c2 => rfl
          case c3 => unfold maxLen; omega
          case c4 => omega
          intro v' w1 hown' hgrow _ hat
          have hk' : Kept [] w w1 := (Hkr.out.alloc _).step (Kept.of_grown hgrow) (fun y hy => by rcases Hlies.out.mem y hy with h | h
                                                                                                  · simp [Value.ownBlock] at h
                                                                                                  · exact .inr h)
          have hl' : Lies w (.slice none 0 0) v' := by
            refine Hlies.out.trans (w1 := wr) ?_ Hkr.out.size
            rcases hat with h | h
            · exact .inl h
            · exact .inr ⟨_, h, by omega⟩
          have ho' : w1.ownsRow 0 5 1 v' (c + 1) ((big (c + 1) (X / 256 ^ (M - (c + 1)))).map byt) := by
            rw [Hbig.out, List.map_append, List.map_singleton, byt, ← Hx.out]
            exact hown'
          have Ho' := Hid.mk ho'
          have Hl' := Hid.mk hl'
          have Hk' := Hid.mk hk'
          clear hown' hgrow hat ho' hl' hk'
          go_wp2
          go_roundw
          case rel => exact ⟨c + 1, ci + 8, by omega, by have := Hci.out; omega, by go_num, Ho'.out, Hl'.out, Hk'.out⟩
          case measure => have := HM.out; have := Hci.out; simp [intOf]; omega
    · have hcM2 : c = M := by omega
      subst hcM2
      clear hown hlies hkr hW hci hm
      go_wp2
      go_ret
      refine ⟨_, rfl, ?_, Hkr.out⟩
      have h := Hown.out
      rw [Nat.sub_self, Nat.pow_zero, Nat.div_one] at h
      exact h
end Go.Proofs.YthhcihcgefeblaaDoor
