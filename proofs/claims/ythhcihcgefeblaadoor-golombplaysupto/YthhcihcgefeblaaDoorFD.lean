import Derived.Test.YthhcihcgefeblaaDoorF6
namespace Go.Proofs.YthhcihcgefeblaaDoor
open Go.RowKit

set_option maxHeartbeats 2000000 in
set_option maxRecDepth 1000000 in
theorem refBytes_new (B : Nat) (V : Value) (N len M : Nat) (w : World) (h : RefW w B V (bin len N)) (hM : M = (len + 7) / 8) (hl : len ≤ 100000000000000) :
    Calls Tryd.prog 48 #[.pointer (some ⟨B, 0, none⟩)] w fun e w' => ∃ V', e = .returned V' ∧ w'.ownsRow 0 5 1 V' M ((big M (N * 2 ^ (8 * M - len))).map byt) ∧ Lies w (.slice none 0 0) V' ∧ Kept [] w w' := by
  obtain ⟨i0, hi, hz0, hz1, hz2⟩ := info_parts Tryd.info5
  obtain ⟨X, hX⟩ : ∃ X, X = N * 2 ^ (8 * M - len) := ⟨_, rfl⟩
  have HX := Hid.mk hX
  rw [← hX]
  have Hh := Hid.mk h
  obtain ⟨ao, cap, rfl⟩ : ∃ ao cap, V = .slice ao len cap := by have hf := row_form h.2; rw [bin_length] at hf; exact hf
  have HM := Hid.mk hM
  clear hX h hM
  go_enter Tryd.func48, Tryd.ntmps48
  go_wp2
  go_loopw [3, 4, 5, 6] (fun s3 s4 s5 s6 wr => ∃ (c : Nat) (ci : Int), c ≤ M ∧ ci = 8 * (c : Int) ∧ s4 = .int .i64 ci ∧ wr.ownsRow 0 5 1 s3 c ((big c (X / 256 ^ (M - c))).map byt) ∧ Lies w (.slice none 0 0) s3 ∧ Kept [] w wr) (fun _ s4 _ _ _ => (8 * M + 8) - (intOf s4).toNat)
  case atStart => exact ⟨0, 0, Nat.zero_le _, rfl, rfl, by simpa [big] using World.ownsRow_nil _ _ _ _, Lies.refl _ _, Kept.refl _ _⟩
  case round =>
    obtain ⟨c, ci, hcM, hci, rfl, hown, hlies, hkr⟩ := hrel
    have Hown := Hid.mk hown
    have Hlies := Hid.mk hlies
    have Hkr := Hid.mk hkr
    have Hci := Hid.mk hci
    have hW := refw_kept Hh.out hkr (by simp) (by simp)
    have c0 := (cells_one' hW.1).1
    have HW := Hid.mk hW
    have hm := HM.out
    by_cases hlt : ci < (len : Int)
    · have hcM2 : c < M := by omega
      have ci0 : 0 ≤ ci := by omega
      have hcb : c ≤ 100000000000000 := by omega
      have cib : ci ≤ 100000000000000 := by omega
      clear hown hlies hkr hW hci hm
      go_wp2
      go_loop [5, 6] (fun s5 s6 => ∃ (j : Nat) (x k : Int), j ≤ 8 ∧ k = ci + (j : Int) ∧ s6 = .int .i64 k ∧ s5 = .int .i64 x ∧ x = ((X / 2 ^ (8 * (M - c) - j) % 2 ^ j : Nat) : Int)) (fun _ s6 => (ci + 8 - intOf s6).toNat)
      case atStart => exact ⟨0, 0, ci, by omega, by omega, rfl, rfl, by simp [Nat.mod_one]⟩
      case round =>
        obtain ⟨j, x, k, hj, hk, rfl, rfl, hx⟩ := hrel
        have Hx := Hid.mk hx
        have Hk := Hid.mk hk
        have hxl : X / 2 ^ (8 * (M - c) - j) % 2 ^ j < 2 ^ j := Nat.mod_lt _ (Nat.two_pow_pos _)
        have hp8 : (2 : Nat) ^ j ≤ 2 ^ 8 := Nat.pow_le_pow_right (by decide) hj
        have hx0 : 0 ≤ x := by omega
        have hx1 : x < 256 := by have : (2 : Nat) ^ 8 = 256 := by decide
                                 omega
        clear hxl hp8
        by_cases hj8 : j < 8
        · have klt : k < ci + 8 := by omega
          have hbs := byte_step X (8 * (M - c) - j) j (by omega)
          have hpd := pad_digit N len (8 * M) (8 * c + j) (by have := HM.out; omega) (by omega)
          rw [show 8 * (M - c) - j - 1 = 8 * (M - c) - (j + 1) by omega] at hbs
          rw [show 8 * M - 1 - (8 * c + j) = 8 * (M - c) - (j + 1) by omega, ← HX.out] at hpd
          by_cases hin : k < (len : Int)
          · rw [if_pos (by have := Hci.out; omega)] at hpd
            obtain ⟨g, cap', he, hcell⟩ := refw_cell HW.out (8 * c + j) (by rw [bin_length]; have := Hci.out; omega)
            simp only [Value.slice.injEq] at he
            obtain ⟨rfl, hlz, rfl⟩ := he
            clear hlz
            have hbit : (bin len N).getD (8 * c + j) 0 < 2 := by rw [← hpd]; exact Nat.mod_lt _ (by decide)
            obtain ⟨y, hy⟩ : ∃ y : Int, y = (((bin len N).getD (8 * c + j) 0 : Nat) : Int) := ⟨_, rfl⟩
            have hcell2 : wr.cell? ⟨g, k.toNat, none⟩ = some (.int .u8 y) := by rw [show k.toNat = 8 * c + j by have := Hci.out; omega, hcell, hy]; rfl
            have y0 : 0 ≤ y := by omega
            have y1 : y < 2 := by omega
            have k0 : 0 ≤ k := by omega
            have kb : k ≤ 100000000000010 := by omega
            have hfin : 2 * x + y = ((X / 2 ^ (8 * (M - c) - (j + 1)) % 2 ^ (j + 1) : Nat) : Int) := by rw [hbs, hpd]; omega
            have Hfin := Hid.mk hfin
            clear hx hcell hbs hpd hbit hy hfin hk
            go_wp2
            go_round
            case rel => exact ⟨j + 1, 2 * x + y, k + 1, by omega, by have := Hk.out; omega, by go_num, by go_num, Hfin.out⟩
            case measure => simp [intOf]; omega
          · rw [if_neg (by have := Hci.out; omega)] at hpd
            have k0 : 0 ≤ k := by omega
            have kb : k ≤ 100000000000010 := by omega
            have hfin : 2 * x = ((X / 2 ^ (8 * (M - c) - (j + 1)) % 2 ^ (j + 1) : Nat) : Int) := by rw [hbs, hpd]; omega
            have Hfin := Hid.mk hfin
            clear hx hbs hpd hfin hk
            go_wp2
            go_round
            case rel => exact ⟨j + 1, 2 * x, k + 1, by omega, by have := Hk.out; omega, by go_num, by go_num, Hfin.out⟩
            case measure => simp [intOf]; omega
        · obtain rfl : j = 8 := by omega
          obtain rfl : k = ci + 8 := by omega
          have Hbig := Hid.mk (big_step X M c hcM2)
          clear hx hk
          go_wp2_with (at_builtin; refine wpList_append_own_at _ rfl _ _ 34 rfl 0 5 i0 (.int .u8 0) 1 1 Tryd.underlying34 hi hz0 hz1 hz2 rfl (by decide) _ _ _ rfl (Hown.out.alloc _) ⟨wr.heap.size, 0, none⟩ 1 1 [.int .u8 x] rfl rfl ?c1 ?c2 ?c3 ?c4 ?c5 ?_)
          case c2 => rfl
          case c3 => unfold maxLen; omega
          case c4 => omega
          intro v' w1 hown' hgrow _ hat
          have hk' : Kept [] w w1 := (Hkr.out.alloc _).step (Kept.of_grown hgrow) (fun y hy => by rcases Hlies.out.mem y hy with h | h
                                                                                                  · simp [Value.ownBlock] at h
                                                                                                  · exact .inr h)
          have hl' : Lies w (.slice none 0 0) v' := by
            refine Hlies.out.trans (w1 := wr) ?_ Hkr.out.size
            rcases hat with h | h
            · exact .inl h
            · exact .inr ⟨_, h, by omega⟩
          have ho' : w1.ownsRow 0 5 1 v' (c + 1) ((big (c + 1) (X / 256 ^ (M - (c + 1)))).map byt) := by
            rw [Hbig.out, List.map_append, List.map_singleton, byt, ← Hx.out]
            exact hown'
          have Ho' := Hid.mk ho'
          have Hl' := Hid.mk hl'
          have Hk' := Hid.mk hk'
          clear hown' hgrow hat ho' hl' hk'
          go_wp2
          go_roundw
          case rel => exact ⟨c + 1, ci + 8, by omega, by have := Hci.out; omega, by go_num, Ho'.out, Hl'.out, Hk'.out⟩
          case measure => have := HM.out; have := Hci.out; simp [intOf]; omega
    · have hcM2 : c = M := by omega
      subst hcM2
      clear hown hlies hkr hW hci hm
      go_wp2
      go_ret
      refine ⟨_, rfl, ?_, Hlies.out, Hkr.out⟩
      have h := Hown.out
      rw [Nat.sub_self, Nat.pow_zero, Nat.div_one] at h
      exact h

theorem alike_add {s : Wo} (ha : Alike s) (p : Nat) (hp : p = 0 ∨ p = 2 ∨ p = 4) (B0 B1 : Nat) (S0 S1 V0 V1 : Value) (g g1 : Nat) (l : List Nat) : Alike ((s.add p B0 S0 V0 g l).add (p + 1) B1 S1 V1 g1 l) := by
  obtain ⟨h1, h2, h3, h4, h5, h6, h7, h8⟩ := ha
  rcases hp with rfl | rfl | rfl
  all_goals
    refine ⟨?_, ?_, ?_, fun i => ?_, fun i => ?_, fun i => ?_, fun i => ?_, fun i => ?_⟩
    all_goals simp [Wo.add, upd2, h1, h2, h3, h4, h5, h6, h7, h8]

theorem small_add {s : Wo} {b : Nat} (hs : Small s b) (hc : ∀ k, s.c k < 100000000) (k B0 : Nat) (S0 V0 : Value) (g : Nat) (l : List Nat) (hl : l.length ≤ 10000000) : Small (s.add k B0 S0 V0 g l) b := by
  refine ⟨fun j => ?_, fun i => ?_, fun i => ?_⟩
  · have := hc j; have := hc k; simp only [Wo.add]; split <;> omega
  · simp only [Wo.add, upd2]; split
    · exact Nat.zero_le _
    · exact hs.len i
  · simp only [Wo.add, upd2]; split
    · exact hl
    · exact hs.l i

theorem spost_add {W w : World} {A : Nat} {s : Wo} {b p : Nat} (hp : p = 0 ∨ p = 2 ∨ p = 4) {B0 B1 : Nat} {S0 S1 V0 V1 : Value} {g g1 : Nat} {l : List Nat} (h : At W w A ((s.add p B0 S0 V0 g l).add (p + 1) B1 S1 V1 g1 l)) (ha : Alike s) (hs : Small s b) (hc : ∀ k, s.c k < 99999999) (hl : l.length ≤ 10000000) : SPost W A s (b + 50) (.returned (.bool true)) w := by
  refine ⟨rfl, _, h, alike_add ha p hp B0 B1 S0 S1 V0 V1 g g1 l, small_add (small_add (small_more hs (by omega)) (fun k => by have := hc k; omega) p B0 S0 V0 g l hl) (fun k => ?_) (p + 1) B1 S1 V1 g1 l hl, ?_, ?_, ?_, fun k => ?_⟩
  · have := hc k; have := hc p; simp only [Wo.add]; split <;> omega
  all_goals
    simp only [Wo.add]
    repeat' split
    all_goals (try subst_vars)
    all_goals omega

theorem spost_of {W w' : World} {A : Nat} {s s1 : Wo} {b : Nat} {e : Ending} (h : SPost W A s1 b e w') (hc : s1.c = s.c) : SPost W A s b e w' := by
  obtain ⟨h1, s', h2⟩ := h
  rw [hc] at h2
  exact ⟨h1, s', h2⟩
end Go.Proofs.YthhcihcgefeblaaDoor
