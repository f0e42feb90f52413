import Derived.Test.YtplpjpijmnglfaaGr
namespace Go.Proofs.Ytplpjpijmnglfaa
open Go.RowKit

/-- A list of numbers that is read. -/
def Nm (w : World) (ao : Option Addr) (n : Nat) (f : Nat → Int) : Prop := n = 0 ∨ ∃ b off, ao = some ⟨b, off, none⟩ ∧ ∀ i, i < n → w.cell? ⟨b, off + i, none⟩ = some (.int .i64 (f i))
theorem Nm.keep {w w' : World} {ao : Option Addr} {n : Nat} {f : Nat → Int} (h : Nm w ao n f) (hk : Kept [] w w') : Nm w' ao n f := by
  rcases h with h | ⟨b, off, h1, h2⟩
  · exact .inl h
  · exact .inr ⟨b, off, h1, fun i hi => cell_keep hk (h2 i hi) (by simp)⟩
abbrev i64b (a : Int) : Prop := -9223372036854775808 ≤ a ∧ a ≤ 9223372036854775807
theorem mx_self {g t : Int} (h : g ≤ t) : (if g > t then g else t) = t := if_neg (by omega)
theorem gm_give {m g t n : Int} (G : Gm m g t) (h0 : 0 ≤ n) (h1 : g + n ≤ m) : Gm m (g + n) (mx t (g + n)) := by
  obtain ⟨a, b, c, d⟩ := G
  unfold mx
  split <;> exact ⟨by omega, by omega, by omega, by omega⟩

set_option maxHeartbeats 8000000 in
set_option maxRecDepth 100000 in
theorem meter_law (most : Int) (a1 : Option Addr) (n1 c1 : Nat) (f1 : Nat → Int) (a2 : Option Addr) (n2 c2 : Nat) (f2 : Nat → Int) (w : World) (m0 : -9223372036854775808 ≤ most) (m1 : most ≤ 9223372036854775807)
    (R1 : Nm w a1 n1 f1) (B1 : ∀ i, i < n1 → i64b (f1 i)) (L1 : n1 ≤ 1152921504606846976) (R2 : Nm w a2 n2 f2) (B2 : ∀ i, i < n2 → i64b (f2 i)) (L2 : n2 ≤ 1152921504606846976) :
    Calls Try.prog 5 #[.int .i64 most, .slice a1 n1 c1, .slice a2 n2 c2] w fun e w' => e = .returned (.bool true) ∧ Kept [] w w' := by
  have C1 := Hid.mk (fun w => pick_any most 1048576 w m0 m1 (by omega))
  have x0 := pick_lo most 1048576 (by omega)
  have x1 := pick_hi most 1048576 (by omega)
  generalize pick most 1048576 = m at *
  have HR1 := Hid.mk R1
  have HR2 := Hid.mk R2
  have HB1 := Hid.mk B1
  have HB2 := Hid.mk B2
  clear m0 m1 R1 R2 B1 B2
  go_enter Try.func5, Try.ntmps5
  go_wp2_with (fail)
  refine (awake_any w).mono ?_
  rintro e w1 ⟨rfl, k1⟩
  go_wp2_with (fail)
  refine (C1.out _).mono ?_
  rintro e w2 ⟨rfl, rfl⟩
  go_wp2_with (fail)
  refine (new_ok m w2 (by omega) (by omega)).mono ?_
  rintro e w3 ⟨P, rfl, A1, hP, k3⟩
  have HA := Hid.mk A1
  have HP : Hid (w.heap.size ≤ P) := Hid.mk (by have := k1.size; omega)
  have HK : Hid (Kept [] w w3) := Hid.mk (k1.trans k3)
  clear A1 hP k1 k3 C1
  go_wp2
  go_loopw [10, 11, 12] (fun s t i wr => ∃ (k : Nat) (g p : Int), k ≤ n1 ∧ i = .int .i64 (k : Int) ∧ s = .int .i64 g ∧ t = .int .i64 p ∧ Gm m g p ∧ Ar 62 wr P m g p ∧ Kept [] w wr) (fun _ _ i _ => n1 - (intOf i).toNat)
  case atStart => exact ⟨0, 0, 0, by omega, rfl, rfl, rfl, gm0 (by omega) (by omega), HA.out, HK.out⟩
  case round =>
    obtain ⟨k, g, p, hk, rfl, rfl, rfl, G, A, K⟩ := hrel
    have HGm := Hid.mk G
    have HA2 := Hid.mk A
    have HK2 := Hid.mk K
    obtain ⟨g0, g1, g2, g3⟩ := G
    clear A K
    by_cases hlt : k < n1
    · rcases HR1.out.keep HK2.out with h0 | ⟨b, off, rfl, hc⟩
      · omega
      have c0 := hc k hlt
      have ⟨q0, q1⟩ := HB1.out k hlt
      clear hc
      generalize f1 k = q at *
      have ix : (k : Int) < (n1 : Int) := by omega
      go_wp2_with (fail)
      refine (pick_any q 1048576 wr q0 q1 (by omega)).mono ?_
      rintro e w4 ⟨rfl, rfl⟩
      have y0 := pick_lo q 1048576 (by omega)
      have y1 := pick_hi q 1048576 (by omega)
      generalize pick q 1048576 = n at *
      clear c0
      go_wp2_with (fail)
      refine (bytes_any P m g p n w4 HA2.out HGm.out).mono ?_
      by_cases hfit : g + n ≤ m
      · intro e w5 hp
        obtain ⟨Gb, c, hc, rfl, A5, -, -, k5⟩ := hp.ok (gv_ok (by omega) (by omega))
        rw [Int.mul_one] at A5
        subst hc
        have HA5 := Hid.mk A5
        have HK5 : Hid (Kept [] w w5) := Hid.mk (HK2.out.step k5 (fun x hx => by simp at hx; subst hx; exact .inr HP.out))
        have HG5 := Hid.mk (gm_give HGm.out (by omega) hfit)
        have hmx : (if g + (c : Int) > p then g + (c : Int) else p) = mx p (g + (c : Int)) := rfl
        clear hp A5 k5
        go_wp2
        go_roundw
        case rel => exact ⟨k + 1, g + c, mx p (g + c), by omega, by go_num, rfl, rfl, HG5.out, HA5.out, HK5.out⟩
        case measure => simp [intOf]; omega
      · intro e w5 hp
        obtain ⟨rfl, A5, k5⟩ := hp.no (by rw [gv_lim (by omega) (by omega)]; decide)
        rw [gv_lim (by omega) (by omega)]
        have HA5 := Hid.mk A5
        have HK5 : Hid (Kept [] w w5) := Hid.mk (HK2.out.trans k5)
        have hmx : (if g > p then g else p) = p := mx_self g1
        have hfd : decide (g + n ≤ m) = false := by simp; omega
        clear hp A5 k5 hfit
        go_wp2
        go_roundw
        case rel => exact ⟨k + 1, g, p, by omega, by go_num, rfl, rfl, HGm.out, HA5.out, HK5.out⟩
        case measure => simp [intOf]; omega
    · go_wp2_with (fail)
      refine (mark_any P m g p wr HA2.out).mono ?_
      rintro e w4 ⟨rfl, rfl⟩
      clear hk hlt HA HK
      have HA := HA2
      have HK := HK2
      have HG := HGm
      clear HA2 HK2 HGm
      obtain ⟨mk, hmk⟩ : ∃ mk, mk = g := ⟨_, rfl⟩
      have HMK : Hid (mk = g) := Hid.mk hmk
      have k0 : 0 ≤ mk := by omega
      have k1 : mk ≤ m := by omega
      rw [← hmk]
      clear hmk
      go_wp2
      go_loopw [10, 11, 17] (fun s t i wr => ∃ (k : Nat) (g p : Int), k ≤ n2 ∧ i = .int .i64 (k : Int) ∧ s = .int .i64 g ∧ t = .int .i64 p ∧ mk ≤ g ∧ Gm m g p ∧ Ar 62 wr P m g p ∧ Kept [] w wr) (fun _ _ i _ => n2 - (intOf i).toNat)
      case atStart => exact ⟨0, g, p, by omega, rfl, by rw [HMK.out], rfl, by have := HMK.out; omega, HG.out, HA.out, HK.out⟩
      case round =>
        clear HA HK HG HMK g0 g1 g2 g3
        obtain ⟨k, g, p, hk, rfl, rfl, rfl, hmg, G, A, K⟩ := hrel
        have HGm := Hid.mk G
        have HA2 := Hid.mk A
        have HK2 := Hid.mk K
        obtain ⟨g0, g1, g2, g3⟩ := G
        clear A K
        by_cases hlt : k < n2
        · rcases HR2.out.keep HK2.out with h0 | ⟨b, off, rfl, hc⟩
          · omega
          have c0 := hc k hlt
          have ⟨q0, q1⟩ := HB2.out k hlt
          clear hc
          generalize f2 k = q at *
          have ix : (k : Int) < (n2 : Int) := by omega
          go_wp2_with (fail)
          refine (pick_any q 1048576 wr q0 q1 (by omega)).mono ?_
          rintro e w5 ⟨rfl, rfl⟩
          have y0 := pick_lo q 1048576 (by omega)
          have y1 := pick_hi q 1048576 (by omega)
          generalize pick q 1048576 = n at *
          clear c0
          go_wp2_with (fail)
          refine (samples_any P m g p n w5 HA2.out HGm.out).mono ?_
          by_cases hfit : g + 2 * n ≤ m
          · intro e w6 hp
            obtain ⟨Gb, c, hc, rfl, A5, -, -, k5⟩ := hp.ok (gv_ok (by omega) (by omega))
            rw [show n * 2 = 2 * n by omega] at A5
            subst hc
            have HA5 := Hid.mk A5
            have HK5 : Hid (Kept [] w w6) := Hid.mk (HK2.out.step k5 (fun x hx => by simp at hx; subst hx; exact .inr HP.out))
            have HG5 := Hid.mk (gm_give HGm.out (n := 2 * (c : Int)) (by omega) hfit)
            have hmx : (if g + 2 * (c : Int) > p then g + 2 * (c : Int) else p) = mx p (g + 2 * (c : Int)) := rfl
            have p2 : mx p (g + 2 * (c : Int)) ≤ m := HG5.out.c
            have HPP : Hid (g + 2 * (c : Int) ≤ mx p (g + 2 * (c : Int))) := Hid.mk HG5.out.b
            clear hp A5 k5
            by_cases h3 : (k : Int) % 3 = 2
            · have b3 : ((k : Int) % 3 == 2) = true := by simpa using h3
              clear h3
              go_wp2_with (fail)
              refine (release_any P m _ _ mk w6 HA5.out).mono ?_
              rintro e w7 ⟨rfl, A7, k7⟩
              rw [show rlE (g + 2 * (c : Int)) mk = 0 from if_pos (by omega)]
              rw [show rlG (g + 2 * (c : Int)) mk = mk from if_pos (by omega)] at A7
              have HA7 := Hid.mk A7
              have HK7 : Hid (Kept [] w w7) := Hid.mk (HK5.out.step k7 (fun x hx => by simp at hx; subst hx; exact .inr HP.out))
              have HG7 : Hid (Gm m mk (mx p (g + 2 * (c : Int)))) := Hid.mk ⟨k0, by have := HPP.out; omega, p2, g3⟩
              have CG := Hid.mk (fun w' (h : w' = w7) => given_any P m mk _ w' (h ▸ A7))
              have CP := Hid.mk (fun w' (h : w' = w7) => peak_any P m mk _ w' (h ▸ A7))
              clear A7 k7 hmx HPP HA5 HK5 HG5
              generalize mx p (g + 2 * (c : Int)) = p' at *
              clear hfit y0 y1 g2
              generalize g + 2 * (c : Int) = s' at *
              go_wp2_with (first | (go_at_call 15; refine (CG.out _ rfl).mono ?_; rintro e w8 ⟨rfl, rfl⟩) | (go_at_call 19; refine (CP.out _ rfl).mono ?_; rintro e w8 ⟨rfl, rfl⟩))
              go_roundw
              case rel => exact ⟨k + 1, mk, p', by omega, by go_num, rfl, rfl, by omega, HG7.out, HA7.out, HK7.out⟩
              case measure => simp [intOf]; omega
            · have b3 : ((k : Int) % 3 == 2) = false := by simpa using h3
              clear h3
              have CG := Hid.mk (fun w' (h : w' = w6) => given_any P m _ _ w' (h ▸ HA5.out))
              have CP := Hid.mk (fun w' (h : w' = w6) => peak_any P m _ _ w' (h ▸ HA5.out))
              go_wp2_with (fail)
              clear hfit y0 y1 g2
              go_wp2_with (first | (go_at_call 15; refine (CG.out _ rfl).mono ?_; rintro e w8 ⟨rfl, rfl⟩) | (go_at_call 19; refine (CP.out _ rfl).mono ?_; rintro e w8 ⟨rfl, rfl⟩))
              go_roundw
              case rel => exact ⟨k + 1, g + 2 * c, mx p (g + 2 * c), by omega, by go_num, rfl, rfl, by omega, HG5.out, HA5.out, HK5.out⟩
              case measure => simp [intOf]; omega
          · intro e w6 hp
            obtain ⟨rfl, A5, k5⟩ := hp.no (by rw [gv_lim (by omega) (by omega)]; decide)
            rw [gv_lim (by omega) (by omega)]
            have HA5 := Hid.mk A5
            have HK5 : Hid (Kept [] w w6) := Hid.mk (HK2.out.trans k5)
            have hmx : (if g > p then g else p) = p := mx_self g1
            have hfd : decide (g + 2 * n ≤ m) = false := by simp; omega
            clear hp A5 k5 hfit
            by_cases h3 : (k : Int) % 3 = 2
            · have b3 : ((k : Int) % 3 == 2) = true := by simpa using h3
              clear h3
              go_wp2_with (fail)
              refine (release_any P m _ _ mk w6 HA5.out).mono ?_
              rintro e w7 ⟨rfl, A7, k7⟩
              rw [show rlE g mk = 0 from if_pos (by omega)]
              rw [show rlG g mk = mk from if_pos (by omega)] at A7
              have HA7 := Hid.mk A7
              have HK7 : Hid (Kept [] w w7) := Hid.mk (HK5.out.step k7 (fun x hx => by simp at hx; subst hx; exact .inr HP.out))
              have HG7 : Hid (Gm m mk p) := Hid.mk ⟨k0, by omega, g2, g3⟩
              have CG := Hid.mk (fun w' (h : w' = w7) => given_any P m mk _ w' (h ▸ A7))
              have CP := Hid.mk (fun w' (h : w' = w7) => peak_any P m mk _ w' (h ▸ A7))
              clear A7 k7 hmx
              go_wp2_with (first | (go_at_call 15; refine (CG.out _ rfl).mono ?_; rintro e w8 ⟨rfl, rfl⟩) | (go_at_call 19; refine (CP.out _ rfl).mono ?_; rintro e w8 ⟨rfl, rfl⟩))
              go_roundw
              case rel => exact ⟨k + 1, mk, p, by omega, by go_num, rfl, rfl, by omega, HG7.out, HA7.out, HK7.out⟩
              case measure => simp [intOf]; omega
            · have b3 : ((k : Int) % 3 == 2) = false := by simpa using h3
              clear h3
              have CG := Hid.mk (fun w' (h : w' = w6) => given_any P m _ _ w' (h ▸ HA5.out))
              have CP := Hid.mk (fun w' (h : w' = w6) => peak_any P m _ _ w' (h ▸ HA5.out))
              go_wp2_with (first | (go_at_call 15; refine (CG.out _ rfl).mono ?_; rintro e w8 ⟨rfl, rfl⟩) | (go_at_call 19; refine (CP.out _ rfl).mono ?_; rintro e w8 ⟨rfl, rfl⟩))
              go_roundw
              case rel => exact ⟨k + 1, g, p, by omega, by go_num, rfl, rfl, by omega, HGm.out, HA5.out, HK5.out⟩
              case measure => simp [intOf]; omega
        · go_wp2_with (fail)
          refine (release_any P m g p mk wr HA2.out).mono ?_
          rintro e w5 ⟨rfl, A5, k5⟩
          rw [show rlE g mk = 0 from if_pos (by omega)]
          rw [show rlG g mk = mk from if_pos (by omega)] at A5
          go_wp2_with (fail)
          refine (bytes_any P m mk p _ w5 A5 ⟨k0, by omega, g2, g3⟩).mono ?_
          intro e w6 hp
          obtain ⟨Gb, c, hc, rfl, A6, -, -, k6⟩ := hp.ok (gv_ok (by omega) (by omega))
          rw [show mk + (m - mk) * 1 = m by omega, show mx p m = m by unfold mx; split <;> omega] at A6
          have HC := Hid.mk hc
          clear hp hc
          go_wp2_with (fail)
          refine (bytes_any P m m m 1 w6 A6 ⟨x0, by omega, by omega, g3⟩).mono ?_
          intro e w7 hp
          obtain ⟨rfl, A7, k7⟩ := hp.no (by rw [gv_lim (by omega) (by omega)]; decide)
          rw [gv_lim (by omega) (by omega)]
          have HK7 : Hid (Kept [] w w7) := Hid.mk (((HK2.out.step k5 (fun x hx => by simp at hx; subst hx; exact .inr HP.out)).step k6 (fun x hx => by simp at hx; subst hx; exact .inr HP.out)).trans k7)
          have CG := Hid.mk (fun w' (h : w' = w7) => given_any P m _ _ w' (h ▸ A7))
          have CP := Hid.mk (fun w' (h : w' = w7) => peak_any P m _ _ w' (h ▸ A7))
          clear hp A5 A6 A7 k5 k6 k7
          go_wp2_with (first | (go_at_call 15; refine (CG.out _ rfl).mono ?_; rintro e w8 ⟨rfl, rfl⟩) | (go_at_call 19; refine (CP.out _ rfl).mono ?_; rintro e w8 ⟨rfl, rfl⟩))
          go_ret
          exact ⟨ret_bool (by simp), HK7.out⟩
end Go.Proofs.Ytplpjpijmnglfaa
