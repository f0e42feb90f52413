import Derived.Test.YtplpjpijmnglfaaA3
namespace Go.Proofs.Ytplpjpijmnglfaa
open Go.RowKit

theorem gv_ok {m g n s : Int} (h0 : 0 ≤ n) (h1 : n ≤ (m - g) / s) : gvE m g n s = 0 := by unfold gvE; rw [if_neg (by omega), if_neg (by omega)]
theorem gv_lim {m g n s : Int} (h0 : 0 ≤ n) (h1 : (m - g) / s < n) : gvE m g n s = 111 := by unfold gvE; rw [if_neg (by omega), if_pos h1]
theorem al_none (k : IntKind) (w : World) (x : Int) : Al k w none 0 x := .inl rfl

set_option maxHeartbeats 8000000 in
set_option maxRecDepth 100000 in
theorem great_law (n less : Int) (w : World) (n0 : -9223372036854775808 ≤ n) (n1 : n ≤ 9223372036854775807) (l0 : -9223372036854775808 ≤ less) (l1 : less ≤ 9223372036854775807) :
    Calls Try.prog 4 #[.int .i64 n, .int .i64 less] w fun e w' => e = .returned (.bool true) ∧ Kept [] w w' := by
  have C1 := Hid.mk (fun w => pick_any n 33554432 w n0 n1 (by omega))
  have C2 := Hid.mk (fun w => pick_any less 3 w l0 l1 (by omega))
  have a0 := pick_lo n 33554432 (by omega)
  have a1 := pick_hi n 33554432 (by omega)
  have b0 := pick_lo less 3 (by omega)
  have b1 := pick_hi less 3 (by omega)
  generalize pick n 33554432 = q at *
  generalize pick less 3 = l at *
  clear n0 n1 l0 l1
  go_enter Try.func4, Try.ntmps4
  go_wp2_with (fail)
  refine (awake_any w).mono ?_
  rintro e w1 ⟨rfl, k1⟩
  go_wp2_with (fail)
  refine (C1.out _).mono ?_
  rintro e w2 ⟨rfl, rfl⟩
  go_wp2_with (fail)
  refine (C2.out _).mono ?_
  rintro e w3 ⟨rfl, rfl⟩
  by_cases hgt : 2 * q - l > 0
  · obtain ⟨q, rfl⟩ : ∃ q' : Nat, q = (q' : Int) := ⟨q.toNat, by omega⟩
    go_wp2_with (fail)
    have e0 : 2 * (q : Int) - 2 ≤ 2 * (q : Int) - l := by omega
    have e1 : 2 * (q : Int) - l ≤ 2 * (q : Int) := by omega
    have e2 : (q : Int) ≤ 2 * (q : Int) - l := by omega
    clear b0 b1 C1 C2
    generalize 2 * (q : Int) - l = m at *
    refine (new_ok m w3 (by omega) (by omega)).mono ?_
    rintro e w4 ⟨P, rfl, A1, hP, k4⟩
    have hPl := A1.lt
    by_cases hf : 2 * (q : Int) ≤ m
    · go_wp2_with (fail)
      refine (samples_any P m 0 0 q w4 A1 (gm0 (by omega) (by omega))).mono ?_
      intro e w5 hp
      obtain ⟨G, c, hc, rfl, A2, Z2, hG, k5⟩ := hp.ok (gv_ok (by omega) (by omega))
      obtain rfl : q = c := by omega
      clear hp hc
      go_wp2_with (fail)
      refine (release_any P m _ _ 0 w5 A2).mono ?_
      rintro e w6 ⟨rfl, A3, k6⟩
      rw [show rlE (0 + (q : Int) * 2) 0 = 0 from if_pos (by omega)]
      rw [show rlG (0 + (q : Int) * 2) 0 = 0 from if_pos (by omega), show mx 0 (0 + (q : Int) * 2) = (q : Int) * 2 from by unfold mx; split <;> omega] at A3
      go_wp2_with (fail)
      refine (bytes_any P m 0 _ q w6 A3 ⟨by omega, by omega, by omega, by omega⟩).mono ?_
      intro e w7 hp
      obtain ⟨G7, c, hc, rfl, A4, Z4, hG7, k7⟩ := hp.ok (gv_ok (by omega) (by omega))
      obtain rfl : q = c := by omega
      clear hp hc
      rw [show 0 + (q : Int) * 1 = (q : Int) by omega, show mx ((q : Int) * 2) q = (q : Int) * 2 from by unfold mx; split <;> omega] at A4
      have HA4 := Hid.mk A4
      have HZ2 := Hid.mk (Z2.keep (k6.trans k7) (by simp; omega))
      have HZ4 := Hid.mk Z4
      have HK7 : Hid (Kept [] w w7) := Hid.mk ((((k1.trans k4).step k5 (fun x hx => by simp at hx; subst hx; exact .inr (by have := k1.size; omega))).step k6 (fun x hx => by simp at hx; subst hx; exact .inr (by have := k1.size; omega))).step k7 (fun x hx => by simp at hx; subst hx; exact .inr (by have := k1.size; omega)))
      have HP : Hid (w.heap.size ≤ P) := Hid.mk (by have := k1.size; omega)
      have CG := Hid.mk (fun w' (h : w' = w7) => given_any P m q _ w' (h ▸ A4))
      have hG5 : G < w5.heap.size := Z2.lt
      have HGP : Hid (G ∉ [P]) := Hid.mk (by simp; omega)
      have HGP7 : Hid (G7 ∉ [P]) := Hid.mk (by have := k5.size; have := k6.size; simp; omega)
      clear A1 A2 A3 A4 Z2 Z4 hG hG7 k1 k4 k5 k6 k7 hP hPl hG5
      go_wp2_with (go_at_call 15; refine (CG.out _ rfl).mono ?_; rintro e w8 ⟨rfl, rfl⟩)
      refine (bytes_any P m q _ _ w8 HA4.out ⟨by omega, by omega, by omega, by omega⟩).mono ?_
      intro e w9 hp
      obtain ⟨rfl, A9, k9⟩ := hp.no (by rw [gv_lim (by omega) (by omega)]; decide)
      rw [gv_lim (by omega) (by omega)]
      have HK9 := Hid.mk (HK7.out.trans k9)
      have HF := Hid.mk (fun w' (h : w' = w9) => fulls_any (some ⟨G, 0, none⟩) q q 0 w' (h ▸ (HZ2.out.keep k9 (by simp)).al) (by omega))
      have HB := Hid.mk (fun w' (h : w' = w9) => full_any (some ⟨G7, 0, none⟩) q q 0 w' (h ▸ (HZ4.out.keep k9 (by simp)).al) (by omega))
      clear hp A9 k9
      go_wp2_with (first | (go_at_call 16; refine (HF.out _ rfl).mono ?_; rintro e w10 ⟨rfl, rfl⟩) | (go_at_call 17; refine (HB.out _ rfl).mono ?_; rintro e w10 ⟨rfl, rfl⟩))
      go_ret
      exact ⟨rfl, HK9.out⟩
    · have hf2 : m < 2 * (q : Int) := by omega
      clear hf e1 e0 hgt
      go_wp2_with (fail)
      refine (samples_any P m 0 0 q w4 A1 (gm0 (by omega) (by omega))).mono ?_
      intro e w5 hp
      obtain ⟨rfl, A2, k5⟩ := hp.no (by rw [gv_lim (by omega) (by omega)]; decide)
      rw [gv_lim (by omega) (by omega)]
      clear hp
      have HA2 := Hid.mk A2
      have hfd : decide (2 * (q : Int) ≤ m) = false := by simp; omega
      have hm3 : m ≤ 67108864 := by omega
      have HF2 := Hid.mk hf2
      clear hf2
      clear A1 A2
      go_wp2_with (fail)
      refine (release_any P m _ _ 0 w5 HA2.out).mono ?_
      rintro e w6 ⟨rfl, A3, k6⟩
      rw [show rlE 0 0 = 0 from rfl]
      rw [show rlG 0 0 = 0 from rfl] at A3
      go_wp2_with (fail)
      refine (bytes_any P m 0 _ q w6 A3 ⟨by omega, by omega, by omega, by omega⟩).mono ?_
      intro e w7 hp
      obtain ⟨G7, c, hc, rfl, A4, Z4, hG7, k7⟩ := hp.ok (gv_ok (by omega) (by omega))
      obtain rfl : q = c := by omega
      clear hp hc
      rw [show 0 + (q : Int) * 1 = (q : Int) by omega, show mx 0 (q : Int) = (q : Int) from by unfold mx; split <;> omega] at A4
      have HA4 := Hid.mk A4
      have HZ4 := Hid.mk Z4
      have HK7 : Hid (Kept [] w w7) := Hid.mk ((((k1.trans k4).trans k5).step k6 (fun x hx => by simp at hx; subst hx; exact .inr (by have := k1.size; omega))).step k7 (fun x hx => by simp at hx; subst hx; exact .inr (by have := k1.size; omega)))
      have CG := Hid.mk (fun w' (h : w' = w7) => given_any P m q _ w' (h ▸ A4))
      clear A3 A4 Z4 hG7 k1 k4 k5 k6 k7 hP hPl
      go_wp2_with (go_at_call 15; refine (CG.out _ rfl).mono ?_; rintro e w8 ⟨rfl, rfl⟩)
      refine (bytes_any P m q _ _ w8 HA4.out ⟨by omega, by omega, by omega, by omega⟩).mono ?_
      intro e w9 hp
      obtain ⟨rfl, A9, k9⟩ := hp.no (by rw [gv_lim (by omega) (by omega)]; decide)
      rw [gv_lim (by omega) (by omega)]
      have HK9 := Hid.mk (HK7.out.trans k9)
      have HF := Hid.mk (fun w' (h : w' = w9) => fulls_any none 0 0 0 w' (al_none _ _ _) (by omega))
      have HB := Hid.mk (fun w' (h : w' = w9) => full_any (some ⟨G7, 0, none⟩) q q 0 w' (h ▸ (HZ4.out.keep k9 (by simp)).al) (by omega))
      clear hp A9 k9
      go_wp2_with (first | (go_at_call 16; refine (HF.out _ rfl).mono ?_; rintro e w10 ⟨rfl, rfl⟩) | (go_at_call 17; refine (HB.out _ rfl).mono ?_; rintro e w10 ⟨rfl, rfl⟩))
      go_ret
      exact ⟨rfl, HK9.out⟩
  · have hq : q = 0 ∨ q = 1 := by omega
    have HQ := Hid.mk hq
    clear hq
    go_wp2_with (fail)
    refine (new_ok 0 w3 (by omega) (by omega)).mono ?_
    rintro e w4 ⟨P, rfl, A1, hP, k4⟩
    have hPl := A1.lt
    clear b0 b1 C1 C2 hgt a0 a1
    rcases HQ.out with rfl | rfl
    · clear HQ
      go_wp2_with (fail)
      refine (samples_any P 0 0 0 0 w4 A1 (gm0 (by omega) (by omega))).mono ?_
      intro e w5 hp
      obtain ⟨G, c, hc, rfl, A2, Z2, hG, k5⟩ := hp.ok (gv_ok (by omega) (by omega))
      obtain rfl : c = 0 := by omega
      clear hp hc
      rw [show (0 : Int) + 0 * 2 = 0 by omega, show mx 0 0 = 0 from rfl] at A2
      go_wp2_with (fail)
      refine (release_any P 0 _ _ 0 w5 A2).mono ?_
      rintro e w6 ⟨rfl, A3, k6⟩
      rw [show rlE 0 0 = 0 from rfl]
      rw [show rlG 0 0 = 0 from rfl] at A3
      go_wp2_with (fail)
      refine (bytes_any P 0 0 _ 0 w6 A3 ⟨by omega, by omega, by omega, by omega⟩).mono ?_
      intro e w7 hp
      obtain ⟨G7, c, hc, rfl, A4, Z4, hG7, k7⟩ := hp.ok (gv_ok (by omega) (by omega))
      obtain rfl : c = 0 := by omega
      clear hp hc
      rw [show (0 : Int) + 0 * 1 = 0 by omega, show mx 0 0 = 0 from rfl] at A4
      have HA4 := Hid.mk A4
      have HK7 : Hid (Kept [] w w7) := Hid.mk ((((k1.trans k4).step k5 (fun x hx => by simp at hx; subst hx; exact .inr (by have := k1.size; omega))).step k6 (fun x hx => by simp at hx; subst hx; exact .inr (by have := k1.size; omega))).step k7 (fun x hx => by simp at hx; subst hx; exact .inr (by have := k1.size; omega)))
      have CG := Hid.mk (fun w' (h : w' = w7) => given_any P 0 0 _ w' (h ▸ A4))
      clear A1 A2 A3 A4 Z2 Z4 hG hG7 k1 k4 k5 k6 k7 hP hPl
      go_wp2_with (go_at_call 15; refine (CG.out _ rfl).mono ?_; rintro e w8 ⟨rfl, rfl⟩)
      refine (bytes_any P 0 0 _ _ w8 HA4.out ⟨by omega, by omega, by omega, by omega⟩).mono ?_
      intro e w9 hp
      obtain ⟨rfl, A9, k9⟩ := hp.no (by decide)
      rw [show gvE 0 0 1 1 = 111 from rfl]
      have HK9 := Hid.mk (HK7.out.trans k9)
      have HF := Hid.mk (fun w' (h : w' = w9) => fulls_any (some ⟨G, 0, none⟩) 0 0 0 w' (.inl rfl) (by omega))
      have HB := Hid.mk (fun w' (h : w' = w9) => full_any (some ⟨G7, 0, none⟩) 0 0 0 w' (.inl rfl) (by omega))
      clear hp A9 k9
      go_wp2_with (first | (go_at_call 16; refine (HF.out _ rfl).mono ?_; rintro e w10 ⟨rfl, rfl⟩) | (go_at_call 17; refine (HB.out _ rfl).mono ?_; rintro e w10 ⟨rfl, rfl⟩))
      go_ret
      exact ⟨rfl, HK9.out⟩
    · clear HQ
      go_wp2_with (fail)
      refine (samples_any P 0 0 0 1 w4 A1 (gm0 (by omega) (by omega))).mono ?_
      intro e w5 hp
      obtain ⟨rfl, A2, k5⟩ := hp.no (by decide)
      rw [show gvE 0 0 1 2 = 111 from rfl]
      clear hp
      go_wp2_with (fail)
      refine (release_any P 0 _ _ 0 w5 A2).mono ?_
      rintro e w6 ⟨rfl, A3, k6⟩
      rw [show rlE 0 0 = 0 from rfl]
      rw [show rlG 0 0 = 0 from rfl] at A3
      go_wp2_with (fail)
      refine (bytes_any P 0 0 _ 1 w6 A3 ⟨by omega, by omega, by omega, by omega⟩).mono ?_
      intro e w7 hp
      obtain ⟨rfl, A4, k7⟩ := hp.no (by decide)
      rw [show gvE 0 0 1 1 = 111 from rfl]
      clear hp
      have HA4 := Hid.mk A4
      have HK7 : Hid (Kept [] w w7) := Hid.mk (((((k1.trans k4).trans k5).step k6 (fun x hx => by simp at hx; subst hx; exact .inr (by have := k1.size; omega)))).trans k7)
      have CG := Hid.mk (fun w' (h : w' = w7) => given_any P 0 0 _ w' (h ▸ A4))
      clear A1 A2 A3 A4 k1 k4 k5 k6 k7 hP hPl
      go_wp2_with (go_at_call 15; refine (CG.out _ rfl).mono ?_; rintro e w8 ⟨rfl, rfl⟩)
      refine (bytes_any P 0 0 _ _ w8 HA4.out ⟨by omega, by omega, by omega, by omega⟩).mono ?_
      intro e w9 hp
      obtain ⟨rfl, A9, k9⟩ := hp.no (by decide)
      rw [show gvE 0 0 1 1 = 111 from rfl]
      have HK9 := Hid.mk (HK7.out.trans k9)
      have HF := Hid.mk (fun w' (h : w' = w9) => fulls_any none 0 0 0 w' (.inl rfl) (by omega))
      have HB := Hid.mk (fun w' (h : w' = w9) => full_any none 0 0 0 w' (.inl rfl) (by omega))
      clear hp A9 k9
      go_wp2_with (first | (go_at_call 16; refine (HF.out _ rfl).mono ?_; rintro e w10 ⟨rfl, rfl⟩) | (go_at_call 17; refine (HB.out _ rfl).mono ?_; rintro e w10 ⟨rfl, rfl⟩))
      go_ret
      exact ⟨rfl, HK9.out⟩
end Go.Proofs.Ytplpjpijmnglfaa
