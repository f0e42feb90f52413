import Derived.Test.YtplpjpijmnglfaaP4
namespace Go.Proofs.Ytplpjpijmnglfaa
open Go.RowKit

set_option maxHeartbeats 8000000 in
set_option maxRecDepth 100000 in
theorem step1 (W w : World) (A : Nat) (on n : Int) (s : Wo) (b : Nat) (h : At W w A s) (hw : Wk s b) (hp : 0 < s.c 0 ∨ (0 ≤ n ∧ n ≤ 1073741824)) (hb : b ≤ 5864062014700) :
    Calls Try.prog 7 #[.pointer (some ⟨A, 0, none⟩), .agg #[.int .i64 1, .int .i64 on, .int .i64 n]] w fun e w' => SPost W A (b + 1) e w' := by
  obtain ⟨i0, ih, iz0, iz1, iz2⟩ := info_parts Try.info37
  obtain ⟨j0, jh, jz0, jz1, jz2⟩ := info_parts Try.info55
  obtain ⟨k0, kh, kz0, kz1, kz2⟩ := info_parts Try.info53
  have HH := Hid.mk h
  have HW := Hid.mk hw
  have HP := Hid.mk hp
  have hc0 : s.r 0 ≤ b := by rw [hw.r]; exact hw.le0
  have hc1 : s.r 1 ≤ b := by rw [hw.r, hw.c1]; exact hw.le0
  have hc2 : s.r 2 ≤ b := by rw [hw.r, hw.c2]; exact hw.le0
  clear h hw hp
  by_cases hn : 0 ≤ n ∧ n ≤ 1073741824
  · obtain ⟨n0, n1⟩ := hn
    go_enter Try.func7, Try.ntmps7
    go_wp2_with (fail)
    obtain ⟨w1, hw1, k1, hb1⟩ := three_new w (.int .i64 1) (.int .i64 on) (.int .i64 n) 35
    rw [hw1]
    clear hw1
    have HB1 := Hid.mk hb1
    have HK1 := Hid.mk k1
    refine (new_ok n w1 n0 n1).mono ?_
    rintro e w2 ⟨P, rfl, A2, hP, k2⟩
    have H2 := Hid.mk ((HH.out.keep k1).push 0 (by omega) (arr 62 P n 0 0) k2 A2 (by simp [arr]; exact hP))
    obtain ⟨⟨-, -, d2⟩, -⟩ := three (k2.heap hb1 (by simp))
    clear k1 hb1 A2 k2
    go_wp2_with (fail)
    refine (newD_ok n w2 n0 n1).mono ?_
    rintro e w3 ⟨Q, rfl, A3, hQ, k3⟩
    have H3 := Hid.mk (H2.out.push 1 (by omega) (arr 60 Q n 0 0) k3 A3 (by simp [arr]; exact hQ))
    obtain ⟨s3, hs3, r0, r1, r2⟩ : ∃ s3, s3 = (s.push 0 (arr 62 P n 0 0)).push 1 (arr 60 Q n 0 0) ∧ s3.r 0 = s.r 0 ∧ s3.r 1 = s.r 1 ∧ s3.r 2 = s.r 2 := ⟨_, rfl, rfl, rfl, rfl⟩
    have HS3 := Hid.mk hs3
    rw [← hs3] at H3
    rw [← r0] at hc0
    rw [← r1] at hc1
    rw [← r2] at hc2
    clear A3 k3 d2 hs3 r0 r1 r2
    -- the first row
    obtain ⟨b0, b1⟩ := H3.out.cells
    have q0 := b0 0 (by omega)
    have f0 := b1 0
    obtain ⟨ao0, cp0, eS⟩ := H3.out.form 0 (by omega)
    rw [eS] at q0
    have hrow := H3.out.row 0 (by omega)
    rw [eS] at hrow
    have HRow0 := Hid.mk hrow
    have HES0 := Hid.mk eS
    have HB0 := H3
    clear b0 b1 eS hrow
    have hP2 : P < w2.heap.size := by have := H2.out.lt (0, s.c 0) (.inl ⟨by simp, by simp [Wo.push]⟩) P (by simp [Wo.R, Wo.push, upd2, arr]); exact this
    clear hP hQ hP2
    go_upto_region 8 with (at_builtin; refine wpList_app1 w3 rfl _ _ 25 0 37 i0 (.pointer none) 8 Try.underlying25 ih iz0 iz1 iz2 rfl rfl (.slice ao0 (s3.r 0) cp0) (s3.r 0) (vals (s3.V 0) (s3.r 0)) (by rfl) HRow0.out (.pointer (some ⟨P, 0, none⟩)) (by rfl) rfl (Nat.zero_le _) (by omega) (by omega) ?_; intro v' w' ho hk hl; obtain ⟨aoN0, cpN0, rfl⟩ := row_form ho; rw [← HES0.out] at hk hl; have hbx := HB0.out.boxKept 0 (by omega) hk; have z0 := box_cell hbx 0 (by omega); have z1 := box_frozen hbx 0; have HO0 := Hid.mk ho; have HK0 := Hid.mk hk; have HL0 := Hid.mk hl; clear ho hk hl hbx)
    obtain ⟨w4, hw4⟩ : ∃ w4, w'.setCell ⟨A, 0, none⟩ (.slice aoN0 (s3.r 0 + 1) cpN0) = w4 := ⟨_, rfl⟩
    have H4 : Hid (At W w4 A (s3.app 0 (.pointer (some ⟨P, 0, none⟩)) (.slice aoN0 (s3.r 0 + 1) cpN0))) := Hid.mk (by rw [← hw4]; exact HB0.out.app 0 (by omega) _ _ HK0.out HL0.out HO0.out)
    rw [hw4]
    obtain ⟨s4, hs4, r1, r2⟩ : ∃ s4, s4 = s3.app 0 (.pointer (some ⟨P, 0, none⟩)) (.slice aoN0 (s3.r 0 + 1) cpN0) ∧ s4.r 1 = s3.r 1 ∧ s4.r 2 = s3.r 2 := ⟨_, rfl, by simp [Wo.app], by simp [Wo.app]⟩
    have HS4 := Hid.mk hs4
    rw [← hs4] at H4
    rw [← r1] at hc1
    rw [← r2] at hc2
    clear hw4 hs4 r1 r2 z0 z1 q0 f0 hc0
    obtain ⟨b0, b1⟩ := H4.out.cells
    have q0 := b0 1 (by omega)
    have f0 := b1 1
    obtain ⟨ao1, cp1, eS⟩ := H4.out.form 1 (by omega)
    rw [eS] at q0
    have hrow := H4.out.row 1 (by omega)
    rw [eS] at hrow
    have HRow1 := Hid.mk hrow
    have HES1 := Hid.mk eS
    have HB1 := H4
    clear b0 b1 eS hrow
    go_upto_region 9 with (at_builtin; refine wpList_app1 w4 rfl _ _ 26 0 55 j0 (.pointer none) 8 Try.underlying26 jh jz0 jz1 jz2 rfl rfl (.slice ao1 (s4.r 1) cp1) (s4.r 1) (vals (s4.V 1) (s4.r 1)) (by rfl) HRow1.out (.pointer (some ⟨Q, 0, none⟩)) (by rfl) rfl (Nat.zero_le _) (by omega) (by omega) ?_; intro v' w'' ho hk hl; obtain ⟨aoN1, cpN1, rfl⟩ := row_form ho; rw [← HES1.out] at hk hl; have hbx := HB1.out.boxKept 1 (by omega) hk; have z0 := box_cell hbx 1 (by omega); have z1 := box_frozen hbx 1; have HO1 := Hid.mk ho; have HK1 := Hid.mk hk; have HL1 := Hid.mk hl; clear ho hk hl hbx)
    obtain ⟨w5, hw5⟩ : ∃ w5, w''.setCell ⟨A, 1, none⟩ (.slice aoN1 (s4.r 1 + 1) cpN1) = w5 := ⟨_, rfl⟩
    have H5 : Hid (At W w5 A (s4.app 1 (.pointer (some ⟨Q, 0, none⟩)) (.slice aoN1 (s4.r 1 + 1) cpN1))) := Hid.mk (by rw [← hw5]; exact HB1.out.app 1 (by omega) _ _ HK1.out HL1.out HO1.out)
    rw [hw5]
    obtain ⟨s5, hs5, r2⟩ : ∃ s5, s5 = s4.app 1 (.pointer (some ⟨Q, 0, none⟩)) (.slice aoN1 (s4.r 1 + 1) cpN1) ∧ s5.r 2 = s4.r 2 := ⟨_, rfl, by simp [Wo.app]⟩
    have HS5 := Hid.mk hs5
    rw [← hs5] at H5
    rw [← r2] at hc2
    clear hw5 hs5 r2 z0 z1 q0 f0 hc1
    have H6 : Hid (At W (w5.alloc (.cells #[.int .i64 0] 3)) A (s5.push 2 (nrw (.slice (some ⟨w5.heap.size, 0, none⟩) 1 1) [0]))) := Hid.mk (H5.out.push 2 (by omega) _ (alloc_kept _ _) (World.ownsRow_lit w5 #[.int .i64 0] 1 (by omega) (by decide) rfl) (by simp [nrw, Value.ownBlock]))
    obtain ⟨w6, hw6⟩ : ∃ w6, w5.alloc (.cells #[.int .i64 0] 3) = w6 := ⟨_, rfl⟩
    rw [hw6] at H6
    obtain ⟨s6, hs6, r2⟩ : ∃ s6, s6 = s5.push 2 (nrw (.slice (some ⟨w5.heap.size, 0, none⟩) 1 1) [0]) ∧ s6.r 2 = s5.r 2 := ⟨_, rfl, rfl⟩
    have HS6 := Hid.mk hs6
    rw [← hs6] at H6
    have e6 : s5.S 2 = s6.S 2 := by rw [hs6]; rfl
    have q2 := H5.out.cells.1 2 (by omega)
    have f2 := H5.out.cells.2 2
    rw [e6] at q2
    rw [← r2] at hc2
    clear hs6 r2 e6
    obtain ⟨ao2, cp2, eS⟩ := H6.out.form 2 (by omega)
    rw [eS] at q2
    have hrow := H6.out.row 2 (by omega)
    rw [eS] at hrow
    have HRow2 := Hid.mk hrow
    have HES2 := Hid.mk eS
    have HB2 := H6
    clear eS hrow
    go_wp2_with (at_builtin; refine wpList_app1 w6 rfl _ _ 27 0 53 k0 (.slice none 0 0) 24 Try.underlying27 kh kz0 kz1 kz2 rfl rfl (.slice ao2 (s6.r 2) cp2) (s6.r 2) (vals (s6.V 2) (s6.r 2)) (by rfl) HRow2.out (.slice (some ⟨w5.heap.size, 0, none⟩) 1 1) (by rfl) rfl (Nat.zero_le _) (by omega) (by omega) ?_; intro v' w7 ho hk hl; obtain ⟨aoN2, cpN2, rfl⟩ := row_form ho; rw [← HES2.out] at hk hl; have hbx := HB2.out.boxKept 2 (by omega) hk; have z0 := box_cell hbx 2 (by omega); have z1 := box_frozen hbx 2; have HO2 := Hid.mk ho; have HK2 := Hid.mk hk; have HL2 := Hid.mk hl; clear ho hk hl hbx)
    go_ret
    refine ⟨rfl, _, HB2.out.app 2 (by omega) _ _ HK2.out HL2.out HO2.out, ?_, ?_⟩
    · rw [HS6.out, HS5.out, HS4.out, HS3.out]
      exact HW.out.new P Q n (gm0 n0 n1) _ _ _ _
    · rw [HS6.out, HS5.out, HS4.out, HS3.out]
      simp [Wo.push, Wo.app]
  · have hn' : n < 0 ∨ 1073741824 < n := by omega
    have hp0 : 0 < s.c 0 := by
      rcases HP.out with h | h
      · exact h
      · exact absurd h hn
    clear hn
    go_enter Try.func7, Try.ntmps7
    go_wp2_with (fail)
    obtain ⟨w1, hw1, k1, hb1⟩ := three_new w (.int .i64 1) (.int .i64 on) (.int .i64 n) 35
    rw [hw1]
    clear hw1
    have HK1 := Hid.mk k1
    obtain ⟨⟨-, -, d2⟩, -⟩ := three hb1
    clear k1 hb1
    refine (new_no n w1 hn').mono ?_
    rintro e w2 ⟨rfl, rfl⟩
    go_wp2_with (fail)
    refine (newD_no n w2 hn').mono ?_
    rintro e w3 ⟨rfl, rfl⟩
    clear hn'
    go_wp2
    go_ret
    exact ⟨rfl, s, HH.out.keep HK1.out, HW.out.mono (Nat.le_succ _), hp0⟩

end Go.Proofs.Ytplpjpijmnglfaa
