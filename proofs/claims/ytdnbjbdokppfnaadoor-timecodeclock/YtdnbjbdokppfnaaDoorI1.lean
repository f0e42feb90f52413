import Derived.Test.YtdnbjbdokppfnaaDoorH1
import Derived.Test.YtdnbjbdokppfnaaDoorG1
namespace Go.Proofs.YtdnbjbdokppfnaaDoor
open Go.RowKit Go.Lib

theorem lsum_out (r M : Int) : lsum r (M + 1) = (M - M / 10) * rl r := by
  unfold lsum; rw [show M + 1 - (M + 1 + 9) / 10 = M - M / 10 by omega]
/-- A number has just one place. -/
theorem one_place {r M k M' k' : Int} (h : Rt r) (k0 : 0 ≤ k) (k1 : k < 60 * rc r) (hl : M % 10 ≠ 0 → rl r ≤ k) (k0' : 0 ≤ k') (k1' : k' < 60 * rc r) (hl' : M' % 10 ≠ 0 → rl r ≤ k')
    (e : 60 * rc r * M + k - (M - M / 10) * rl r = 60 * rc r * M' + k' - (M' - M' / 10) * rl r) : M = M' ∧ k = k' := by
  have a1 := rise_at (rc r) (rl r) M k M' k' h.cl k0 k1 k0' hl'
  have a2 := rise_at (rc r) (rl r) M' k' M k h.cl k0' k1' k0 hl
  by_cases c1 : M < M' ∨ M = M' ∧ k < k'
  · have := a1 c1; omega
  · by_cases c2 : M' < M ∨ M' = M ∧ k' < k
    · have := a2 c2; omega
    · omega

set_option maxHeartbeats 8000000 in
theorem placed_any (r n : Int) (w : World) (h : Rt r) (n0 : 0 ≤ n) (n1 : n < dy r) : Calls Tryd.prog 35 #[.int .i64 r, .int .i64 n] w fun e w' => (∃ M k, 0 ≤ M ∧ M < 1440 ∧ 0 ≤ k ∧ k < 60 * rc r ∧ (M % 10 ≠ 0 → rl r ≤ k) ∧ n + (M - M / 10) * rl r = 60 * rc r * M + k ∧ e = .returned (.tuple #[.int .i64 M, .int .i64 k, .int .i64 ((M - M / 10) * rl r)])) ∧ w' = w := by
  have C2 := Hid.mk (fun u => rcount_any r u h)
  have C3 := Hid.mk (fun m u => rleft_any r m u h)
  have LN := Hid.mk (fun m => lsum_next r m h)
  have LB := Hid.mk (fun m => lsum_bd r m h)
  have FB := Hid.mk (fun m => lft_bd r m h)
  have c0 := h.pb.c0
  have c1 := h.pb.c1
  have hd := dy_le h
  have HD := Hid.mk (dy_sum r h)
  have HN := Hid.mk n1
  have n2 : n ≤ 5184000 := by omega
  generalize dy r = D at *
  generalize rc r = c at *
  clear h hd n1
  go_enter Tryd.func35, Tryd.ntmps35
  go_wp2
  go_loop [1, 7, 8] (fun x o i => ∃ m : Int, 0 ≤ m ∧ m ≤ 1440 ∧ 60 * c * m - lsum r m ≤ n ∧ i = .int .i64 m ∧ o = .int .i64 (lsum r m) ∧ x = .int .i64 (n - (60 * c * m - lsum r m))) (fun _ _ i => (1440 - intOf i).toNat)
  case atStart => exact ⟨0, by omega, by omega, by simp [lsum]; exact n0, rfl, by simp [lsum], by simp [lsum]⟩
  case round =>
    obtain ⟨m, m0, m1, hm, rfl, rfl, rfl⟩ := hrel
    by_cases hm2 : m = 1440
    · subst hm2
      have := HD.out
      have := HN.out
      omega
    have hlt : m < 1440 := by omega
    obtain ⟨lb0, lb1⟩ := LB.out m m0 m1
    obtain ⟨fb0, fb1⟩ := FB.out m
    have C4 := Hid.mk (fun u => C3.out m u m0 (by omega))
    have p0 : 0 ≤ 60 * c * m := Int.mul_nonneg (by omega) m0
    have p1 : 60 * c * m ≤ 3600 * 1440 := Int.mul_le_mul (by omega) m1 m0 (by omega)
    obtain ⟨X, eX⟩ : ∃ X, n - (60 * c * m - lsum r m) = X := ⟨_, rfl⟩
    have X0 : 0 ≤ X := by omega
    have X1 : X ≤ 6000000 := by omega
    have HX : Hid (60 * c * (m + 1) = 60 * c * m + 60 * c) := Hid.mk (by rw [Int.mul_add]; omega)
    have hL := LN.out m
    obtain ⟨S, eS⟩ : ∃ S, lsum r m = S := ⟨_, rfl⟩
    obtain ⟨L, eL⟩ : ∃ L, lft r m = L := ⟨_, rfl⟩
    rw [eX]
    rw [eS] at lb0 lb1 hL eX hm
    rw [eS]
    rw [eL] at fb0 fb1 C4 hL
    have HL := Hid.mk hL
    have HeX := Hid.mk eX
    have HeL := Hid.mk eL
    clear hL eX eL
    by_cases hg : X < 60 * c - L
    · go_wp2_with (first | (go_at_call 28; refine (C2.out _).mono ?_; rintro e w1 ⟨rfl, rfl⟩) | (go_at_call 29; refine (C4.out _).mono ?_; rintro e w1 ⟨rfl, rfl⟩))
      go_ret3
      have ho := lsum_out r m
      rw [HL.out] at ho
      refine ⟨⟨m, X + L, m0, hlt, by omega, by omega, ?_, ?_, ?_⟩, rfl⟩
      · intro h10
        have := HeL.out
        unfold lft at this
        rw [if_neg h10] at this
        omega
      · have := HeX.out
        rw [← ho]; omega
      · rw [← ho]; rfl
    · go_wp2_with (first | (go_at_call 28; refine (C2.out _).mono ?_; rintro e w1 ⟨rfl, rfl⟩) | (go_at_call 29; refine (C4.out _).mono ?_; rintro e w1 ⟨rfl, rfl⟩))
      go_round
      case rel =>
        have e1 := HeX.out
        have e2 := HX.out
        exact ⟨m + 1, by omega, by omega, by rw [HL.out, e2]; omega, by go_num, by rw [HL.out], by rw [HL.out, e2]; congr 1; omega⟩
      case measure => simp [intOf]; omega
end Go.Proofs.YtdnbjbdokppfnaaDoor
