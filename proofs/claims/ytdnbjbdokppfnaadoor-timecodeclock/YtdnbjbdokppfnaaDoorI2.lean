import Derived.Test.YtdnbjbdokppfnaaDoorI1
namespace Go.Proofs.YtdnbjbdokppfnaaDoor
open Go.RowKit Go.Lib

theorem lit_str (u : World) (x y : Int) : Sem.run Tryd.prog (convert 86 9 (.slice (some ⟨u.heap.size, 0, none⟩) 2 2)) (u.alloc (.cells #[.int .u8 x, .int .u8 y] 5 (0, 0))) = .ok (.string (strOfNums [x, y])) (u.alloc (.cells #[.int .u8 x, .int .u8 y] 5 (0, 0))) := by
  refine run_convert_bytes_arg _ 86 5 Tryd.underlying86 Tryd.underlying5 u.heap.size 0 2 2 [x, y] rfl (fun i hi => ?_) 9 Tryd.underlying9
  have h2 : i = 0 ∨ i = 1 := by omega
  rcases h2 with rfl | rfl
  · exact alloc_cell _ _ _ _ _ rfl
  · exact alloc_cell _ _ _ _ _ rfl
set_option maxHeartbeats 1000000 in
theorem two_any (k : Int) (w : World) (k0 : 0 ≤ k) (k1 : k ≤ 99) : Calls Tryd.prog 36 #[.int .i64 k] w fun e w' => e = .returned (.string (strOfNums [48 + k / 10, 48 + k % 10])) ∧ Kept [] w w' := by
  have d0 : k / 10 < 10 := by omega
  have d1 : 0 ≤ k / 10 := by omega
  have d2 : k % 10 < 10 := by omega
  have d3 : 0 ≤ k % 10 := by omega
  have hl := lit_str w (48 + k / 10) (48 + k % 10)
  go_enter Tryd.func36, Tryd.ntmps36
  go_wp2
  go_ret
  exact ⟨rfl, alloc_kept _ _⟩
set_option maxHeartbeats 1000000 in
theorem behind_any (r : Int) (w : World) (h : Rt r) : Calls Tryd.prog 37 #[.int .i64 r] w fun e w' => e = .returned (.string (strOfNums [lm (rl r)])) ∧ w' = w := by
  have C1 := Hid.mk (fun u => rleft_any r 1 u h (by decide) (by decide))
  rw [show lft r 1 = rl r from rfl] at C1
  unfold lm
  generalize rl r = l at *
  clear h
  by_cases hl : 0 < l
  · rw [if_pos hl]
    go_enter Tryd.func37, Tryd.ntmps37
    go_wp2_with (go_at_call 29; refine (C1.out _).mono ?_; rintro e w1 ⟨rfl, rfl⟩)
    go_ret
    exact ⟨rfl, rfl⟩
  · rw [if_neg hl]
    go_enter Tryd.func37, Tryd.ntmps37
    go_wp2_with (go_at_call 29; refine (C1.out _).mono ?_; rintro e w1 ⟨rfl, rfl⟩)
    go_ret
    exact ⟨rfl, rfl⟩
theorem str_app (xs ys : List Int) : strOfNums xs ++ strOfNums ys = strOfNums (xs ++ ys) := by
  apply ByteArray.ext
  simp [strOfNums, ByteArray.data_append]
theorem str_58 : (⟨#[58]⟩ : ByteArray) = strOfNums [58] := rfl

set_option maxHeartbeats 8000000 in
set_option maxRecDepth 1000000 in
theorem rName_yes (r n M k : Int) (w : World) (h : Rt r) (n0 : 0 ≤ n) (n1 : n < dy r) (M0 : 0 ≤ M) (M1 : M < 1440) (k0 : 0 ≤ k) (k1 : k < 60 * rc r) (hl : M % 10 ≠ 0 → rl r ≤ k) (hP : n + (M - M / 10) * rl r = 60 * rc r * M + k) :
    Calls Tryd.prog 13 #[.int .i64 r, .int .i64 n] w fun e w' => e = .returned (.tuple #[.string (nms (rc r) M k (lm (rl r))), .int .i64 0]) ∧ Kept [] w w' := by
  have C1 := Hid.mk (fun u => rasked_any r n u)
  rw [show ask r n = 0 by unfold ask; obtain ⟨h0, h1⟩ := h; rw [if_neg (by omega), if_neg (by omega)]] at C1
  have C2 : Hid (∀ u, Calls Tryd.prog 35 #[.int .i64 r, .int .i64 n] u fun e w' => e = .returned (.tuple #[.int .i64 M, .int .i64 k, .int .i64 ((M - M / 10) * rl r)]) ∧ w' = u) := Hid.mk fun u => (placed_any r n u h n0 n1).mono fun e w' ⟨⟨M', k', _, _, a3, a4, a5, a6, a7⟩, hw⟩ => by
    obtain ⟨rfl, rfl⟩ := one_place h k0 k1 hl a3 a4 a5 (by omega)
    exact ⟨a7, hw⟩
  have C3 := Hid.mk (fun u => rcount_any r u h)
  have C4 := Hid.mk (fun u => behind_any r u h)
  obtain ⟨x1, x2, x3, x4, y1, y2, y3, y4, y5, y6, y7, y8⟩ := clk_at (rc r) (60 * rc r * M + k) M k h.c5 M0 M1 k0 k1 rfl
  have c0 := h.pb.c0
  have c1 := h.pb.c1
  have T1 := Hid.mk (fun u => two_any (M / 60) u y1 (by omega))
  have T2 := Hid.mk (fun u => two_any (M % 60) u y3 (by omega))
  have T3 := Hid.mk (fun u => two_any (k / rc r) u y5 (by omega))
  have T4 := Hid.mk (fun u => two_any (k % rc r) u y7 (by omega))
  have HE : Hid (nms (rc r) M k (lm (rl r)) = strOfNums [48 + M / 60 / 10, 48 + M / 60 % 10] ++ ⟨#[58]⟩ ++ strOfNums [48 + M % 60 / 10, 48 + M % 60 % 10] ++ ⟨#[58]⟩ ++ strOfNums [48 + k / rc r / 10, 48 + k / rc r % 10] ++ strOfNums [lm (rl r)] ++ strOfNums [48 + k % rc r / 10, 48 + k % rc r % 10]) := Hid.mk (by
    rw [str_58, str_app, str_app, str_app, str_app, str_app, str_app]; rfl)
  have z1 := strOfNums_size [48 + M / 60 / 10, 48 + M / 60 % 10]
  have z2 := strOfNums_size [48 + M % 60 / 10, 48 + M % 60 % 10]
  have z3 := strOfNums_size [48 + k / rc r / 10, 48 + k / rc r % 10]
  have z4 := strOfNums_size [48 + k % rc r / 10, 48 + k % rc r % 10]
  have z5 := strOfNums_size [lm (rl r)]
  simp only [List.length_cons, List.length_nil, Nat.zero_add, Nat.reduceAdd] at z1 z2 z3 z4 z5
  generalize nms (rc r) M k (lm (rl r)) = R at *
  generalize strOfNums [48 + M / 60 / 10, 48 + M / 60 % 10] = S1 at *
  generalize strOfNums [48 + M % 60 / 10, 48 + M % 60 % 10] = S2 at *
  generalize strOfNums [48 + k / rc r / 10, 48 + k / rc r % 10] = S3 at *
  generalize strOfNums [48 + k % rc r / 10, 48 + k % rc r % 10] = S4 at *
  generalize strOfNums [lm (rl r)] = S5 at *
  generalize (M - M / 10) * rl r = OUT at *
  generalize rc r = c at *
  have cn : ¬ c = 0 := by omega
  clear h hl hP n1 x1 x2 x3 x4 y1 y2 y3 y4 y5 y6 y7 y8
  have z6 : (⟨#[58]⟩ : ByteArray).size = 1 := rfl
  obtain ⟨A1, eA1⟩ : ∃ x, S1 ++ ⟨#[58]⟩ = x := ⟨_, rfl⟩
  have zA1 : A1.size = 3 := by rw [← eA1, ByteArray.size_append]; omega
  obtain ⟨A2, eA2⟩ : ∃ x, A1 ++ S2 = x := ⟨_, rfl⟩
  have zA2 : A2.size = 5 := by rw [← eA2, ByteArray.size_append]; omega
  obtain ⟨A3, eA3⟩ : ∃ x, A2 ++ ⟨#[58]⟩ = x := ⟨_, rfl⟩
  have zA3 : A3.size = 6 := by rw [← eA3, ByteArray.size_append]; omega
  obtain ⟨A4, eA4⟩ : ∃ x, A3 ++ S3 = x := ⟨_, rfl⟩
  have zA4 : A4.size = 8 := by rw [← eA4, ByteArray.size_append]; omega
  obtain ⟨A5, eA5⟩ : ∃ x, A4 ++ S5 = x := ⟨_, rfl⟩
  have zA5 : A5.size = 9 := by rw [← eA5, ByteArray.size_append]; omega
  obtain ⟨A6, eA6⟩ : ∃ x, A5 ++ S4 = x := ⟨_, rfl⟩
  have zA6 : A6.size = 11 := by rw [← eA6, ByteArray.size_append]; omega
  have HR : Hid (R = A6) := Hid.mk (by rw [HE.out, eA1, eA2, eA3, eA4, eA5, eA6])
  clear HE
  go_enter Tryd.func13, Tryd.ntmps13
  go_wp2_with (first | (go_at_call 34; refine (C1.out _).mono ?_; rintro e w1 ⟨rfl, rfl⟩) | (go_at_call 35; refine (C2.out _).mono ?_; rintro e w1 ⟨rfl, rfl⟩))
  refine (T1.out _).mono ?_
  rintro e w2 ⟨rfl, k2⟩
  go_wp2_with (fail)
  refine (T2.out _).mono ?_
  rintro e w3 ⟨rfl, k3⟩
  have K3 := k2.trans k3
  clear k2 k3
  go_wp2_with (go_at_call 28; refine (C3.out _).mono ?_; rintro e w3 ⟨rfl, rfl⟩)
  refine (T3.out _).mono ?_
  rintro e w4 ⟨rfl, k4⟩
  have K4 := K3.trans k4
  clear K3 k4
  go_wp2_with (first | (go_at_call 28; refine (C3.out _).mono ?_; rintro e w4 ⟨rfl, rfl⟩) | (go_at_call 37; refine (C4.out _).mono ?_; rintro e w4 ⟨rfl, rfl⟩))
  refine (T4.out _).mono ?_
  rintro e w5 ⟨rfl, k5⟩
  go_wp2
  go_ret2
  exact ⟨by rw [HR.out]; rfl, K4.trans k5⟩
set_option maxHeartbeats 2000000 in
theorem rName_e (r n E : Int) (w : World) (hE : E ≠ 0) (hA : ask r n = E) : Calls Tryd.prog 13 #[.int .i64 r, .int .i64 n] w fun e w' => e = .returned (.tuple #[.string ⟨#[]⟩, .int .i64 E]) ∧ w' = w := by
  have C1 := Hid.mk (fun u => rasked_any r n u)
  rw [hA] at C1
  have t : (E != 0) = true := by simpa using hE
  clear hA
  go_enter Tryd.func13, Tryd.ntmps13
  go_wp2_with (go_at_call 34; refine (C1.out _).mono ?_; rintro e w1 ⟨rfl, rfl⟩)
  go_ret2
  exact ⟨rfl, rfl⟩
set_option maxHeartbeats 2000000 in
theorem rDropped_e (r n E : Int) (w : World) (hE : E ≠ 0) (hA : ask r n = E) : Calls Tryd.prog 15 #[.int .i64 r, .int .i64 n] w fun e w' => e = .returned (.tuple #[.int .i64 0, .int .i64 E]) ∧ w' = w := by
  have C1 := Hid.mk (fun u => rasked_any r n u)
  rw [hA] at C1
  have t : (E != 0) = true := by simpa using hE
  clear hA
  go_enter Tryd.func15, Tryd.ntmps15
  go_wp2_with (go_at_call 34; refine (C1.out _).mono ?_; rintro e w1 ⟨rfl, rfl⟩)
  go_ret2
  exact ⟨rfl, rfl⟩
set_option maxHeartbeats 2000000 in
theorem rDropped_yes (r n M k : Int) (w : World) (h : Rt r) (n0 : 0 ≤ n) (n1 : n < dy r) (k0 : 0 ≤ k) (k1 : k < 60 * rc r) (hl : M % 10 ≠ 0 → rl r ≤ k) (hP : n + (M - M / 10) * rl r = 60 * rc r * M + k) : Calls Tryd.prog 15 #[.int .i64 r, .int .i64 n] w fun e w' => e = .returned (.tuple #[.int .i64 ((M - M / 10) * rl r), .int .i64 0]) ∧ w' = w := by
  have C1 := Hid.mk (fun u => rasked_any r n u)
  rw [show ask r n = 0 by unfold ask; obtain ⟨h0, h1⟩ := h; rw [if_neg (by omega), if_neg (by omega)]] at C1
  have C2 : Hid (∀ u, Calls Tryd.prog 35 #[.int .i64 r, .int .i64 n] u fun e w' => e = .returned (.tuple #[.int .i64 M, .int .i64 k, .int .i64 ((M - M / 10) * rl r)]) ∧ w' = u) := Hid.mk fun u => (placed_any r n u h n0 n1).mono fun e w' ⟨⟨M', k', _, _, a3, a4, a5, a6, a7⟩, hw⟩ => by
    obtain ⟨rfl, rfl⟩ := one_place h k0 k1 hl a3 a4 a5 (by omega)
    exact ⟨a7, hw⟩
  generalize (M - M / 10) * rl r = OUT at *
  clear h hP hl k1 n1
  go_enter Tryd.func15, Tryd.ntmps15
  go_wp2_with (first | (go_at_call 34; refine (C1.out _).mono ?_; rintro e w1 ⟨rfl, rfl⟩) | (go_at_call 35; refine (C2.out _).mono ?_; rintro e w1 ⟨rfl, rfl⟩))
  go_ret2
  exact ⟨rfl, rfl⟩
end Go.Proofs.YtdnbjbdokppfnaaDoor
