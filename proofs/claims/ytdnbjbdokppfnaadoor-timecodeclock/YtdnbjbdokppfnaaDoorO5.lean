import Derived.Test.YtdnbjbdokppfnaaDoorO4
import Derived.Test.YtdnbjbdokppfnaaDoorM2
namespace Go.Proofs.YtdnbjbdokppfnaaDoor
open Go.RowKit Go.Lib

set_option maxHeartbeats 4000000 in
set_option maxRecDepth 100000 in
theorem digits_any (s : ByteArray) (k : Nat) (hk4 : k = 0 ∨ k = 3 ∨ k = 6 ∨ k = 9) (x y : Int) (w : World) (hs : s.size = 11) (hx : bt s k = 48 + x) (hy : bt s (k + 1) = 48 + y) (x0 : 0 ≤ x) (x1 : x ≤ 9) (y0 : 0 ≤ y) (y1 : y ≤ 9) :
    Calls Tryd.prog 24 #[.string s, .int .i64 k] w fun e w' => e = .returned (.int .i64 (10 * x + y)) ∧ Kept [] w w' := by
  have s1 := u8_in x x0 x1
  have s2 := u8_in y y0 y1
  have q1 : 48 + x - 48 = x := by omega
  have q2 : 48 + y - 48 = y := by omega
  have g1 := bt_get s k (by omega)
  have g2 := bt_get s (k + 1) (by omega)
  rw [hx] at g1
  rw [hy] at g2
  clear hx hy
  rcases hk4 with rfl | rfl | rfl | rfl
  all_goals
    simp only [Nat.zero_add, Nat.reduceAdd] at g1 g2
    go_enter Tryd.func24, Tryd.ntmps24
    go_wp2_with (fail)
    go_quiet (fail)
    go_wp2
    go_ret
    exact ⟨rfl, (Kept.refl _ _).drewN _⟩
theorem digits_fv (l : Int) (s : ByteArray) (j : Nat) (w : World) (h : Gd l s) (hj : j < 4) : Calls Tryd.prog 24 #[.string s, .int .i64 ((3 * j : Nat) : Int)] w fun e w' => e = .returned (.int .i64 (fv s 11 j)) ∧ Kept [] w w' := by
  have a := ok_dig (h.2 (3 * j) (by omega)) (by omega)
  have b := ok_dig (h.2 (3 * j + 1) (by omega)) (by omega)
  have := digits_any s (3 * j) (by omega) (bt s (3 * j) - 48) (bt s (3 * j + 1) - 48) w h.1 (by omega) (by omega) (by omega) (by omega) (by omega) (by omega)
  have e : fv s 11 j = 10 * (bt s (3 * j) - 48) + (bt s (3 * j + 1) - 48) := by unfold fv; rw [if_neg (by omega), if_neg (by omega)]
  rw [e]
  exact this
/-- What a name tells, digit by digit. -/
theorem digits_name (c M k l : Int) (hc : c = 24 ∨ c = 25 ∨ c = 30 ∨ c = 50 ∨ c = 60) (M0 : 0 ≤ M) (M1 : M < 1440) (k0 : 0 ≤ k) (k1 : k < 60 * c) :
    (∀ u, Calls Tryd.prog 24 #[.string (nms c M k (lm l)), .int .i64 0] u fun e w' => e = .returned (.int .i64 (M / 60)) ∧ Kept [] u w') ∧ (∀ u, Calls Tryd.prog 24 #[.string (nms c M k (lm l)), .int .i64 3] u fun e w' => e = .returned (.int .i64 (M % 60)) ∧ Kept [] u w') ∧
    (∀ u, Calls Tryd.prog 24 #[.string (nms c M k (lm l)), .int .i64 6] u fun e w' => e = .returned (.int .i64 (k / c)) ∧ Kept [] u w') ∧ (∀ u, Calls Tryd.prog 24 #[.string (nms c M k (lm l)), .int .i64 9] u fun e w' => e = .returned (.int .i64 (k % c)) ∧ Kept [] u w') := by
  obtain ⟨_, _, _, _, y1, y2, y3, y4, y5, y6, y7, y8⟩ := clk_at c (60 * c * M + k) M k hc M0 M1 k0 k1 rfl
  have c1 : c ≤ 60 := by omega
  have g := nm4_gd (l := l) y1 (show M / 60 ≤ 99 by omega) y3 (show M % 60 ≤ 99 by omega) y5 (show k / c ≤ 99 by omega) y7 (show k % c ≤ 99 by omega)
  obtain ⟨v0, v1, v2, v3⟩ := nm4_fv (l := l) y1 (show M / 60 ≤ 99 by omega) y3 (show M % 60 ≤ 99 by omega) y5 (show k / c ≤ 99 by omega) y7 (show k % c ≤ 99 by omega)
  rw [nms_nm4]
  refine ⟨fun u => ?_, fun u => ?_, fun u => ?_, fun u => ?_⟩
  · have := digits_fv l _ 0 u g (by decide); rw [v0] at this; exact this
  · have := digits_fv l _ 1 u g (by decide); rw [v1] at this; exact this
  · have := digits_fv l _ 2 u g (by decide); rw [v2] at this; exact this
  · have := digits_fv l _ 3 u g (by decide); rw [v3] at this; exact this
def cnt (k : Nat) : Int := if k = 0 then 24 else if k = 1 then 25 else if k = 2 then 30 else if k = 3 then 30 else if k = 4 then 50 else if k = 5 then 60 else 60
theorem cnt_rc (k : Nat) (hk : k < 7) : cnt k = rc (k + 1) := by
  have h1 : k = 0 ∨ k = 1 ∨ k = 2 ∨ k = 3 ∨ k = 4 ∨ k = 5 ∨ k = 6 := by omega
  rcases h1 with rfl | rfl | rfl | rfl | rfl | rfl | rfl <;> rfl
theorem cnt_cell (u : World) (k : Nat) (hk : k < 7) : (u.alloc (.cells #[.int .i64 24, .int .i64 25, .int .i64 30, .int .i64 30, .int .i64 50, .int .i64 60, .int .i64 60] 3 (0, 0))).cell? ⟨u.heap.size, k, none⟩ = some (.int .i64 (cnt k)) := by
  have h1 : k = 0 ∨ k = 1 ∨ k = 2 ∨ k = 3 ∨ k = 4 ∨ k = 5 ∨ k = 6 := by omega
  rcases h1 with rfl | rfl | rfl | rfl | rfl | rfl | rfl <;> exact alloc_cell _ _ _ _ _ rfl
theorem cmp_lt {a b : Int} (h : a < b) : compare a b = .lt := by
  show (if a < b then Ordering.lt else if a = b then .eq else .gt) = _
  rw [if_pos h]
theorem cmp_gt {a b : Int} (h : b < a) : compare a b = .gt := by
  show (if a < b then Ordering.lt else if a = b then .eq else .gt) = _
  rw [if_neg (by omega), if_neg (by omega)]
/-- What the statement reckons of a frame with floats: the bits, and how they stand. -/
structure Fr (r n : Int) (c sec f : Nat) (W Q A R : Nat) : Prop where
  w : scB r n = W
  q : floatBits .quo .f64 (floatOfInt .f64 (f : Int)) (floatOfInt .f64 (c : Int)) = some Q
  s : floatBits .add .f64 (floatOfInt .f64 (sec : Int)) Q = some A
  d : floatBits .sub .f64 W A = some R
theorem fr_none (r n : Int) (h : Rt r) (hl : rl r = 0) (c N sec f : Nat) (ec : rc r = c) (en : n = N) (hn : N = c * sec + f) (hf : f < c) (hs : sec ≤ 86399) : ∃ W Q A R, Fr r n c sec f W Q A R ∧
    (FloatKind.f64.format.order R 4517329193108106637 == some Ordering.lt) = true ∧ (FloatKind.f64.format.order R 13740701229962882445 == some Ordering.gt) = true := by
  have hc := h.c5
  obtain ⟨W, Q, A, R, vf, F, f1, f2⟩ := far_none c N sec f (by omega) hn hf hs
  have ha : ra r = c ∧ rb r = 1 := by
    rw [← ec]
    revert hl
    rcases h.cs with rfl | rfl | rfl | rfl | rfl | rfl | rfl <;> decide
  refine ⟨W, Q, A, R, ⟨?_, F.q, F.s, F.d⟩, ?_, ?_⟩
  · unfold scB
    rw [ha.1, ha.2, en, show (N : Int) * 1 = ((N * 1 : Nat) : Int) by omega, F.w]
    rfl
  · rw [order_fw F.v c6, cmp_lt]
    · rfl
    · have := pw38b
      have := pw_pos 1002
      generalize pw 1038 = u at *
      generalize pw 1002 = v at *
      omega
  · rw [order_fw F.v c6n, cmp_gt]
    · rfl
    · have := pw38b
      have := pw_pos 1002
      generalize pw 1038 = u at *
      generalize pw 1002 = v at *
      omega
theorem fr_drop (r n : Int) (hr : r = 4 ∨ r = 7) (c N sec f : Nat) (D : Int) (ec : rc r = c) (en : n = N) (hn : 1001 * (N : Int) = 1000 * (c * sec + f : Nat) + D) (hf : f < c) (hs : sec ≤ 86399) (hn2 : N < c * 86400) (d0 : -147 * (c : Int) ≤ D) (d1 : D ≤ 60 * (c : Int)) : ∃ W Q A R, Fr r n c sec f W Q A R ∧
    (FloatKind.f64.format.order R 4594572339843380019 == some Ordering.lt) = true ∧ (FloatKind.f64.format.order R 13817944376698155827 == some Ordering.gt) = true := by
  have hc : c = 30 ∨ c = 60 := by
    rcases hr with rfl | rfl
    · left; have : (30 : Int) = c := ec; omega
    · right; have : (60 : Int) = c := ec; omega
  have ha : ra r = ((1000 * c : Nat) : Int) ∧ rb r = 1001 := by
    rcases hr with rfl | rfl
    · have : (30 : Int) = c := ec
      exact ⟨by show (30000 : Int) = _; omega, rfl⟩
    · have : (60 : Int) = c := ec
      exact ⟨by show (60000 : Int) = _; omega, rfl⟩
  obtain ⟨W, Q, A, R, vf, F, f1, f2⟩ := far_drop c N sec f D hc hn hf hs hn2 d0 d1
  refine ⟨W, Q, A, R, ⟨?_, F.q, F.s, F.d⟩, ?_, ?_⟩
  · unfold scB
    rw [ha.1, ha.2, en, show (N : Int) * 1001 = ((N * 1001 : Nat) : Int) by omega, F.w]
    rfl
  · rw [order_fw F.v c15, cmp_lt f1]; rfl
  · rw [order_fw F.v c15n, cmp_gt f2]; rfl
end Go.Proofs.YtdnbjbdokppfnaaDoor
