import Derived.Test.YtdnbjbdokppfnaaDoorJ1
import Derived.Test.YtdnbjbdokppfnaaDoorI2
namespace Go.Proofs.YtdnbjbdokppfnaaDoor
open Go.RowKit Go.Lib

/-- When a frame begins, as a float's bits. -/
def scB (r n : Int) : Nat := (floatBits .quo .f64 (floatOfInt .f64 (n * rb r)) (floatOfInt .f64 (ra r))).getD 0
theorem scB_ok (r n : Int) (h : Rt r) (n0 : 0 ≤ n) (n1 : n ≤ 5184000) : floatBits .quo .f64 (floatOfInt .f64 (n * rb r)) (floatOfInt .f64 (ra r)) = some (scB r n) ∧ (FloatKind.f64.format.order (scB r n) (scB r n) == some Ordering.eq) = true := by
  have b0 := h.pb.b0
  have b1 := h.pb.b1
  have a0 := h.pb.a0
  have a1 := h.pb.a1
  have p0 : 0 ≤ n * rb r := Int.mul_nonneg n0 (by omega)
  have p1 : n * rb r ≤ 5184000 * 1001 := Int.mul_le_mul n1 b1 (by omega) (by omega)
  obtain ⟨x, ex⟩ : ∃ x : Nat, n * rb r = x := ⟨(n * rb r).toNat, by omega⟩
  obtain ⟨y, ey⟩ : ∃ y : Nat, ra r = y := ⟨(ra r).toNat, by omega⟩
  obtain ⟨q, h1, h2⟩ := mean_ok x y (by omega) (by omega) (by omega)
  have h3 : floatBits .quo .f64 (floatOfInt .f64 (n * rb r)) (floatOfInt .f64 (ra r)) = some q := by rw [ex, ey]; exact h1
  have e : scB r n = q := by unfold scB; rw [h3]; rfl
  rw [e]
  exact ⟨h3, h2⟩
set_option maxHeartbeats 2000000 in
theorem Seconds_e (r n E : Int) (w : World) (hE : E ≠ 0) (C : ∀ u, Tb u → Calls Tryd.prog 30 #[.int .i64 r, .int .i64 n] u fun e w' => e = .returned (.tuple #[pv 0 0 0 0, .int .i64 E]) ∧ Kept [] u w') (hT : Tb w) : Calls Tryd.prog 16 #[.int .i64 r, .int .i64 n] w fun e w' => e = .returned (.tuple #[.float .f64 0, .int .i64 E]) ∧ Kept [] w w' := by
  have C1 := Hid.mk C
  have HT := Hid.mk hT
  have t : (E != 0) = true := by simpa using hE
  clear C hT
  go_enter Tryd.func16, Tryd.ntmps16
  go_wp2_with (go_at_call 30; refine (C1.out _ HT.out).mono ?_; rintro e w1 ⟨rfl, k1⟩)
  go_ret2
  exact ⟨rfl, k1.alloc _⟩
set_option maxHeartbeats 2000000 in
theorem Seconds_yes (r n : Int) (w : World) (h : Rt r) (hT : Tb w) (n0 : 0 ≤ n) (n1 : n < dy r) : Calls Tryd.prog 16 #[.int .i64 r, .int .i64 n] w fun e w' => e = .returned (.tuple #[.float .f64 (scB r n), .int .i64 0]) ∧ Kept [] w w' := by
  have hd := dy_le h
  have C1 := Hid.mk (fun u t => paceOfFrame_yes r n u h t n0 n1)
  have HT := Hid.mk hT
  have HB := scB_ok r n h n0 (by omega)
  have b0 := h.pb.b0
  have b1 := h.pb.b1
  have p0 : 0 ≤ n * rb r := Int.mul_nonneg n0 (by omega)
  have p1 : n * rb r ≤ 5184000 * 1001 := Int.mul_le_mul (by omega) b1 (by omega) (by omega)
  obtain ⟨B, eB⟩ : ∃ B, scB r n = B := ⟨_, rfl⟩
  rw [eB] at HB ⊢
  obtain ⟨x, ex⟩ : ∃ x, n * rb r = x := ⟨_, rfl⟩
  rw [ex] at HB p0 p1
  have hq : ∀ (u : World) (t : TypeId), Sem.run Tryd.prog (binOp .quo t (.float .f64 (floatOfInt .f64 x)) (.float .f64 (floatOfInt .f64 (ra r)))) u = .ok (.float .f64 B) u := fun u t => run_float_arith u .quo t .f64 _ _ B HB.1
  generalize rc r = c at *
  generalize ra r = a at *
  generalize rb r = b at *
  generalize rl r = l at *
  clear h hT hd n1 HB eB
  go_enter Tryd.func16, Tryd.ntmps16
  go_wp2_with (go_at_call 30; refine (C1.out _ HT.out).mono ?_; rintro e w1 ⟨rfl, k1⟩)
  go_ret2
  exact ⟨rfl, k1.alloc _⟩
set_option maxHeartbeats 2000000 in
theorem rSeconds_e (r n E : Int) (w : World) (hE : E ≠ 0) (hA : ask r n = E) : Calls Tryd.prog 17 #[.int .i64 r, .int .i64 n] w fun e w' => e = .returned (.tuple #[.float .f64 0, .int .i64 E]) ∧ w' = w := by
  have C1 := Hid.mk (fun u => rasked_any r n u)
  rw [hA] at C1
  have t : (E != 0) = true := by simpa using hE
  clear hA
  go_enter Tryd.func17, Tryd.ntmps17
  go_wp2_with (go_at_call 34; refine (C1.out _).mono ?_; rintro e w1 ⟨rfl, rfl⟩)
  go_ret2
  exact ⟨rfl, rfl⟩
set_option maxHeartbeats 2000000 in
theorem rSeconds_yes (r n : Int) (w : World) (h : Rt r) (n0 : 0 ≤ n) (n1 : n < dy r) : Calls Tryd.prog 17 #[.int .i64 r, .int .i64 n] w fun e w' => e = .returned (.tuple #[.float .f64 (scB r n), .int .i64 0]) ∧ w' = w := by
  have hd := dy_le h
  have C1 := Hid.mk (fun u => rasked_any r n u)
  rw [show ask r n = 0 by unfold ask; obtain ⟨h0, h1⟩ := h; rw [if_neg (by omega), if_neg (by omega)]] at C1
  have C2 := Hid.mk (fun u => rspeed_any r u h)
  have HB := scB_ok r n h n0 (by omega)
  have b0 := h.pb.b0
  have b1 := h.pb.b1
  have p0 : 0 ≤ n * rb r := Int.mul_nonneg n0 (by omega)
  have p1 : n * rb r ≤ 5184000 * 1001 := Int.mul_le_mul (by omega) b1 (by omega) (by omega)
  obtain ⟨B, eB⟩ : ∃ B, scB r n = B := ⟨_, rfl⟩
  rw [eB] at HB ⊢
  obtain ⟨x, ex⟩ : ∃ x, n * rb r = x := ⟨_, rfl⟩
  rw [ex] at HB p0 p1
  have hq : ∀ (u : World) (t : TypeId), Sem.run Tryd.prog (binOp .quo t (.float .f64 (floatOfInt .f64 x)) (.float .f64 (floatOfInt .f64 (ra r)))) u = .ok (.float .f64 B) u := fun u t => run_float_arith u .quo t .f64 _ _ B HB.1
  generalize ra r = a at *
  generalize rb r = b at *
  clear h hd n1 HB eB
  go_enter Tryd.func17, Tryd.ntmps17
  go_wp2_with (first | (go_at_call 34; refine (C1.out _).mono ?_; rintro e w1 ⟨rfl, rfl⟩) | (go_at_call 38; refine (C2.out _).mono ?_; rintro e w1 ⟨rfl, rfl⟩))
  go_ret2
  exact ⟨rfl, rfl⟩
end Go.Proofs.YtdnbjbdokppfnaaDoor
