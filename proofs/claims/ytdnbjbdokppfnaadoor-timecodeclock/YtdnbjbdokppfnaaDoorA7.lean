import Derived.Test.YtdnbjbdokppfnaaDoorA6
namespace Go.Proofs.YtdnbjbdokppfnaaDoor
open Go.RowKit

/-- The frame of another rate that goes on. -/
def cv (f t n : Int) : Int := n * rb f * ra t / (ra f * rb t)
theorem cv_facts (b a2 a b2 n : Int) (n0 : 0 ≤ n) (n1 : n ≤ 5184000) (b0 : 1 ≤ b) (b1 : b ≤ 1001) (a20 : 24 ≤ a2) (a21 : a2 ≤ 60000) (a0 : 24 ≤ a) (a1 : a ≤ 60000) (b20 : 1 ≤ b2) (b21 : b2 ≤ 1001) :
    (0 ≤ n * b ∧ n * b ≤ 5200000000) ∧ (0 ≤ n * b * a2 ∧ n * b * a2 ≤ 320000000000000) ∧ (24 ≤ a * b2 ∧ a * b2 ≤ 61000000) ∧ 0 ≤ n * b * a2 / (a * b2) ∧ n * b * a2 / (a * b2) ≤ 320000000000000 := by
  have x0 : 0 ≤ n * b := Int.mul_nonneg n0 (by omega)
  have x1 : n * b ≤ 5200000000 := Int.le_trans (Int.mul_le_mul n1 b1 (by omega) (by omega)) (by omega)
  have y0 : 0 ≤ n * b * a2 := Int.mul_nonneg x0 (by omega)
  have y1 : n * b * a2 ≤ 320000000000000 := Int.le_trans (Int.mul_le_mul x1 a21 (by omega) (by omega)) (by omega)
  have z0 : 24 ≤ a * b2 := Int.le_trans (by omega) (Int.mul_le_mul a0 b20 (by omega) (by omega))
  have z1 : a * b2 ≤ 61000000 := Int.le_trans (Int.mul_le_mul a1 b21 (by omega) (by omega)) (by omega)
  exact ⟨⟨x0, x1⟩, ⟨y0, y1⟩, ⟨z0, z1⟩, Int.ediv_nonneg y0 (by omega), Int.le_trans (Int.ediv_le_self _ y0) y1⟩

set_option maxHeartbeats 2000000 in
theorem Convert_to (f t n : Int) (w : World) (h : t < 1 ∨ 7 < t) : Calls Tryd.prog 21 #[.int .i64 f, .int .i64 t, .int .i64 n] w fun e w' => e = .returned (.tuple #[.int .i64 0, .int .i64 181]) ∧ Kept [] w w' := by
  have C1 := Hid.mk (fun u => paceOf_no t u h)
  clear h
  go_enter Tryd.func21, Tryd.ntmps21
  go_wp2_with (go_at_call 25; refine (C1.out _).mono ?_; rintro e w1 ⟨rfl, k1⟩)
  go_ret2
  exact ⟨rfl, k1.alloc _⟩
set_option maxHeartbeats 2000000 in
theorem Convert_e (f t n E : Int) (w : World) (h : Rt t) (hE : E ≠ 0) (C : ∀ u, Tb u → Calls Tryd.prog 30 #[.int .i64 f, .int .i64 n] u fun e w' => e = .returned (.tuple #[pv 0 0 0 0, .int .i64 E]) ∧ Kept [] u w') (hT : Tb w) : Calls Tryd.prog 21 #[.int .i64 f, .int .i64 t, .int .i64 n] w fun e w' => e = .returned (.tuple #[.int .i64 0, .int .i64 E]) ∧ Kept [] w w' := by
  have C1 := Hid.mk (fun u x => paceOf_yes t u h x)
  have C2 := Hid.mk C
  have HT := Hid.mk hT
  have t1 : (E != 0) = true := by simpa using hE
  generalize rc t = c at *
  generalize ra t = a at *
  generalize rb t = b at *
  generalize rl t = l at *
  clear h C hT
  go_enter Tryd.func21, Tryd.ntmps21
  go_wp2_with (first | (go_at_call 25; refine (C1.out _ HT.out).mono ?_; rintro e w1 ⟨rfl, k1⟩; have k1' := k1.alloc (.cells #[.int .i64 c, .int .i64 a, .int .i64 b, .int .i64 l] 54 (0, 0)); have HT1 := Hid.mk (HT.out.keep k1')) | (go_at_call 30; refine (C2.out _ HT1.out).mono ?_; rintro e w2 ⟨rfl, k2⟩))
  go_ret2
  exact ⟨rfl, (k1'.trans k2).alloc _⟩
set_option maxHeartbeats 4000000 in
theorem Convert_yes (f t n : Int) (w : World) (hf : Rt f) (ht : Rt t) (hT : Tb w) (n0 : 0 ≤ n) (n1 : n < dy f) (hl : cv f t n < dy t) : Calls Tryd.prog 21 #[.int .i64 f, .int .i64 t, .int .i64 n] w fun e w' => e = .returned (.tuple #[.int .i64 (cv f t n), .int .i64 0]) ∧ Kept [] w w' := by
  have hd := dy_le hf
  have C1 := Hid.mk (fun u x => paceOf_yes t u ht x)
  have C2 := Hid.mk (fun u x => paceOfFrame_yes f n u hf x n0 n1)
  have C3 := Hid.mk (fun u => perDay_any (rc t) (ra t) (rb t) (rl t) u ht.pb)
  obtain ⟨⟨x0, x1⟩, ⟨y0, y1⟩, ⟨z0, z1⟩, v0, v1⟩ := cv_facts (rb f) (ra t) (ra f) (rb t) n n0 (by omega) hf.pb.b0 hf.pb.b1 ht.pb.a0 ht.pb.a1 hf.pb.a0 hf.pb.a1 ht.pb.b0 ht.pb.b1
  have HT := Hid.mk hT
  have a0 := hf.pb.a0
  have a1 := hf.pb.a1
  unfold cv
  unfold cv dy at hl
  clear hT hf ht hd n1
  generalize rc t = c at *
  generalize ra t = a at *
  generalize rb t = b at *
  generalize rl t = l at *
  generalize rc f = c2 at *
  generalize ra f = a2 at *
  generalize rb f = b2 at *
  generalize rl f = l2 at *
  obtain ⟨D, hD⟩ : ∃ D, 144 * (600 * c - 9 * l) = D := ⟨_, rfl⟩
  rw [hD] at C3 hl
  clear hD
  obtain ⟨x, hx⟩ : ∃ x, n * b2 = x := ⟨_, rfl⟩
  rw [hx] at x0 x1 y0 y1 v0 v1 hl ⊢
  obtain ⟨y, hy⟩ : ∃ y, x * a = y := ⟨_, rfl⟩
  rw [hy] at y0 y1 v0 v1 hl ⊢
  obtain ⟨z, hz⟩ : ∃ z, a2 * b = z := ⟨_, rfl⟩
  rw [hz] at z0 z1 v0 v1 hl ⊢
  obtain ⟨v, hv⟩ : ∃ v, y / z = v := ⟨_, rfl⟩
  rw [hv] at v0 v1 hl ⊢
  have zn : ¬ z = 0 := by omega
  go_enter Tryd.func21, Tryd.ntmps21
  go_wp2_with (go_at_call 25; refine (C1.out _ HT.out).mono ?_; rintro e w1 ⟨rfl, k1⟩)
  obtain ⟨w2, e2⟩ : ∃ w2, w1.alloc (.cells #[.int .i64 c, .int .i64 a, .int .i64 b, .int .i64 l] 54 (0, 0)) = w2 := ⟨_, rfl⟩
  have k2 : Kept [] w1 w2 := by rw [← e2]; exact alloc_kept _ _
  have F := four_new w1 c a b l 54
  rw [e2] at F ⊢
  clear e2
  refine (C2.out w2 ((HT.out.keep k1).keep k2)).mono ?_
  rintro e w3 ⟨rfl, k3⟩
  have F3 := F.keep k3 (by simp)
  obtain ⟨w4, e4⟩ : ∃ w4, w3.alloc (.cells #[.int .i64 c2, .int .i64 a2, .int .i64 b2, .int .i64 l2] 54 (0, 0)) = w4 := ⟨_, rfl⟩
  have k4 : Kept [] w3 w4 := by rw [← e4]; exact alloc_kept _ _
  have G := four_new w3 c2 a2 b2 l2 54
  rw [e4] at G
  obtain ⟨f0, f1, f2, f3⟩ := F3.keep k4 (by simp)
  obtain ⟨g0, g1, g2, g3⟩ := G
  have HK := Hid.mk (((k1.trans k2).trans k3).trans k4)
  clear F F3 k1 k2 k3 k4
  simp only []
  go_wp2_with (go_at_call 26; refine (C3.out _).mono ?_; rintro e w5 ⟨rfl, k5⟩)
  go_ret2
  exact ⟨rfl, HK.out.trans k5⟩

set_option maxHeartbeats 4000000 in
theorem Convert_far (f t n : Int) (w : World) (hf : Rt f) (ht : Rt t) (hT : Tb w) (n0 : 0 ≤ n) (n1 : n < dy f) (hl : ¬ cv f t n < dy t) : Calls Tryd.prog 21 #[.int .i64 f, .int .i64 t, .int .i64 n] w fun e w' => e = .returned (.tuple #[.int .i64 0, .int .i64 184]) ∧ Kept [] w w' := by
  have hd := dy_le hf
  have C1 := Hid.mk (fun u x => paceOf_yes t u ht x)
  have C2 := Hid.mk (fun u x => paceOfFrame_yes f n u hf x n0 n1)
  have C3 := Hid.mk (fun u => perDay_any (rc t) (ra t) (rb t) (rl t) u ht.pb)
  obtain ⟨⟨x0, x1⟩, ⟨y0, y1⟩, ⟨z0, z1⟩, v0, v1⟩ := cv_facts (rb f) (ra t) (ra f) (rb t) n n0 (by omega) hf.pb.b0 hf.pb.b1 ht.pb.a0 ht.pb.a1 hf.pb.a0 hf.pb.a1 ht.pb.b0 ht.pb.b1
  have HT := Hid.mk hT
  have a0 := hf.pb.a0
  have a1 := hf.pb.a1
  unfold cv dy at hl
  clear hT hf ht hd n1
  generalize rc t = c at *
  generalize ra t = a at *
  generalize rb t = b at *
  generalize rl t = l at *
  generalize rc f = c2 at *
  generalize ra f = a2 at *
  generalize rb f = b2 at *
  generalize rl f = l2 at *
  obtain ⟨D, hD⟩ : ∃ D, 144 * (600 * c - 9 * l) = D := ⟨_, rfl⟩
  rw [hD] at C3 hl
  clear hD
  obtain ⟨x, hx⟩ : ∃ x, n * b2 = x := ⟨_, rfl⟩
  rw [hx] at x0 x1 y0 y1 v0 v1 hl
  obtain ⟨y, hy⟩ : ∃ y, x * a = y := ⟨_, rfl⟩
  rw [hy] at y0 y1 v0 v1 hl
  obtain ⟨z, hz⟩ : ∃ z, a2 * b = z := ⟨_, rfl⟩
  rw [hz] at z0 z1 v0 v1 hl
  obtain ⟨v, hv⟩ : ∃ v, y / z = v := ⟨_, rfl⟩
  rw [hv] at v0 v1 hl
  have zn : ¬ z = 0 := by omega
  go_enter Tryd.func21, Tryd.ntmps21
  go_wp2_with (go_at_call 25; refine (C1.out _ HT.out).mono ?_; rintro e w1 ⟨rfl, k1⟩)
  obtain ⟨w2, e2⟩ : ∃ w2, w1.alloc (.cells #[.int .i64 c, .int .i64 a, .int .i64 b, .int .i64 l] 54 (0, 0)) = w2 := ⟨_, rfl⟩
  have k2 : Kept [] w1 w2 := by rw [← e2]; exact alloc_kept _ _
  have F := four_new w1 c a b l 54
  rw [e2] at F ⊢
  clear e2
  refine (C2.out w2 ((HT.out.keep k1).keep k2)).mono ?_
  rintro e w3 ⟨rfl, k3⟩
  have F3 := F.keep k3 (by simp)
  obtain ⟨w4, e4⟩ : ∃ w4, w3.alloc (.cells #[.int .i64 c2, .int .i64 a2, .int .i64 b2, .int .i64 l2] 54 (0, 0)) = w4 := ⟨_, rfl⟩
  have k4 : Kept [] w3 w4 := by rw [← e4]; exact alloc_kept _ _
  have G := four_new w3 c2 a2 b2 l2 54
  rw [e4] at G
  obtain ⟨f0, f1, f2, f3⟩ := F3.keep k4 (by simp)
  obtain ⟨g0, g1, g2, g3⟩ := G
  have HK := Hid.mk (((k1.trans k2).trans k3).trans k4)
  clear F F3 k1 k2 k3 k4
  simp only []
  go_wp2_with (go_at_call 26; refine (C3.out _).mono ?_; rintro e w5 ⟨rfl, k5⟩)
  go_ret2
  exact ⟨rfl, HK.out.trans k5⟩

end Go.Proofs.YtdnbjbdokppfnaaDoor
