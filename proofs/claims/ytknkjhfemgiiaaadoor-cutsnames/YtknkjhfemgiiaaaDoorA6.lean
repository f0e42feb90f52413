import Derived.Test.YtknkjhfemgiiaaaDoorA5
namespace Go.Proofs.YtknkjhfemgiiaaaDoor
open Go.RowKit

/-- The number of a name that is given. -/
def nmb (c l h m s f : Int) : Int := c * (60 * (60 * h + m) + s) + f - (60 * h + m - (60 * h + m) / 10) * l

set_option maxHeartbeats 4000000 in
theorem number_any (c a b l h m s f : Int) (w : World) (hp : Pb c a b l) (h0 : 0 ≤ h) (h1 : h ≤ 99) (m0 : 0 ≤ m) (m1 : m ≤ 99) (s0 : 0 ≤ s) (s1 : s ≤ 99) (f0 : 0 ≤ f) (f1 : f ≤ 99) :
    Calls Tryd.prog 68 #[pv c a b l, pv h m s f] w fun e w' => e = .returned (.int .i64 (nmb c l h m s f)) ∧ Kept [] w w' := by
  have c0 := hp.c0
  have c1 := hp.c1
  have l0 := hp.l0
  have l1 := hp.l1
  obtain ⟨M, hM⟩ : ∃ M, 60 * h + m = M := ⟨_, rfl⟩
  have M0 : 0 ≤ M := by omega
  have M1 : M ≤ 6039 := by omega
  obtain ⟨X, hX⟩ : ∃ X, 60 * M + s = X := ⟨_, rfl⟩
  have X0 : 0 ≤ X := by omega
  have X1 : X ≤ 400000 := by omega
  obtain ⟨Y, hY⟩ : ∃ Y, c * X = Y := ⟨_, rfl⟩
  have Y0 : 0 ≤ Y := by rw [← hY]; exact Int.mul_nonneg (by omega) X0
  have Y1 : Y ≤ 24000000 := by rw [← hY]; exact Int.le_trans (Int.mul_le_mul c1 X1 X0 (by omega)) (by omega)
  obtain ⟨Z, hZ⟩ : ∃ Z, M - M / 10 = Z := ⟨_, rfl⟩
  have Z0 : 0 ≤ Z := by omega
  have Z1 : Z ≤ 6039 := by omega
  obtain ⟨V, hV⟩ : ∃ V, Z * l = V := ⟨_, rfl⟩
  have V0 : 0 ≤ V := by rw [← hV]; exact Int.mul_nonneg Z0 l0
  have V1 : V ≤ 40000 := by rw [← hV]; exact Int.le_trans (Int.mul_le_mul Z1 l1 l0 (by omega)) (by omega)
  have E : Hid (nmb c l h m s f = Y + f - V) := Hid.mk (by unfold nmb; rw [hM, hX, hY, hZ, hV])
  have C1 := Hid.mk (fun u => dayMinute_any h m s f u h0 h1 m0 m1)
  rw [hM] at C1
  obtain ⟨w1, e1⟩ : ∃ w1, w.alloc (.cells #[.int .i64 c, .int .i64 a, .int .i64 b, .int .i64 l] 116 (0, 0)) = w1 := ⟨_, rfl⟩
  have K1 : Kept [] w w1 := by rw [← e1]; exact alloc_kept _ _
  have F := four_new w c a b l 116
  rw [e1] at F
  obtain ⟨w2, e2⟩ : ∃ w2, w1.alloc (.cells #[.int .i64 h, .int .i64 m, .int .i64 s, .int .i64 f] 122 (0, 0)) = w2 := ⟨_, rfl⟩
  have K2 : Kept [] w1 w2 := by rw [← e2]; exact alloc_kept _ _
  have G := four_new w1 h m s f 122
  rw [e2] at G
  have z1 : w1.heap.size = w.heap.size + 1 := by rw [← e1]; exact Array.size_push _
  rw [z1] at G
  have HF := Hid.mk (F.keep K2 (by simp))
  have HG := Hid.mk G
  have HK := Hid.mk (K1.trans K2)
  have D1 : Hid (∀ (u : World), Kept [] w2 u → ∀ p : KW u, Calls Tryd.prog 77 #[pv h m s f] p.u fun e w' => e = .returned (.int .i64 M) ∧ ∃ p' : KW u, w' = p'.u) := Hid.mk fun u _ p => (C1.out p.u).mono fun r w' ⟨h1, h2⟩ => ⟨h1, ⟨w', p.h.trans h2⟩, rfl⟩
  clear F G K1 K2 hM hp h0 h1 c0 c1
  have r0 : ∀ p : KW w2, p.u.cell? ⟨w.heap.size, 0, none⟩ = some (.int .i64 c) := fun p => cell_keep p.h HF.out.c0 (by simp)
  have q0 : ∀ p : KW w2, p.u.cell? ⟨w.heap.size + 1, 0, none⟩ = some (.int .i64 h) := fun p => cell_keep p.h HG.out.c0 (by simp)
  have q1 : ∀ p : KW w2, p.u.cell? ⟨w.heap.size + 1, 1, none⟩ = some (.int .i64 m) := fun p => cell_keep p.h HG.out.c1 (by simp)
  have q2 : ∀ p : KW w2, p.u.cell? ⟨w.heap.size + 1, 2, none⟩ = some (.int .i64 s) := fun p => cell_keep p.h HG.out.c2 (by simp)
  have q3 : ∀ p : KW w2, p.u.cell? ⟨w.heap.size + 1, 3, none⟩ = some (.int .i64 f) := fun p => cell_keep p.h HG.out.c3 (by simp)
  have NE : Nonempty (KW w2) := ⟨⟨w2, Kept.refl _ _⟩⟩
  go_enter Tryd.func68, Tryd.ntmps68
  go_wp2_with (fail)
  refine wp_region_kept (by kernel_rfl) (by kernel_rfl) ?_
  repeat (go_big_quiet_step ((go_at_call 77; exact D1.out _ (Kept.refl _ _) _)))
  refine wpQuiet_nil ?_
  rintro _ ⟨p, rfl⟩
  obtain ⟨w3, k3⟩ := p
  simp only []
  have HG3 := Hid.mk (HG.out.keep k3 (by simp))
  have HF3 := Hid.mk (HF.out.keep k3 (by simp))
  clear r0 q0 q1 q2 q3 NE
  have q0 : ∀ p : KW w3, p.u.cell? ⟨w.heap.size + 1, 0, none⟩ = some (.int .i64 h) := fun p => cell_keep p.h HG3.out.c0 (by simp)
  have q1 : ∀ p : KW w3, p.u.cell? ⟨w.heap.size + 1, 1, none⟩ = some (.int .i64 m) := fun p => cell_keep p.h HG3.out.c1 (by simp)
  have q2 : ∀ p : KW w3, p.u.cell? ⟨w.heap.size + 1, 2, none⟩ = some (.int .i64 s) := fun p => cell_keep p.h HG3.out.c2 (by simp)
  have q3 : ∀ p : KW w3, p.u.cell? ⟨w.heap.size + 1, 3, none⟩ = some (.int .i64 f) := fun p => cell_keep p.h HG3.out.c3 (by simp)
  have NE : Nonempty (KW w3) := ⟨⟨w3, Kept.refl _ _⟩⟩
  go_wp2_with (fail)
  refine wp_region_kept (by kernel_rfl) (by kernel_rfl) ?_
  repeat (go_big_quiet_step ((go_at_call 77; exact D1.out _ k3 _)))
  refine wpQuiet_nil ?_
  rintro _ ⟨p, rfl⟩
  obtain ⟨w4, k4⟩ := p
  simp only []
  have g3 := (HF3.out.keep k4 (by simp)).c3
  clear q0 q1 q2 q3 NE
  go_wp2
  go_ret
  exact ⟨ret_int (by rw [E.out]), (HK.out.trans k3).trans k4⟩

set_option maxHeartbeats 2000000 in
theorem PerDay_no (r : Int) (w : World) (h : r < 1 ∨ 7 < r) : Calls Tryd.prog 39 #[.int .i64 r] w fun e w' => e = .returned (.tuple #[.int .i64 0, .int .i64 181]) ∧ Kept [] w w' := by
  have C1 := Hid.mk (fun u => paceOf_no r u h)
  clear h
  go_enter Tryd.func39, Tryd.ntmps39
  go_wp2_with (go_at_call 57; refine (C1.out _).mono ?_; rintro e w1 ⟨rfl, k1⟩)
  go_ret2
  exact ⟨rfl, k1.alloc _⟩
set_option maxHeartbeats 2000000 in
theorem PerDay_yes (r : Int) (w : World) (h : Rt r) (hT : Tb w) : Calls Tryd.prog 39 #[.int .i64 r] w fun e w' => e = .returned (.tuple #[.int .i64 (dy r), .int .i64 0]) ∧ Kept [] w w' := by
  have C1 := Hid.mk (fun u t => paceOf_yes r u h t)
  have C2 := Hid.mk (fun u => perDay_any (rc r) (ra r) (rb r) (rl r) u h.pb)
  have HT := Hid.mk hT
  unfold dy
  obtain ⟨D, hD⟩ : ∃ D, 144 * (600 * rc r - 9 * rl r) = D := ⟨_, rfl⟩
  rw [hD] at C2 ⊢
  generalize rc r = c at *
  generalize ra r = a at *
  generalize rb r = b at *
  generalize rl r = l at *
  clear h hT hD
  go_enter Tryd.func39, Tryd.ntmps39
  go_wp2_with (first | (go_at_call 57; refine (C1.out _ HT.out).mono ?_; rintro e w1 ⟨rfl, k1⟩) | (go_at_call 58; refine (C2.out _).mono ?_; rintro e w2 ⟨rfl, k2⟩))
  go_ret2
  exact ⟨rfl, (k1.alloc _).trans k2⟩
theorem dy_le {r : Int} (h : Rt r) : dy r ≤ 5184000 := by
  rcases h.cs with rfl | rfl | rfl | rfl | rfl | rfl | rfl <;> decide
theorem dy_pos {r : Int} (h : Rt r) : 2073600 ≤ dy r := by
  rcases h.cs with rfl | rfl | rfl | rfl | rfl | rfl | rfl <;> decide
end Go.Proofs.YtknkjhfemgiiaaaDoor
