import Derived.Test.YtdnbjbdokppfnaaDoorA3
namespace Go.Proofs.YtdnbjbdokppfnaaDoor
open Go.RowKit

/-- How many minutes that leave names out stand ahead of a frame, or hold it. -/
def mno (c l n : Int) : Int := 9 * (n / (600 * c - 9 * l)) + if 0 ≤ n % (600 * c - 9 * l) - 60 * c then 1 + (n % (600 * c - 9 * l) - 60 * c) / (60 * c - l) else 0
/-- How many names are left out ahead of a frame. -/
def loa (c l n : Int) : Int := mno c l n * l

set_option maxHeartbeats 4000000 in
theorem leftOut_any (c a b l n : Int) (w : World) (h : Pb c a b l) (n0 : 0 ≤ n) (n1 : n ≤ 5184000) : Calls Tryd.prog 33 #[pv c a b l, .int .i64 n] w fun e w' => e = .returned (.int .i64 (loa c l n)) ∧ Kept [] w w' := by
  have h0 := h.c0
  have h1 := h.c1
  have h2 := h.l0
  have h3 := h.l1
  obtain ⟨T, hT⟩ : ∃ T, 600 * c - 9 * l = T := ⟨_, rfl⟩
  have C1 := Hid.mk (fun u => perTen_any c a b l u h)
  rw [hT] at C1
  have T0 : 14364 ≤ T := by omega
  have T1 : T ≤ 36000 := by omega
  have Tn : ¬ T = 0 := by omega
  obtain ⟨q, hq⟩ : ∃ q, n / T = q := ⟨_, rfl⟩
  obtain ⟨x, hx⟩ : ∃ x, n % T = x := ⟨_, rfl⟩
  have q0 : 0 ≤ q := by rw [← hq]; exact Int.ediv_nonneg n0 (by omega)
  have q1 : q ≤ 5184000 := by rw [← hq]; exact Int.le_trans (Int.ediv_le_self _ n0) n1
  have x0 : 0 ≤ x := by rw [← hx]; exact Int.emod_nonneg _ Tn
  have x1 : x < T := by rw [← hx]; exact Int.emod_lt_of_pos _ (by omega)
  obtain ⟨m, hm⟩ : ∃ m, 60 * c = m := ⟨_, rfl⟩
  have m0 : 1440 ≤ m := by omega
  have m1 : m ≤ 3600 := by omega
  have C2 := Hid.mk (fun u => perMinute_any c a b l u h)
  rw [hm] at C2
  obtain ⟨s, hs⟩ : ∃ s, m - l = s := ⟨_, rfl⟩
  have s0 : 1436 ≤ s := by omega
  have sn : ¬ s = 0 := by omega
  obtain ⟨y, hy⟩ : ∃ y, x - m = y := ⟨_, rfl⟩
  have y0 : -3600 ≤ y := by omega
  have y1 : y ≤ 36000 := by omega
  obtain ⟨z, hz⟩ : ∃ z, y / s = z := ⟨_, rfl⟩
  have z0 : 0 ≤ y → 0 ≤ z := fun e => by rw [← hz]; exact Int.ediv_nonneg e (by omega)
  have z1 : 0 ≤ y → z ≤ 36000 := fun e => by rw [← hz]; exact Int.le_trans (Int.ediv_le_self _ e) y1
  have E : Hid (loa c l n = (9 * q + if 0 ≤ y then 1 + z else 0) * l) := Hid.mk (by unfold loa mno; rw [hT, hm, hq, hx, hs, hy, hz])
  have ws : wrap64 s = s := by unfold wrap64; omega
  have wy : wrap64 y = y := by unfold wrap64; omega
  obtain ⟨w1, e1⟩ : ∃ w1, w.alloc (.cells #[.int .i64 c, .int .i64 a, .int .i64 b, .int .i64 l] 54 (0, 0)) = w1 := ⟨_, rfl⟩
  have K1 : Hid (Kept [] w w1) := Hid.mk (by rw [← e1]; exact alloc_kept _ _)
  have F := four_new w c a b l 54
  rw [e1] at F
  have HF := Hid.mk F
  clear F h hT hm h0 h1
  obtain ⟨g0, g1, g2, g3⟩ := HF.out
  go_enter Tryd.func33, Tryd.ntmps33
  go_wp2_with (go_at_call 46; refine (C1.out _).mono ?_; rintro e w2 ⟨rfl, k2⟩)
  have HF2 := Hid.mk (HF.out.keep k2 (by simp))
  have HK2 := Hid.mk (K1.out.trans k2)
  clear k2 g0 g1 g2 g3
  have r0 : ∀ p : KW w2, p.u.cell? ⟨w.heap.size, 0, none⟩ = some (.int .i64 c) := fun p => cell_keep p.h HF2.out.c0 (by simp)
  have r1 : ∀ p : KW w2, p.u.cell? ⟨w.heap.size, 1, none⟩ = some (.int .i64 a) := fun p => cell_keep p.h HF2.out.c1 (by simp)
  have r2 : ∀ p : KW w2, p.u.cell? ⟨w.heap.size, 2, none⟩ = some (.int .i64 b) := fun p => cell_keep p.h HF2.out.c2 (by simp)
  have r3 : ∀ p : KW w2, p.u.cell? ⟨w.heap.size, 3, none⟩ = some (.int .i64 l) := fun p => cell_keep p.h HF2.out.c3 (by simp)
  have D1 : Hid (∀ p : KW w2, Calls Tryd.prog 46 #[pv c a b l] p.u fun e w' => e = .returned (.int .i64 T) ∧ ∃ p' : KW w2, w' = p'.u) := Hid.mk fun p => (C1.out p.u).mono fun r w' ⟨h1, h2⟩ => ⟨h1, ⟨w', p.h.trans h2⟩, rfl⟩
  have D2 : Hid (∀ p : KW w2, Calls Tryd.prog 49 #[pv c a b l] p.u fun e w' => e = .returned (.int .i64 m) ∧ ∃ p' : KW w2, w' = p'.u) := Hid.mk fun p => (C2.out p.u).mono fun r w' ⟨h1, h2⟩ => ⟨h1, ⟨w', p.h.trans h2⟩, rfl⟩
  have NE : Nonempty (KW w2) := ⟨⟨w2, Kept.refl _ _⟩⟩
  refine wp_region_kept (by kernel_rfl) (by kernel_rfl) ?_
  repeat (go_big_quiet_step ((first | (go_at_call 46; exact D1.out _) | (go_at_call 49; exact D2.out _))))
  refine wpQuiet_nil ?_
  rintro _ ⟨p, rfl⟩
  obtain ⟨w3, k3⟩ := p
  have HF3 := Hid.mk (HF2.out.keep k3 (by simp))
  have HK3 := Hid.mk (HK2.out.trans k3)
  simp only []
  clear r0 r1 r2 r3 D1 D2 NE k3 HF2 HK2
  obtain ⟨g0, g1, g2, g3⟩ := HF3.out
  by_cases hy0 : 0 ≤ y
  · have z0 := z0 hy0
    have z1 := z1 hy0
    obtain ⟨v, hv⟩ : ∃ v, 9 * q + (1 + z) = v := ⟨_, rfl⟩
    have v0 : 0 ≤ v := by omega
    have v1 : v ≤ 47000000 := by omega
    obtain ⟨u, hu⟩ : ∃ u, v * l = u := ⟨_, rfl⟩
    have u0 : 0 ≤ u := by rw [← hu]; exact Int.mul_nonneg v0 h2
    have u1 : u ≤ 200000000 := by rw [← hu]; exact Int.le_trans (Int.mul_le_mul v1 h3 h2 (by omega)) (by omega)
    have E2 : Hid (loa c l n = u) := Hid.mk (by rw [E.out, if_pos hy0, hv, hu])
    have r0 : ∀ p : KW w3, p.u.cell? ⟨w.heap.size, 0, none⟩ = some (.int .i64 c) := fun p => cell_keep p.h HF3.out.c0 (by simp)
    have r1 : ∀ p : KW w3, p.u.cell? ⟨w.heap.size, 1, none⟩ = some (.int .i64 a) := fun p => cell_keep p.h HF3.out.c1 (by simp)
    have r2 : ∀ p : KW w3, p.u.cell? ⟨w.heap.size, 2, none⟩ = some (.int .i64 b) := fun p => cell_keep p.h HF3.out.c2 (by simp)
    have r3 : ∀ p : KW w3, p.u.cell? ⟨w.heap.size, 3, none⟩ = some (.int .i64 l) := fun p => cell_keep p.h HF3.out.c3 (by simp)
    have D2 : Hid (∀ p : KW w3, Calls Tryd.prog 49 #[pv c a b l] p.u fun e w' => e = .returned (.int .i64 m) ∧ ∃ p' : KW w3, w' = p'.u) := Hid.mk fun p => (C2.out p.u).mono fun r w' ⟨h1, h2⟩ => ⟨h1, ⟨w', p.h.trans h2⟩, rfl⟩
    have NE : Nonempty (KW w3) := ⟨⟨w3, Kept.refl _ _⟩⟩
    clear z0 z1
    go_wp2_with (fail)
    refine wp_region_kept (by kernel_rfl) (by kernel_rfl) ?_
    repeat (go_big_quiet_step ((first | (go_at_call 49; exact D2.out _))))
    refine wpQuiet_nil ?_
    rintro _ ⟨p, rfl⟩
    obtain ⟨w4, k4⟩ := p
    obtain ⟨i0, i1, i2, i3⟩ := HF3.out.keep k4 (by simp)
    simp only []
    clear r0 r1 r2 r3 D2 NE
    go_wp2
    go_ret
    exact ⟨ret_int (by rw [E2.out]), HK3.out.trans k4⟩
  · obtain ⟨u, hu⟩ : ∃ u, 9 * q * l = u := ⟨_, rfl⟩
    have u0 : 0 ≤ u := by rw [← hu]; exact Int.mul_nonneg (by omega) h2
    have u1 : u ≤ 200000000 := by rw [← hu]; exact Int.le_trans (Int.mul_le_mul (show 9 * q ≤ 47000000 by omega) h3 h2 (by omega)) (by omega)
    have E2 : Hid (loa c l n = u) := Hid.mk (by rw [E.out, if_neg hy0, Int.add_zero, hu])
    have hy1 : y < 0 := by omega
    clear z0 z1
    go_wp2
    go_ret
    exact ⟨ret_int (by rw [E2.out]), HK3.out⟩
end Go.Proofs.YtdnbjbdokppfnaaDoor
