import Derived.Test.YtkjhegedkamjaaaT1
namespace Go.Proofs.Ytkjhegedkamjaaa
open Go.RowKit

set_option maxHeartbeats 4000000 in
set_option maxRecDepth 1000000 in
theorem rect_any' (P : Nat) (W H D sw sh c r k : Int) (A : Bool) (w : World) (hg : Gr w P W H D A sw sh c r) (g : Gd W H sw sh c r) (k0 : 0 ≤ k) (k1 : k < c * r) :
    Calls Try.prog 31 #[.pointer (some ⟨P, 0, none⟩), .int .i64 k] w fun e w' => e = .returned (rcv (sX c sw k) (sY c sh k) (min sw (W - sX c sw k)) (min sh (H - sY c sh k))) ∧ Kept [] w w' := by
  have hx := sX_in g k
  have hy := sY_in g k0 k1
  obtain ⟨w1, ew1, hk1, hb1⟩ := one_new w #[.int .i64 0, .int .i64 0, .int .i64 0, .int .i64 0] 34
  have EW := Hid.mk ew1
  clear ew1
  have HG := Hid.mk (hg.keep hk1 (by simp))
  have hlt := lt_of_block hg
  obtain ⟨g0, g1, g2, g3, g4, g5, g6, g7⟩ := eight HG.out
  have hc0 := g.c0
  have hc1 := g.c1
  have hs0 := g.s0
  have hs1 := g.s1
  have ht0 := g.t0
  have ht1 := g.t1
  have hw1 := g.w1
  have hh1 := g.h1
  have hr1 := g.r1
  have hc : c ≠ 0 := by omega
  have hcr : c * r ≤ 65536 := Int.mul_le_mul (a := c) (b := r) (c := 256) (d := 256) hc1 hr1 (by have := g.r0; omega) (by omega)
  have q1 : wrap64 (k % c * sw) = sX c sw k :=
    w64_in (by have := hx.1; unfold sX at this; omega) (by have := hx.2.1; unfold sX at this; omega)
  have q2 : wrap64 (k / c * sh) = sY c sh k :=
    w64_in (by have := hy.1; unfold sY at this; omega) (by have := hy.2; unfold sY at this; omega)
  have q3 : wrap64 (k.tdiv c) = k / c := by
    rw [Int.tdiv_eq_ediv_of_nonneg k0]
    exact w64_in (by have := Int.ediv_nonneg k0 (show 0 ≤ c by omega); omega) (by have := Int.ediv_le_self c k0; omega)
  clear hg
  go_enter Try.func31, Try.ntmps31
  go_wp2
  rw [← EW.out]
  obtain ⟨b, eb⟩ : ∃ b, b = w.heap.size := ⟨_, rfl⟩
  rw [← eb] at hb1 hlt ⊢
  have HEB := Hid.mk eb
  clear eb EW
  go_quiet (fail)
  go_wp2
  rw [q1, q2]
  have hk2 := Hid.mk ((Kept.refl [] w1).drewN nq)
  obtain ⟨w2, ew2⟩ : ∃ w2, w2 = w1.drewN nq := ⟨_, rfl⟩
  rw [← ew2] at hk2 ⊢
  clear ew2
  have HB := Hid.mk (hk2.out.heap hb1 (by simp))
  obtain ⟨⟨z0, z1, z2, z3⟩, f0, f1, f2, f3⟩ := four HB.out
  replace HG := Hid.mk (HG.out.keep hk2.out (by simp))
  clear g0 g1 g2 g3 g4 g5 g6 g7 hb1 q1 q2
  obtain ⟨g0, g1, g2, g3, g4, g5, g6, g7⟩ := eight HG.out
  obtain ⟨X, eX⟩ : ∃ X, X = sX c sw k := ⟨_, rfl⟩
  obtain ⟨Y, eY⟩ : ∃ Y, Y = sY c sh k := ⟨_, rfl⟩
  simp only [← eX, ← eY] at hx hy ⊢
  have HX := Hid.mk eX
  have HY := Hid.mk eY
  clear eX eY
  have m1 : IntKind.i64.wrap (W - X) = W - X := wrap_i (by omega) (by omega)
  have m2 : IntKind.i64.wrap (H - Y) = H - Y := wrap_i (by omega) (by omega)
  have hne : P ≠ b := by omega
  have hne2 : b ≠ P := by omega
  have KS : ∀ v0 v1 v2 v3, ((((w2.setCell ⟨b, 0, none⟩ v0).setCell ⟨b, 1, none⟩ v1).setCell ⟨b, 2, none⟩ v2).setCell ⟨b, 3, none⟩ v3).drew.cell? ⟨P, 0, none⟩ = some (.int .i64 W) ∧ ((((w2.setCell ⟨b, 0, none⟩ v0).setCell ⟨b, 1, none⟩ v1).setCell ⟨b, 2, none⟩ v2).setCell ⟨b, 3, none⟩ v3).drew.cell? ⟨P, 1, none⟩ = some (.int .i64 H) ∧ ((((w2.setCell ⟨b, 0, none⟩ v0).setCell ⟨b, 1, none⟩ v1).setCell ⟨b, 2, none⟩ v2).setCell ⟨b, 3, none⟩ v3).drew.cell? ⟨P, 4, none⟩ = some (.int .i64 sw) ∧ ((((w2.setCell ⟨b, 0, none⟩ v0).setCell ⟨b, 1, none⟩ v1).setCell ⟨b, 2, none⟩ v2).setCell ⟨b, 3, none⟩ v3).drew.cell? ⟨P, 5, none⟩ = some (.int .i64 sh) := fun v0 v1 v2 v3 => by
    have K : Kept [b] w2 ((((w2.setCell ⟨b, 0, none⟩ v0).setCell ⟨b, 1, none⟩ v1).setCell ⟨b, 2, none⟩ v2).setCell ⟨b, 3, none⟩ v3).drew :=
      (((((Kept.refl [b] w2).setCell (.inl (by simp)) _).setCell (.inl (by simp)) _).setCell (.inl (by simp)) _).setCell (.inl (by simp)) _).drew
    exact ⟨cell_keep K g0 (by simpa using hne), cell_keep K g1 (by simpa using hne), cell_keep K g4 (by simpa using hne), cell_keep K g5 (by simpa using hne)⟩
  have HKS := Hid.mk KS
  clear KS hne hne2
  go_region_held_law (fun w' => w'.cell? ⟨P, 0, none⟩ = some (.int .i64 W) ∧ w'.cell? ⟨P, 1, none⟩ = some (.int .i64 H) ∧ w'.cell? ⟨P, 4, none⟩ = some (.int .i64 sw) ∧ w'.cell? ⟨P, 5, none⟩ = some (.int .i64 sh)) (first | exact ⟨g0, g1, g4, g5⟩ | exact HKS.out _ _ _ _ | go_keep) (fail)
  all_goals (have s4 := set4 (.int .i64 X) (.int .i64 Y) (.int .i64 (min sw (W - X))) (.int .i64 (min sh (H - Y))) HB.out)
  all_goals (have e1 : (if W - X < sw then W - X else sw) = min sw (W - X) := by omega)
  all_goals (have e2 : (if H - Y < sh then H - Y else sh) = min sh (H - Y) := by omega)
  all_goals (rw [e1, e2])
  all_goals (clear z0 z1 z2 z3 f0 f1 f2 f3 g0 g1 g2 g3 g4 g5 g6 g7 e1 e2)
  all_goals go_wp2
  all_goals (refine bodyPost_ret (v := rcv X Y (min sw (W - X)) (min sh (H - Y))) ?_ rfl ⟨by rw [HX.out, HY.out], ?_⟩)
  all_goals first | exact results_cell_row rfl _ _ b 34 _ (0, 0) _ rfl s4.1 Try.underlying34 rfl Try.info51 | exact ((hk1.trans hk2.out).step s4.2 (fun x hx => by simp at hx; subst hx; exact .inr (by have := HEB.out; omega))).drew
end Go.Proofs.Ytkjhegedkamjaaa
