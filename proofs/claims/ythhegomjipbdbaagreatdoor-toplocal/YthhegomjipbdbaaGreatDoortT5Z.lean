import Derived.Test.YthhegomjipbdbaaGreatDoorpBZ
namespace Go.Proofs.YthhegomjipbdbaaGreatDoor.Tl
open Go.RowKit

theorem sR_whl {W H sw sh c r : Int} (g : Gd W H sw sh c r) {k : Int} (k0 : 0 ≤ k) (k1 : k < c * r) : whl W H (sX c sw k) (sY c sh k) (min sw (W - sX c sw k)) (min sh (H - sY c sh k)) = true := by
  have hx := sX_in g k
  have hy := sY_in g k0 k1
  have h1 := g.s0
  have h2 := g.t0
  have h3 := g.se
  unfold whl
  refine decide_eq_true ?_
  omega

/-- The part's error is none. -/
def prt (p : Int) (A : Bool) : Prop := 0 ≤ p ∧ p < (np A : Int)

set_option maxHeartbeats 8000000 in
set_option maxRecDepth 1000000 in
theorem tbelongs_ok (P : Nat) (W H D sw sh c r p X Y rw rh : Int) (A : Bool) (w : World) (hg : Gr w P W H D A sw sh c r) (hs : Shp W H D A) (hw : whl W H X Y rw rh = true) (hX : -9223372036854775808 ≤ X ∧ X ≤ 9223372036854775807) (hY : -9223372036854775808 ≤ Y ∧ Y ≤ 9223372036854775807) (hp : prt p A) :
    Calls Tryz.prog 100 #[.pointer (some ⟨P, 0, none⟩), .int .i64 p, rcv X Y rw rh] w fun e w' => e = .returned (.tuple #[rcv (bX p X) Y (bW p rw) rh, .int .i64 0]) ∧ Kept [] w w' := by
  have HN := Hid.mk (two_new w (.int .i64 X) (.int .i64 Y) (.int .i64 rw) (.int .i64 rh) (.int .i64 0) (.int .i64 0) (.int .i64 0) (.int .i64 0) 54 54)
  obtain ⟨w1, ew1⟩ : ∃ w1, w1 = (w.alloc (.cells #[.int .i64 X, .int .i64 Y, .int .i64 rw, .int .i64 rh] 54 (0, 0))).alloc (.cells #[.int .i64 0, .int .i64 0, .int .i64 0, .int .i64 0] 54 (0, 0)) := ⟨_, rfl⟩
  rw [← ew1] at HN
  have EW := Hid.mk ew1
  have C1 := Hid.mk (fun u => halfR_any W H D p X Y rw rh A u hX hY)
  rw [show hE W H D p X Y rw rh A = 0 by unfold hE; rw [if_pos (shE_ok hs), if_pos ⟨hp, hw⟩], if_pos rfl] at C1
  have HG := Hid.mk (hg.keep HN.out.2.2 (by simp))
  have hlt := lt_of_block hg
  clear ew1 hs hw hp hg
  obtain ⟨X', eX⟩ : ∃ X', X' = bX p X := ⟨_, rfl⟩
  obtain ⟨W', eW⟩ : ∃ X', X' = bW p rw := ⟨_, rfl⟩
  simp only [← eX, ← eW] at C1 ⊢
  clear eX eW
  go_enter Tryz.func100, Tryz.ntmps100
  go_wp2
  rw [← EW.out]
  obtain ⟨b, eb⟩ : ∃ b, b = w.heap.size := ⟨_, rfl⟩
  rw [← eb] at HN hlt ⊢
  have HEB := Hid.mk eb
  clear eb EW
  obtain ⟨g0, g1, g2, g3, g4, g5, g6, g7⟩ := eight HG.out
  obtain ⟨⟨z0, z1, z2, z3⟩, f0, f1, f2, f3⟩ := four HN.out.1
  have HKK := Hid.mk (show ∀ u, Kept [] w1 u → u.cell? ⟨P, 0, none⟩ = some (.int .i64 W) ∧ u.cell? ⟨P, 1, none⟩ = some (.int .i64 H) ∧ u.cell? ⟨P, 2, none⟩ = some (.int .i64 D) ∧ u.cell? ⟨P, 3, none⟩ = some (.bool A) ∧ u.cell? ⟨b, 0, none⟩ = some (.int .i64 X) ∧ u.cell? ⟨b, 1, none⟩ = some (.int .i64 Y) ∧ u.cell? ⟨b, 2, none⟩ = some (.int .i64 rw) ∧ u.cell? ⟨b, 3, none⟩ = some (.int .i64 rh) from fun u h => ⟨cell_keep h g0 (by simp), cell_keep h g1 (by simp), cell_keep h g2 (by simp), cell_keep h g3 (by simp), cell_keep h z0 (by simp), cell_keep h z1 (by simp), cell_keep h z2 (by simp), cell_keep h z3 (by simp)⟩)
  go_region_held_law (fun u => u.cell? ⟨P, 0, none⟩ = some (.int .i64 W) ∧ u.cell? ⟨P, 1, none⟩ = some (.int .i64 H) ∧ u.cell? ⟨P, 2, none⟩ = some (.int .i64 D) ∧ u.cell? ⟨P, 3, none⟩ = some (.bool A) ∧ u.cell? ⟨b, 0, none⟩ = some (.int .i64 X) ∧ u.cell? ⟨b, 1, none⟩ = some (.int .i64 Y) ∧ u.cell? ⟨b, 2, none⟩ = some (.int .i64 rw) ∧ u.cell? ⟨b, 3, none⟩ = some (.int .i64 rh)) (first | exact HKK.out _ (Kept.refl _ _) | exact HKK.out _ hk2 | exact HKK.out _ hk2.undrew | (refine HKK.out _ ?_; repeat' (first | exact hk2 | exact hk2.undrew | exact Kept.refl _ _ | refine Kept.drew ?_ | refine Kept.alloc ?_ _ | refine Kept.setCell ?_ (.inr (Nat.le_refl _)) _))) (first | (go_at_call 124; refine (C1.out _).mono ?_; rintro e w2 ⟨rfl, hk0⟩; have hk2 : Kept [] w1 w2 := (by refine Kept.trans ?_ hk0; repeat' (first | exact Kept.refl _ _ | refine Kept.drew ?_ | refine Kept.alloc ?_ _)); first | (obtain ⟨⟨y0, y1, y2, y3⟩, e0, e1, e2, e3⟩ := four (hk0.heap (heap_alloc_new _ _) (by simp))) | (obtain ⟨⟨y0, y1, y2, y3⟩, e0, e1, e2, e3⟩ := four (hk0.undrew.heap (heap_alloc_new _ _) (by simp))) | skip))
  · obtain ⟨u, eu⟩ : ∃ u, u = w2.alloc (.cells #[.int .i64 X', .int .i64 Y, .int .i64 W', .int .i64 rh] 54 (0, 0)) := ⟨_, rfl⟩
    have K := Hid.mk (show Kept [] w1 u by rw [eu]; exact hk2.alloc _)
    have hq : u.heap[w2.heap.size]? = some (.cells #[.int .i64 X', .int .i64 Y, .int .i64 W', .int .i64 rh] 54 (0, 0)) := by rw [eu]; exact heap_alloc_new _ _
    rw [← eu]
    clear eu
    clear z0 z1 z2 z3 f0 f1 f2 f3 g0 g1 g2 g3 g4 g5 g6 g7 HKK
    have HB := Hid.mk (K.out.heap HN.out.2.1 (by simp))
    obtain ⟨⟨z0, z1, z2, z3⟩, f0, f1, f2, f3⟩ := four HB.out
    obtain ⟨⟨q0, q1, q2, q3⟩, _⟩ := four hq
    go_wp2
    have s4 := set4 (.int .i64 X') (.int .i64 Y) (.int .i64 W') (.int .i64 rh) HB.out
    refine bodyPost_ret (v := .tuple #[rcv X' Y W' rh, .int .i64 0]) ?_ rfl ⟨rfl, (HN.out.2.2.trans K.out).step s4.2 (fun x hx => by simp at hx; subst hx; exact .inr (by have := HEB.out; omega))⟩
    exact results_two rfl _ _ (b + 1) 54 _ (0, 0) _ _ rfl s4.1 Tryz.underlying54 Tryz.info54 rfl
  · have s5 := set4 (.int .i64 X') (.int .i64 Y) (.int .i64 W') (.int .i64 rh) (hk0.undrew.heap (heap_alloc_new _ _) (by simp))
    have K := Hid.mk (hk2.step s5.2 (fun x hx => by simp at hx; subst hx; exact .inr (Nat.le_refl _)))
    have hq := s5.1
    obtain ⟨u, eu⟩ : ∃ u, u = (((w2.setCell ⟨w1.heap.size, 0, none⟩ (.int .i64 X')).setCell ⟨w1.heap.size, 1, none⟩ (.int .i64 Y)).setCell ⟨w1.heap.size, 2, none⟩ (.int .i64 W')).setCell ⟨w1.heap.size, 3, none⟩ (.int .i64 rh) := ⟨_, rfl⟩
    rw [← eu] at K hq ⊢
    clear eu s5 y0 y1 y2 y3 e0 e1 e2 e3
    clear z0 z1 z2 z3 f0 f1 f2 f3 g0 g1 g2 g3 g4 g5 g6 g7 HKK
    have HB := Hid.mk (K.out.heap HN.out.2.1 (by simp))
    obtain ⟨⟨z0, z1, z2, z3⟩, f0, f1, f2, f3⟩ := four HB.out
    obtain ⟨⟨q0, q1, q2, q3⟩, _⟩ := four hq
    go_wp2
    have s4 := set4 (.int .i64 X') (.int .i64 Y) (.int .i64 W') (.int .i64 rh) HB.out
    refine bodyPost_ret (v := .tuple #[rcv X' Y W' rh, .int .i64 0]) ?_ rfl ⟨rfl, (HN.out.2.2.trans K.out).step s4.2 (fun x hx => by simp at hx; subst hx; exact .inr (by have := HEB.out; omega))⟩
    exact results_two rfl _ _ (b + 1) 54 _ (0, 0) _ _ rfl s4.1 Tryz.underlying54 Tryz.info54 rfl
set_option maxHeartbeats 8000000 in
set_option maxRecDepth 1000000 in
theorem tbelongs_no (P : Nat) (W H D sw sh c r p X Y rw rh : Int) (A : Bool) (w : World) (hg : Gr w P W H D A sw sh c r) (hs : Shp W H D A) (hX : -9223372036854775808 ≤ X ∧ X ≤ 9223372036854775807) (hY : -9223372036854775808 ≤ Y ∧ Y ≤ 9223372036854775807) (hp : ¬ prt p A) :
    Calls Tryz.prog 100 #[.pointer (some ⟨P, 0, none⟩), .int .i64 p, rcv X Y rw rh] w fun e w' => e = .returned (.tuple #[rcv 0 0 0 0, .int .i64 82]) ∧ Kept [] w w' := by
  have HN := Hid.mk (two_new w (.int .i64 X) (.int .i64 Y) (.int .i64 rw) (.int .i64 rh) (.int .i64 0) (.int .i64 0) (.int .i64 0) (.int .i64 0) 54 54)
  obtain ⟨w1, ew1⟩ : ∃ w1, w1 = (w.alloc (.cells #[.int .i64 X, .int .i64 Y, .int .i64 rw, .int .i64 rh] 54 (0, 0))).alloc (.cells #[.int .i64 0, .int .i64 0, .int .i64 0, .int .i64 0] 54 (0, 0)) := ⟨_, rfl⟩
  rw [← ew1] at HN
  have EW := Hid.mk ew1
  have C1 := Hid.mk (fun u => halfR_any W H D p X Y rw rh A u hX hY)
  rw [show hE W H D p X Y rw rh A = 65 by unfold hE; rw [if_pos (shE_ok hs), if_neg (fun h => hp h.1)], if_neg (by decide)] at C1
  have HG := Hid.mk (hg.keep HN.out.2.2 (by simp))
  have hlt := lt_of_block hg
  clear ew1 hs hp hg
  go_enter Tryz.func100, Tryz.ntmps100
  go_wp2
  rw [← EW.out]
  obtain ⟨b, eb⟩ : ∃ b, b = w.heap.size := ⟨_, rfl⟩
  rw [← eb] at HN hlt ⊢
  have HEB := Hid.mk eb
  clear eb EW
  obtain ⟨g0, g1, g2, g3, g4, g5, g6, g7⟩ := eight HG.out
  obtain ⟨⟨z0, z1, z2, z3⟩, f0, f1, f2, f3⟩ := four HN.out.1
  have HKK := Hid.mk (show ∀ u, Kept [] w1 u → u.cell? ⟨P, 0, none⟩ = some (.int .i64 W) ∧ u.cell? ⟨P, 1, none⟩ = some (.int .i64 H) ∧ u.cell? ⟨P, 2, none⟩ = some (.int .i64 D) ∧ u.cell? ⟨P, 3, none⟩ = some (.bool A) ∧ u.cell? ⟨b, 0, none⟩ = some (.int .i64 X) ∧ u.cell? ⟨b, 1, none⟩ = some (.int .i64 Y) ∧ u.cell? ⟨b, 2, none⟩ = some (.int .i64 rw) ∧ u.cell? ⟨b, 3, none⟩ = some (.int .i64 rh) from fun u h => ⟨cell_keep h g0 (by simp), cell_keep h g1 (by simp), cell_keep h g2 (by simp), cell_keep h g3 (by simp), cell_keep h z0 (by simp), cell_keep h z1 (by simp), cell_keep h z2 (by simp), cell_keep h z3 (by simp)⟩)
  go_region_held_law (fun u => u.cell? ⟨P, 0, none⟩ = some (.int .i64 W) ∧ u.cell? ⟨P, 1, none⟩ = some (.int .i64 H) ∧ u.cell? ⟨P, 2, none⟩ = some (.int .i64 D) ∧ u.cell? ⟨P, 3, none⟩ = some (.bool A) ∧ u.cell? ⟨b, 0, none⟩ = some (.int .i64 X) ∧ u.cell? ⟨b, 1, none⟩ = some (.int .i64 Y) ∧ u.cell? ⟨b, 2, none⟩ = some (.int .i64 rw) ∧ u.cell? ⟨b, 3, none⟩ = some (.int .i64 rh)) (first | exact HKK.out _ (Kept.refl _ _) | exact HKK.out _ hk2 | exact HKK.out _ hk2.undrew | (refine HKK.out _ ?_; repeat' (first | exact hk2 | exact hk2.undrew | exact Kept.refl _ _ | refine Kept.drew ?_ | refine Kept.alloc ?_ _ | refine Kept.setCell ?_ (.inr (Nat.le_refl _)) _))) (first | (go_at_call 124; refine (C1.out _).mono ?_; rintro e w2 ⟨rfl, hk0⟩; have hk2 : Kept [] w1 w2 := (by refine Kept.trans ?_ hk0; repeat' (first | exact Kept.refl _ _ | refine Kept.drew ?_ | refine Kept.alloc ?_ _)); first | (obtain ⟨⟨y0, y1, y2, y3⟩, e0, e1, e2, e3⟩ := four (hk0.heap (heap_alloc_new _ _) (by simp))) | (obtain ⟨⟨y0, y1, y2, y3⟩, e0, e1, e2, e3⟩ := four (hk0.undrew.heap (heap_alloc_new _ _) (by simp))) | skip))
  · obtain ⟨u, eu⟩ : ∃ u, u = w2.alloc (.cells #[.int .i64 0, .int .i64 0, .int .i64 0, .int .i64 0] 54 (0, 0)) := ⟨_, rfl⟩
    have K := Hid.mk (show Kept [] w1 u by rw [eu]; exact hk2.alloc _)
    have hq : u.heap[w2.heap.size]? = some (.cells #[.int .i64 0, .int .i64 0, .int .i64 0, .int .i64 0] 54 (0, 0)) := by rw [eu]; exact heap_alloc_new _ _
    rw [← eu]
    clear eu
    clear z0 z1 z2 z3 f0 f1 f2 f3 g0 g1 g2 g3 g4 g5 g6 g7 HKK
    have HB := Hid.mk (K.out.heap HN.out.2.1 (by simp))
    obtain ⟨⟨z0, z1, z2, z3⟩, f0, f1, f2, f3⟩ := four HB.out
    obtain ⟨⟨q0, q1, q2, q3⟩, _⟩ := four hq
    go_wp2
    have s4 := set4 (.int .i64 0) (.int .i64 0) (.int .i64 0) (.int .i64 0) HB.out
    refine bodyPost_ret (v := .tuple #[rcv 0 0 0 0, .int .i64 82]) ?_ rfl ⟨rfl, (HN.out.2.2.trans K.out).step s4.2 (fun x hx => by simp at hx; subst hx; exact .inr (by have := HEB.out; omega))⟩
    exact results_two rfl _ _ (b + 1) 54 _ (0, 0) _ _ rfl s4.1 Tryz.underlying54 Tryz.info54 rfl
  · have s5 := set4 (.int .i64 0) (.int .i64 0) (.int .i64 0) (.int .i64 0) (hk0.undrew.heap (heap_alloc_new _ _) (by simp))
    have K := Hid.mk (hk2.step s5.2 (fun x hx => by simp at hx; subst hx; exact .inr (Nat.le_refl _)))
    have hq := s5.1
    obtain ⟨u, eu⟩ : ∃ u, u = (((w2.setCell ⟨w1.heap.size, 0, none⟩ (.int .i64 0)).setCell ⟨w1.heap.size, 1, none⟩ (.int .i64 0)).setCell ⟨w1.heap.size, 2, none⟩ (.int .i64 0)).setCell ⟨w1.heap.size, 3, none⟩ (.int .i64 0) := ⟨_, rfl⟩
    rw [← eu] at K hq ⊢
    clear eu s5 y0 y1 y2 y3 e0 e1 e2 e3
    clear z0 z1 z2 z3 f0 f1 f2 f3 g0 g1 g2 g3 g4 g5 g6 g7 HKK
    have HB := Hid.mk (K.out.heap HN.out.2.1 (by simp))
    obtain ⟨⟨z0, z1, z2, z3⟩, f0, f1, f2, f3⟩ := four HB.out
    obtain ⟨⟨q0, q1, q2, q3⟩, _⟩ := four hq
    go_wp2
    have s4 := set4 (.int .i64 0) (.int .i64 0) (.int .i64 0) (.int .i64 0) HB.out
    refine bodyPost_ret (v := .tuple #[rcv 0 0 0 0, .int .i64 82]) ?_ rfl ⟨rfl, (HN.out.2.2.trans K.out).step s4.2 (fun x hx => by simp at hx; subst hx; exact .inr (by have := HEB.out; omega))⟩
    exact results_two rfl _ _ (b + 1) 54 _ (0, 0) _ _ rfl s4.1 Tryz.underlying54 Tryz.info54 rfl

set_option maxHeartbeats 8000000 in
set_option maxRecDepth 1000000 in
theorem tpart_ok (P : Nat) (W H D sw sh c r k p : Int) (A : Bool) (w : World) (hg : Gr w P W H D A sw sh c r) (g : Gd W H sw sh c r) (hs : Shp W H D A) (k0 : 0 ≤ k) (k1 : k < c * r) (hp : prt p A) :
    Calls Tryz.prog 76 #[.pointer (some ⟨P, 0, none⟩), .int .i64 k, .int .i64 p] w fun e w' => e = .returned (.tuple #[rcv (bX p (sX c sw k)) (sY c sh k) (bW p (min sw (W - sX c sw k))) (min sh (H - sY c sh k)), .int .i64 0]) ∧ Kept [] w w' := by
  obtain ⟨w1, ew1, hk1, hb1⟩ := one_new w #[.int .i64 0, .int .i64 0, .int .i64 0, .int .i64 0] 54
  have EW := Hid.mk ew1
  have HG := Hid.mk (hg.keep hk1 (by simp))
  have C1 := Hid.mk (fun u (h : Gr u P W H D A sw sh c r) => trect_ok P W H D sw sh c r k A u h g k0 k1)
  have hx := sX_in g k
  have hy := sY_in g k0 k1
  have C2 := Hid.mk (fun u (h : Gr u P W H D A sw sh c r) => tbelongs_ok P W H D sw sh c r p (sX c sw k) (sY c sh k) (min sw (W - sX c sw k)) (min sh (H - sY c sh k)) A u h hs (sR_whl g k0 k1) (by have := g.w1; omega) (by have := g.h1; omega) hp)
  clear ew1 hg g hs hp hx hy
  unfold sR at C1
  obtain ⟨X, eX⟩ : ∃ X, X = sX c sw k := ⟨_, rfl⟩
  obtain ⟨Y, eY⟩ : ∃ Y, Y = sY c sh k := ⟨_, rfl⟩
  obtain ⟨w', eW⟩ : ∃ X', X' = min sw (W - X) := ⟨_, rfl⟩
  obtain ⟨h', eH⟩ : ∃ X', X' = min sh (H - Y) := ⟨_, rfl⟩
  obtain ⟨X2, eX2⟩ : ∃ X', X' = bX p X := ⟨_, rfl⟩
  obtain ⟨W2, eW2⟩ : ∃ X', X' = bW p w' := ⟨_, rfl⟩
  simp only [← eX, ← eY, ← eW, ← eH, ← eX2, ← eW2] at C1 C2 ⊢
  clear eX eY eW eH eX2 eW2
  go_enter Tryz.func76, Tryz.ntmps76
  go_wp2_with (first | (go_at_call 99; rw [← EW.out]; refine (C1.out _ HG.out).mono ?_; rintro e w2 ⟨rfl, hk2⟩) | (go_at_call 100; refine (C2.out _ ((HG.out.keep hk2 (by simp)).keep (alloc_kept _ _) (by simp))).mono ?_; rintro e w3 ⟨rfl, hk3⟩; have HB := Hid.mk (((hk2.alloc _).trans hk3).heap hb1 (by simp)); obtain ⟨⟨z0, z1, z2, z3⟩, f0, f1, f2, f3⟩ := four HB.out))
  have s4 := set4 (.int .i64 X2) (.int .i64 Y) (.int .i64 W2) (.int .i64 h') HB.out
  refine bodyPost_ret (v := .tuple #[rcv X2 Y W2 h', .int .i64 0]) ?_ rfl ⟨rfl, ((hk1.trans (hk2.alloc _)).trans hk3).step s4.2 (fun x hx => by simp at hx; subst hx; exact .inr (by omega))⟩
  exact results_two rfl _ _ w.heap.size 54 _ (0, 0) _ _ rfl s4.1 Tryz.underlying54 Tryz.info54 rfl

set_option maxHeartbeats 8000000 in
set_option maxRecDepth 1000000 in
theorem tpart_noP (P : Nat) (W H D sw sh c r k p : Int) (A : Bool) (w : World) (hg : Gr w P W H D A sw sh c r) (g : Gd W H sw sh c r) (hs : Shp W H D A) (k0 : 0 ≤ k) (k1 : k < c * r) (hp : ¬ prt p A) :
    Calls Tryz.prog 76 #[.pointer (some ⟨P, 0, none⟩), .int .i64 k, .int .i64 p] w fun e w' => e = .returned (.tuple #[rcv 0 0 0 0, .int .i64 82]) ∧ Kept [] w w' := by
  obtain ⟨w1, ew1, hk1, hb1⟩ := one_new w #[.int .i64 0, .int .i64 0, .int .i64 0, .int .i64 0] 54
  have EW := Hid.mk ew1
  have HG := Hid.mk (hg.keep hk1 (by simp))
  have C1 := Hid.mk (fun u (h : Gr u P W H D A sw sh c r) => trect_ok P W H D sw sh c r k A u h g k0 k1)
  have hx := sX_in g k
  have hy := sY_in g k0 k1
  have C2 := Hid.mk (fun u (h : Gr u P W H D A sw sh c r) => tbelongs_no P W H D sw sh c r p (sX c sw k) (sY c sh k) (min sw (W - sX c sw k)) (min sh (H - sY c sh k)) A u h hs (by have := g.w1; omega) (by have := g.h1; omega) hp)
  clear ew1 hg g hs hp hx hy
  unfold sR at C1
  obtain ⟨X, eX⟩ : ∃ X, X = sX c sw k := ⟨_, rfl⟩
  obtain ⟨Y, eY⟩ : ∃ Y, Y = sY c sh k := ⟨_, rfl⟩
  obtain ⟨w', eW⟩ : ∃ X', X' = min sw (W - X) := ⟨_, rfl⟩
  obtain ⟨h', eH⟩ : ∃ X', X' = min sh (H - Y) := ⟨_, rfl⟩
  simp only [← eX, ← eY, ← eW, ← eH] at C1 C2 ⊢
  clear eX eY eW eH
  go_enter Tryz.func76, Tryz.ntmps76
  go_wp2_with (first | (go_at_call 99; rw [← EW.out]; refine (C1.out _ HG.out).mono ?_; rintro e w2 ⟨rfl, hk2⟩) | (go_at_call 100; refine (C2.out _ ((HG.out.keep hk2 (by simp)).keep (alloc_kept _ _) (by simp))).mono ?_; rintro e w3 ⟨rfl, hk3⟩; have HB := Hid.mk (((hk2.alloc _).trans hk3).heap hb1 (by simp)); obtain ⟨⟨z0, z1, z2, z3⟩, f0, f1, f2, f3⟩ := four HB.out))
  have s4 := set4 (.int .i64 0) (.int .i64 0) (.int .i64 0) (.int .i64 0) HB.out
  refine bodyPost_ret (v := .tuple #[rcv 0 0 0 0, .int .i64 82]) ?_ rfl ⟨rfl, ((hk1.trans (hk2.alloc _)).trans hk3).step s4.2 (fun x hx => by simp at hx; subst hx; exact .inr (by omega))⟩
  exact results_two rfl _ _ w.heap.size 54 _ (0, 0) _ _ rfl s4.1 Tryz.underlying54 Tryz.info54 rfl

set_option maxHeartbeats 8000000 in
set_option maxRecDepth 1000000 in
theorem tpart_noK (P : Nat) (W H D sw sh c r k p : Int) (A : Bool) (w : World) (hg : Gr w P W H D A sw sh c r) (g : Gd W H sw sh c r) (kn : k < 0 ∨ c * r ≤ k) :
    Calls Tryz.prog 76 #[.pointer (some ⟨P, 0, none⟩), .int .i64 k, .int .i64 p] w fun e w' => e = .returned (.tuple #[rcv 0 0 0 0, .int .i64 82]) ∧ Kept [] w w' := by
  obtain ⟨w1, ew1, hk1, hb1⟩ := one_new w #[.int .i64 0, .int .i64 0, .int .i64 0, .int .i64 0] 54
  have EW := Hid.mk ew1
  have HG := Hid.mk (hg.keep hk1 (by simp))
  have C1 := Hid.mk (fun u (h : Gr u P W H D A sw sh c r) => trect_no P W H D sw sh c r k A u h g kn)
  clear ew1 hg g kn
  go_enter Tryz.func76, Tryz.ntmps76
  go_wp2_with (first | (go_at_call 99; rw [← EW.out]; refine (C1.out _ HG.out).mono ?_; rintro e w2 ⟨rfl, hk2⟩; have HB := Hid.mk ((hk2.alloc (.cells #[.int .i64 0, .int .i64 0, .int .i64 0, .int .i64 0] 54 (0, 0))).heap hb1 (by simp)); obtain ⟨⟨z0, z1, z2, z3⟩, f0, f1, f2, f3⟩ := four HB.out))
  have s4 := set4 (.int .i64 0) (.int .i64 0) (.int .i64 0) (.int .i64 0) HB.out
  refine bodyPost_ret (v := .tuple #[rcv 0 0 0 0, .int .i64 82]) ?_ rfl ⟨rfl, (hk1.trans (hk2.alloc _)).step s4.2 (fun x hx => by simp at hx; subst hx; exact .inr (by omega))⟩
  exact results_two rfl _ _ w.heap.size 54 _ (0, 0) _ _ rfl s4.1 Tryz.underlying54 Tryz.info54 rfl
end Go.Proofs.YthhegomjipbdbaaGreatDoor.Tl

namespace Go.Proofs.YthhegomjipbdbaaGreatDoor.Pc
open Go.RowKit

/-- A sum of the first n. -/
def sI (f : Nat → Int) : Nat → Int
  | 0 => 0
  | n + 1 => sI f n + f n
theorem sI_congr {f g : Nat → Int} {n : Nat} (h : ∀ i, i < n → f i = g i) : sI f n = sI g n := by
  induction n with
  | zero => rfl
  | succ n ih => simp only [sI]; rw [ih (fun i hi => h i (by omega)), h n (by omega)]
theorem sI_le {f g : Nat → Int} {n : Nat} (h : ∀ i, i < n → f i ≤ g i) : sI f n ≤ sI g n := by
  induction n with
  | zero => exact Int.le_refl _
  | succ n ih => simp only [sI]; have := ih (fun i hi => h i (by omega)); have := h n (by omega); omega
theorem sI_add {f : Nat → Int} (n m : Nat) : sI f (n + m) = sI f n + sI (fun j => f (n + j)) m := by
  induction m with
  | zero => simp [sI]
  | succ m ih => rw [← Nat.add_assoc]; simp only [sI]; rw [ih]; omega
theorem sI_mul (f : Nat → Int) (x : Int) (n : Nat) : sI (fun i => f i * x) n = sI f n * x := by
  induction n with
  | zero => simp [sI]
  | succ n ih => simp only [sI]; rw [ih, Int.add_mul]
theorem sI_const (x : Int) (n : Nat) : sI (fun _ => x) n = n * x := by
  induction n with
  | zero => simp [sI]
  | succ n ih => simp only [sI]; rw [ih, show ((n + 1 : Nat) : Int) = (n : Int) + 1 by omega, Int.add_mul]; omega
theorem sI_plus (f g : Nat → Int) (n : Nat) : sI (fun i => f i + g i) n = sI f n + sI g n := by
  induction n with
  | zero => rfl
  | succ n ih => simp only [sI]; rw [ih]; omega
theorem sI_nn {f : Nat → Int} {n : Nat} (h : ∀ i, i < n → 0 ≤ f i) : 0 ≤ sI f n := by
  have := sI_le (f := fun _ => 0) h
  rw [sI_const] at this; simpa using this
theorem sI_one {f : Nat → Int} {n i : Nat} (h : ∀ i, i < n → 0 ≤ f i) (hi : i < n) : f i ≤ sI f n := by
  induction n with
  | zero => omega
  | succ n ih =>
    simp only [sI]
    have hn := h n (by omega)
    have h0 := sI_nn (fun i hi => h i (by omega) : ∀ i, i < n → 0 ≤ f i)
    by_cases e : i = n
    · subst e; omega
    · have := ih (fun i hi => h i (by omega)) (by omega); omega
/-- A sum over rows and columns. -/
theorem sI_grid (F G : Nat → Int) (c r : Nat) (hc : 0 < c) : sI (fun k => F (k % c) * G (k / c)) (c * r) = sI F c * sI G r := by
  induction r with
  | zero => simp [sI]
  | succ r ih =>
    rw [Nat.mul_succ, sI_add, ih]
    have e : sI (fun j => F ((c * r + j) % c) * G ((c * r + j) / c)) c = sI (fun j => F j * G r) c := sI_congr (fun j hj => by
      rw [Nat.mul_add_mod, Nat.mod_eq_of_lt hj, Nat.mul_add_div hc, Nat.div_eq_of_lt hj, Nat.add_zero])
    rw [e, sI_mul]
    simp only [sI]
    rw [Int.mul_add]
/-- The parts of a side. -/
theorem sI_side {W sw c : Int} (p : Int) (c0 : 1 ≤ c) (s0 : 16 ≤ sw) (se : sw % 2 = 0) (cw : (c - 1) * sw < W) (cx : W ≤ c * sw) :
    sI (fun j => Tl.bW p (min sw (W - (j : Int) * sw))) c.toNat = Tl.wp W p := by
  obtain ⟨m, hm⟩ : ∃ m : Nat, c = (m : Int) + 1 := ⟨(c - 1).toNat, by omega⟩
  subst hm
  have e0 : ((m : Int) + 1).toNat = m + 1 := by omega
  rw [e0]
  have e1 : (m : Int) + 1 - 1 = m := by omega
  rw [e1] at cw
  rw [Int.add_mul] at cx
  simp only [sI]
  have h1 : sI (fun j => Tl.bW p (min sw (W - (j : Int) * sw))) m = sI (fun _ => Tl.bW p sw) m := sI_congr (fun j hj => by
    have : ((j : Int) + 1) * sw ≤ (m : Int) * sw := Int.mul_le_mul_of_nonneg_right (by omega) (by omega)
    rw [Int.add_mul] at this
    rw [Int.min_eq_left (by omega)])
  rw [h1, sI_const, Int.min_eq_right (by omega)]
  unfold Tl.bW Tl.wp Tl.hf
  split
  · obtain ⟨u, hu⟩ : ∃ u, sw = 2 * u := ⟨sw / 2, by omega⟩
    subst hu
    have e2 : (m : Int) * (2 * u) = 2 * ((m : Int) * u) := by rw [← Int.mul_assoc, Int.mul_comm (m : Int) 2, Int.mul_assoc]
    have e3 : 2 * u / 2 + 2 * u % 2 = u := by omega
    rw [e2, e3]
    generalize (m : Int) * u = q
    omega
  · omega
theorem sI_side1 {H sh r : Int} (r0 : 1 ≤ r) (s0 : 16 ≤ sh) (rh : (r - 1) * sh < H) (rx : H ≤ r * sh) :
    sI (fun j => min sh (H - (j : Int) * sh)) r.toNat = H := by
  obtain ⟨m, hm⟩ : ∃ m : Nat, r = (m : Int) + 1 := ⟨(r - 1).toNat, by omega⟩
  subst hm
  have e0 : ((m : Int) + 1).toNat = m + 1 := by omega
  rw [e0]
  have e1 : (m : Int) + 1 - 1 = m := by omega
  rw [e1] at rh
  rw [Int.add_mul] at rx
  simp only [sI]
  have h1 : sI (fun j => min sh (H - (j : Int) * sh)) m = sI (fun _ => sh) m := sI_congr (fun j hj => by
    have : ((j : Int) + 1) * sh ≤ (m : Int) * sh := Int.mul_le_mul_of_nonneg_right (by omega) (by omega)
    rw [Int.add_mul] at this
    rw [Int.min_eq_left (by omega)])
  rw [h1, sI_const, Int.min_eq_right (by omega)]
  omega

/-- A slice's part of a plane: how wide, how high. -/
def pw (W sw c p k : Int) : Int := Tl.bW p (min sw (W - Tl.sX c sw k))
def ph (H sh c k : Int) : Int := min sh (H - Tl.sY c sh k)
theorem pw_in {W H sw sh c r : Int} (g : Tl.Gd W H sw sh c r) (p k : Int) : 1 ≤ pw W sw c p k ∧ pw W sw c p k ≤ 4096 := by
  have hx := Tl.sX_in g k
  have h1 := g.s0
  have h2 := g.s1
  unfold pw Tl.bW Tl.hf
  split <;> omega
theorem ph_in {W H sw sh c r : Int} (g : Tl.Gd W H sw sh c r) {k : Int} (k0 : 0 ≤ k) (k1 : k < c * r) : 1 ≤ ph H sh c k ∧ ph H sh c k ≤ 4096 := by
  have hx := Tl.sY_in g k0 k1
  have h1 := g.t0
  have h2 := g.t1
  unfold ph
  omega
/-- All slices' parts of a plane are the plane. -/
theorem parts_sum {W H sw sh c r : Int} (g : Tl.Gd W H sw sh c r) (p : Int) : sI (fun k => pw W sw c p (k : Int) * ph H sh c (k : Int)) (c * r).toNat = Tl.wp W p * H := by
  obtain ⟨a, ha⟩ : ∃ a : Nat, c = (a : Int) := ⟨c.toNat, by have := g.c0; omega⟩
  obtain ⟨b, hb⟩ : ∃ b : Nat, r = (b : Int) := ⟨r.toNat, by have := g.r0; omega⟩
  have hc := g.c0
  have e1 := sI_side p g.c0 g.s0 g.se g.cw g.cx
  have e2 := sI_side1 g.r0 g.t0 g.rh g.rx
  subst ha hb
  rw [show ((a : Int) * (b : Int)).toNat = a * b by rw [← Int.natCast_mul]; exact Int.toNat_natCast _]
  rw [Int.toNat_natCast] at e1 e2
  have h := sI_grid (fun j => Tl.bW p (min sw (W - (j : Int) * sw))) (fun j => min sh (H - (j : Int) * sh)) a b (by omega)
  rw [e1, e2] at h
  rw [← h]
  refine sI_congr (fun k _ => ?_)
  unfold pw ph Tl.sX Tl.sY
  rfl
end Go.Proofs.YthhegomjipbdbaaGreatDoor.Pc
