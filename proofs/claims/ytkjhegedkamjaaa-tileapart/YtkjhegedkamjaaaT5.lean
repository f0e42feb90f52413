import Derived.Test.YtkjhegedkamjaaaT4
namespace Go.Proofs.Ytkjhegedkamjaaa
open Go.RowKit

theorem sR_whl {W H sw sh c r : Int} (g : Gd W H sw sh c r) {k : Int} (k0 : 0 ≤ k) (k1 : k < c * r) : whl W H (sX c sw k) (sY c sh k) (min sw (W - sX c sw k)) (min sh (H - sY c sh k)) = true := by
  have hx := sX_in g k
  have hy := sY_in g k0 k1
  have h1 := g.s0
  have h2 := g.t0
  have h3 := g.se
  unfold whl
  refine decide_eq_true ?_
  omega

/-- The part's error is none. -/
def prt (p : Int) (A : Bool) : Prop := 0 ≤ p ∧ p < (np A : Int)

set_option maxHeartbeats 8000000 in
set_option maxRecDepth 1000000 in
theorem tbelongs_ok (P : Nat) (W H D sw sh c r p X Y rw rh : Int) (A : Bool) (w : World) (hg : Gr w P W H D A sw sh c r) (hs : Shp W H D A) (hw : whl W H X Y rw rh = true) (hX : -9223372036854775808 ≤ X ∧ X ≤ 9223372036854775807) (hY : -9223372036854775808 ≤ Y ∧ Y ≤ 9223372036854775807) (hp : prt p A) :
    Calls Try.prog 32 #[.pointer (some ⟨P, 0, none⟩), .int .i64 p, rcv X Y rw rh] w fun e w' => e = .returned (.tuple #[rcv (bX p X) Y (bW p rw) rh, .int .i64 0]) ∧ Kept [] w w' := by
  have HN := Hid.mk (two_new w (.int .i64 X) (.int .i64 Y) (.int .i64 rw) (.int .i64 rh) (.int .i64 0) (.int .i64 0) (.int .i64 0) (.int .i64 0) 34 34)
  obtain ⟨w1, ew1⟩ : ∃ w1, w1 = (w.alloc (.cells #[.int .i64 X, .int .i64 Y, .int .i64 rw, .int .i64 rh] 34 (0, 0))).alloc (.cells #[.int .i64 0, .int .i64 0, .int .i64 0, .int .i64 0] 34 (0, 0)) := ⟨_, rfl⟩
  rw [← ew1] at HN
  have EW := Hid.mk ew1
  have C1 := Hid.mk (fun u => halfR_any W H D p X Y rw rh A u hX hY)
  rw [show hE W H D p X Y rw rh A = 0 by unfold hE; rw [if_pos (shE_ok hs), if_pos ⟨hp, hw⟩], if_pos rfl] at C1
  have HG := Hid.mk (hg.keep HN.out.2.2 (by simp))
  have hlt := lt_of_block hg
  clear ew1 hs hw hp hg
  obtain ⟨X', eX⟩ : ∃ X', X' = bX p X := ⟨_, rfl⟩
  obtain ⟨W', eW⟩ : ∃ X', X' = bW p rw := ⟨_, rfl⟩
  simp only [← eX, ← eW] at C1 ⊢
  clear eX eW
  go_enter Try.func32, Try.ntmps32
  go_wp2
  rw [← EW.out]
  obtain ⟨b, eb⟩ : ∃ b, b = w.heap.size := ⟨_, rfl⟩
  rw [← eb] at HN hlt ⊢
  have HEB := Hid.mk eb
  clear eb EW
  obtain ⟨g0, g1, g2, g3, g4, g5, g6, g7⟩ := eight HG.out
  obtain ⟨⟨z0, z1, z2, z3⟩, f0, f1, f2, f3⟩ := four HN.out.1
  have HKK := Hid.mk (show ∀ u, Kept [] w1 u → u.cell? ⟨P, 0, none⟩ = some (.int .i64 W) ∧ u.cell? ⟨P, 1, none⟩ = some (.int .i64 H) ∧ u.cell? ⟨P, 2, none⟩ = some (.int .i64 D) ∧ u.cell? ⟨P, 3, none⟩ = some (.bool A) ∧ u.cell? ⟨b, 0, none⟩ = some (.int .i64 X) ∧ u.cell? ⟨b, 1, none⟩ = some (.int .i64 Y) ∧ u.cell? ⟨b, 2, none⟩ = some (.int .i64 rw) ∧ u.cell? ⟨b, 3, none⟩ = some (.int .i64 rh) from fun u h => ⟨cell_keep h g0 (by simp), cell_keep h g1 (by simp), cell_keep h g2 (by simp), cell_keep h g3 (by simp), cell_keep h z0 (by simp), cell_keep h z1 (by simp), cell_keep h z2 (by simp), cell_keep h z3 (by simp)⟩)
  go_region_held_law (fun u => u.cell? ⟨P, 0, none⟩ = some (.int .i64 W) ∧ u.cell? ⟨P, 1, none⟩ = some (.int .i64 H) ∧ u.cell? ⟨P, 2, none⟩ = some (.int .i64 D) ∧ u.cell? ⟨P, 3, none⟩ = some (.bool A) ∧ u.cell? ⟨b, 0, none⟩ = some (.int .i64 X) ∧ u.cell? ⟨b, 1, none⟩ = some (.int .i64 Y) ∧ u.cell? ⟨b, 2, none⟩ = some (.int .i64 rw) ∧ u.cell? ⟨b, 3, none⟩ = some (.int .i64 rh)) (first | exact HKK.out _ (Kept.refl _ _) | exact HKK.out _ hk2 | exact HKK.out _ hk2.undrew | (refine HKK.out _ ?_; repeat' (first | exact hk2 | exact hk2.undrew | exact Kept.refl _ _ | refine Kept.drew ?_ | refine Kept.alloc ?_ _ | refine Kept.setCell ?_ (.inr (Nat.le_refl _)) _))) (first | (go_at_call 43; refine (C1.out _).mono ?_; rintro e w2 ⟨rfl, hk0⟩; have hk2 : Kept [] w1 w2 := (by refine Kept.trans ?_ hk0; repeat' (first | exact Kept.refl _ _ | refine Kept.drew ?_ | refine Kept.alloc ?_ _)); first | (obtain ⟨⟨y0, y1, y2, y3⟩, e0, e1, e2, e3⟩ := four (hk0.heap (heap_alloc_new _ _) (by simp))) | (obtain ⟨⟨y0, y1, y2, y3⟩, e0, e1, e2, e3⟩ := four (hk0.undrew.heap (heap_alloc_new _ _) (by simp))) | skip))
  · obtain ⟨u, eu⟩ : ∃ u, u = w2.alloc (.cells #[.int .i64 X', .int .i64 Y, .int .i64 W', .int .i64 rh] 34 (0, 0)) := ⟨_, rfl⟩
    have K := Hid.mk (show Kept [] w1 u by rw [eu]; exact hk2.alloc _)
    have hq : u.heap[w2.heap.size]? = some (.cells #[.int .i64 X', .int .i64 Y, .int .i64 W', .int .i64 rh] 34 (0, 0)) := by rw [eu]; exact heap_alloc_new _ _
    rw [← eu]
    clear eu
    clear z0 z1 z2 z3 f0 f1 f2 f3 g0 g1 g2 g3 g4 g5 g6 g7 HKK
    have HB := Hid.mk (K.out.heap HN.out.2.1 (by simp))
    obtain ⟨⟨z0, z1, z2, z3⟩, f0, f1, f2, f3⟩ := four HB.out
    obtain ⟨⟨q0, q1, q2, q3⟩, _⟩ := four hq
    go_wp2
    have s4 := set4 (.int .i64 X') (.int .i64 Y) (.int .i64 W') (.int .i64 rh) HB.out
    refine bodyPost_ret (v := .tuple #[rcv X' Y W' rh, .int .i64 0]) ?_ rfl ⟨rfl, (HN.out.2.2.trans K.out).step s4.2 (fun x hx => by simp at hx; subst hx; exact .inr (by have := HEB.out; omega))⟩
    exact results_two rfl _ _ (b + 1) 34 _ (0, 0) _ _ rfl s4.1 Try.underlying34 Try.info51 rfl
  · have s5 := set4 (.int .i64 X') (.int .i64 Y) (.int .i64 W') (.int .i64 rh) (hk0.undrew.heap (heap_alloc_new _ _) (by simp))
    have K := Hid.mk (hk2.step s5.2 (fun x hx => by simp at hx; subst hx; exact .inr (Nat.le_refl _)))
    have hq := s5.1
    obtain ⟨u, eu⟩ : ∃ u, u = (((w2.setCell ⟨w1.heap.size, 0, none⟩ (.int .i64 X')).setCell ⟨w1.heap.size, 1, none⟩ (.int .i64 Y)).setCell ⟨w1.heap.size, 2, none⟩ (.int .i64 W')).setCell ⟨w1.heap.size, 3, none⟩ (.int .i64 rh) := ⟨_, rfl⟩
    rw [← eu] at K hq ⊢
    clear eu s5 y0 y1 y2 y3 e0 e1 e2 e3
    clear z0 z1 z2 z3 f0 f1 f2 f3 g0 g1 g2 g3 g4 g5 g6 g7 HKK
    have HB := Hid.mk (K.out.heap HN.out.2.1 (by simp))
    obtain ⟨⟨z0, z1, z2, z3⟩, f0, f1, f2, f3⟩ := four HB.out
    obtain ⟨⟨q0, q1, q2, q3⟩, _⟩ := four hq
    go_wp2
    have s4 := set4 (.int .i64 X') (.int .i64 Y) (.int .i64 W') (.int .i64 rh) HB.out
    refine bodyPost_ret (v := .tuple #[rcv X' Y W' rh, .int .i64 0]) ?_ rfl ⟨rfl, (HN.out.2.2.trans K.out).step s4.2 (fun x hx => by simp at hx; subst hx; exact .inr (by have := HEB.out; omega))⟩
    exact results_two rfl _ _ (b + 1) 34 _ (0, 0) _ _ rfl s4.1 Try.underlying34 Try.info51 rfl
set_option maxHeartbeats 8000000 in
set_option maxRecDepth 1000000 in
theorem tbelongs_no (P : Nat) (W H D sw sh c r p X Y rw rh : Int) (A : Bool) (w : World) (hg : Gr w P W H D A sw sh c r) (hs : Shp W H D A) (hX : -9223372036854775808 ≤ X ∧ X ≤ 9223372036854775807) (hY : -9223372036854775808 ≤ Y ∧ Y ≤ 9223372036854775807) (hp : ¬ prt p A) :
    Calls Try.prog 32 #[.pointer (some ⟨P, 0, none⟩), .int .i64 p, rcv X Y rw rh] w fun e w' => e = .returned (.tuple #[rcv 0 0 0 0, .int .i64 82]) ∧ Kept [] w w' := by
  have HN := Hid.mk (two_new w (.int .i64 X) (.int .i64 Y) (.int .i64 rw) (.int .i64 rh) (.int .i64 0) (.int .i64 0) (.int .i64 0) (.int .i64 0) 34 34)
  obtain ⟨w1, ew1⟩ : ∃ w1, w1 = (w.alloc (.cells #[.int .i64 X, .int .i64 Y, .int .i64 rw, .int .i64 rh] 34 (0, 0))).alloc (.cells #[.int .i64 0, .int .i64 0, .int .i64 0, .int .i64 0] 34 (0, 0)) := ⟨_, rfl⟩
  rw [← ew1] at HN
  have EW := Hid.mk ew1
  have C1 := Hid.mk (fun u => halfR_any W H D p X Y rw rh A u hX hY)
  rw [show hE W H D p X Y rw rh A = 65 by unfold hE; rw [if_pos (shE_ok hs), if_neg (fun h => hp h.1)], if_neg (by decide)] at C1
  have HG := Hid.mk (hg.keep HN.out.2.2 (by simp))
  have hlt := lt_of_block hg
  clear ew1 hs hp hg
  go_enter Try.func32, Try.ntmps32
  go_wp2
  rw [← EW.out]
  obtain ⟨b, eb⟩ : ∃ b, b = w.heap.size := ⟨_, rfl⟩
  rw [← eb] at HN hlt ⊢
  have HEB := Hid.mk eb
  clear eb EW
  obtain ⟨g0, g1, g2, g3, g4, g5, g6, g7⟩ := eight HG.out
  obtain ⟨⟨z0, z1, z2, z3⟩, f0, f1, f2, f3⟩ := four HN.out.1
  have HKK := Hid.mk (show ∀ u, Kept [] w1 u → u.cell? ⟨P, 0, none⟩ = some (.int .i64 W) ∧ u.cell? ⟨P, 1, none⟩ = some (.int .i64 H) ∧ u.cell? ⟨P, 2, none⟩ = some (.int .i64 D) ∧ u.cell? ⟨P, 3, none⟩ = some (.bool A) ∧ u.cell? ⟨b, 0, none⟩ = some (.int .i64 X) ∧ u.cell? ⟨b, 1, none⟩ = some (.int .i64 Y) ∧ u.cell? ⟨b, 2, none⟩ = some (.int .i64 rw) ∧ u.cell? ⟨b, 3, none⟩ = some (.int .i64 rh) from fun u h => ⟨cell_keep h g0 (by simp), cell_keep h g1 (by simp), cell_keep h g2 (by simp), cell_keep h g3 (by simp), cell_keep h z0 (by simp), cell_keep h z1 (by simp), cell_keep h z2 (by simp), cell_keep h z3 (by simp)⟩)
  go_region_held_law (fun u => u.cell? ⟨P, 0, none⟩ = some (.int .i64 W) ∧ u.cell? ⟨P, 1, none⟩ = some (.int .i64 H) ∧ u.cell? ⟨P, 2, none⟩ = some (.int .i64 D) ∧ u.cell? ⟨P, 3, none⟩ = some (.bool A) ∧ u.cell? ⟨b, 0, none⟩ = some (.int .i64 X) ∧ u.cell? ⟨b, 1, none⟩ = some (.int .i64 Y) ∧ u.cell? ⟨b, 2, none⟩ = some (.int .i64 rw) ∧ u.cell? ⟨b, 3, none⟩ = some (.int .i64 rh)) (first | exact HKK.out _ (Kept.refl _ _) | exact HKK.out _ hk2 | exact HKK.out _ hk2.undrew | (refine HKK.out _ ?_; repeat' (first | exact hk2 | exact hk2.undrew | exact Kept.refl _ _ | refine Kept.drew ?_ | refine Kept.alloc ?_ _ | refine Kept.setCell ?_ (.inr (Nat.le_refl _)) _))) (first | (go_at_call 43; refine (C1.out _).mono ?_; rintro e w2 ⟨rfl, hk0⟩; have hk2 : Kept [] w1 w2 := (by refine Kept.trans ?_ hk0; repeat' (first | exact Kept.refl _ _ | refine Kept.drew ?_ | refine Kept.alloc ?_ _)); first | (obtain ⟨⟨y0, y1, y2, y3⟩, e0, e1, e2, e3⟩ := four (hk0.heap (heap_alloc_new _ _) (by simp))) | (obtain ⟨⟨y0, y1, y2, y3⟩, e0, e1, e2, e3⟩ := four (hk0.undrew.heap (heap_alloc_new _ _) (by simp))) | skip))
  · obtain ⟨u, eu⟩ : ∃ u, u = w2.alloc (.cells #[.int .i64 0, .int .i64 0, .int .i64 0, .int .i64 0] 34 (0, 0)) := ⟨_, rfl⟩
    have K := Hid.mk (show Kept [] w1 u by rw [eu]; exact hk2.alloc _)
    have hq : u.heap[w2.heap.size]? = some (.cells #[.int .i64 0, .int .i64 0, .int .i64 0, .int .i64 0] 34 (0, 0)) := by rw [eu]; exact heap_alloc_new _ _
    rw [← eu]
    clear eu
    clear z0 z1 z2 z3 f0 f1 f2 f3 g0 g1 g2 g3 g4 g5 g6 g7 HKK
    have HB := Hid.mk (K.out.heap HN.out.2.1 (by simp))
    obtain ⟨⟨z0, z1, z2, z3⟩, f0, f1, f2, f3⟩ := four HB.out
    obtain ⟨⟨q0, q1, q2, q3⟩, _⟩ := four hq
    go_wp2
    have s4 := set4 (.int .i64 0) (.int .i64 0) (.int .i64 0) (.int .i64 0) HB.out
    refine bodyPost_ret (v := .tuple #[rcv 0 0 0 0, .int .i64 82]) ?_ rfl ⟨rfl, (HN.out.2.2.trans K.out).step s4.2 (fun x hx => by simp at hx; subst hx; exact .inr (by have := HEB.out; omega))⟩
    exact results_two rfl _ _ (b + 1) 34 _ (0, 0) _ _ rfl s4.1 Try.underlying34 Try.info51 rfl
  · have s5 := set4 (.int .i64 0) (.int .i64 0) (.int .i64 0) (.int .i64 0) (hk0.undrew.heap (heap_alloc_new _ _) (by simp))
    have K := Hid.mk (hk2.step s5.2 (fun x hx => by simp at hx; subst hx; exact .inr (Nat.le_refl _)))
    have hq := s5.1
    obtain ⟨u, eu⟩ : ∃ u, u = (((w2.setCell ⟨w1.heap.size, 0, none⟩ (.int .i64 0)).setCell ⟨w1.heap.size, 1, none⟩ (.int .i64 0)).setCell ⟨w1.heap.size, 2, none⟩ (.int .i64 0)).setCell ⟨w1.heap.size, 3, none⟩ (.int .i64 0) := ⟨_, rfl⟩
    rw [← eu] at K hq ⊢
    clear eu s5 y0 y1 y2 y3 e0 e1 e2 e3
    clear z0 z1 z2 z3 f0 f1 f2 f3 g0 g1 g2 g3 g4 g5 g6 g7 HKK
    have HB := Hid.mk (K.out.heap HN.out.2.1 (by simp))
    obtain ⟨⟨z0, z1, z2, z3⟩, f0, f1, f2, f3⟩ := four HB.out
    obtain ⟨⟨q0, q1, q2, q3⟩, _⟩ := four hq
    go_wp2
    have s4 := set4 (.int .i64 0) (.int .i64 0) (.int .i64 0) (.int .i64 0) HB.out
    refine bodyPost_ret (v := .tuple #[rcv 0 0 0 0, .int .i64 82]) ?_ rfl ⟨rfl, (HN.out.2.2.trans K.out).step s4.2 (fun x hx => by simp at hx; subst hx; exact .inr (by have := HEB.out; omega))⟩
    exact results_two rfl _ _ (b + 1) 34 _ (0, 0) _ _ rfl s4.1 Try.underlying34 Try.info51 rfl

set_option maxHeartbeats 8000000 in
set_option maxRecDepth 1000000 in
theorem tpart_ok (P : Nat) (W H D sw sh c r k p : Int) (A : Bool) (w : World) (hg : Gr w P W H D A sw sh c r) (g : Gd W H sw sh c r) (hs : Shp W H D A) (k0 : 0 ≤ k) (k1 : k < c * r) (hp : prt p A) :
    Calls Try.prog 16 #[.pointer (some ⟨P, 0, none⟩), .int .i64 k, .int .i64 p] w fun e w' => e = .returned (.tuple #[rcv (bX p (sX c sw k)) (sY c sh k) (bW p (min sw (W - sX c sw k))) (min sh (H - sY c sh k)), .int .i64 0]) ∧ Kept [] w w' := by
  obtain ⟨w1, ew1, hk1, hb1⟩ := one_new w #[.int .i64 0, .int .i64 0, .int .i64 0, .int .i64 0] 34
  have EW := Hid.mk ew1
  have HG := Hid.mk (hg.keep hk1 (by simp))
  have C1 := Hid.mk (fun u (h : Gr u P W H D A sw sh c r) => trect_ok P W H D sw sh c r k A u h g k0 k1)
  have hx := sX_in g k
  have hy := sY_in g k0 k1
  have C2 := Hid.mk (fun u (h : Gr u P W H D A sw sh c r) => tbelongs_ok P W H D sw sh c r p (sX c sw k) (sY c sh k) (min sw (W - sX c sw k)) (min sh (H - sY c sh k)) A u h hs (sR_whl g k0 k1) (by have := g.w1; omega) (by have := g.h1; omega) hp)
  clear ew1 hg g hs hp hx hy
  unfold sR at C1
  obtain ⟨X, eX⟩ : ∃ X, X = sX c sw k := ⟨_, rfl⟩
  obtain ⟨Y, eY⟩ : ∃ Y, Y = sY c sh k := ⟨_, rfl⟩
  obtain ⟨w', eW⟩ : ∃ X', X' = min sw (W - X) := ⟨_, rfl⟩
  obtain ⟨h', eH⟩ : ∃ X', X' = min sh (H - Y) := ⟨_, rfl⟩
  obtain ⟨X2, eX2⟩ : ∃ X', X' = bX p X := ⟨_, rfl⟩
  obtain ⟨W2, eW2⟩ : ∃ X', X' = bW p w' := ⟨_, rfl⟩
  simp only [← eX, ← eY, ← eW, ← eH, ← eX2, ← eW2] at C1 C2 ⊢
  clear eX eY eW eH eX2 eW2
  go_enter Try.func16, Try.ntmps16
  go_wp2_with (first | (go_at_call 14; rw [← EW.out]; refine (C1.out _ HG.out).mono ?_; rintro e w2 ⟨rfl, hk2⟩) | (go_at_call 32; refine (C2.out _ ((HG.out.keep hk2 (by simp)).keep (alloc_kept _ _) (by simp))).mono ?_; rintro e w3 ⟨rfl, hk3⟩; have HB := Hid.mk (((hk2.alloc _).trans hk3).heap hb1 (by simp)); obtain ⟨⟨z0, z1, z2, z3⟩, f0, f1, f2, f3⟩ := four HB.out))
  have s4 := set4 (.int .i64 X2) (.int .i64 Y) (.int .i64 W2) (.int .i64 h') HB.out
  refine bodyPost_ret (v := .tuple #[rcv X2 Y W2 h', .int .i64 0]) ?_ rfl ⟨rfl, ((hk1.trans (hk2.alloc _)).trans hk3).step s4.2 (fun x hx => by simp at hx; subst hx; exact .inr (by omega))⟩
  exact results_two rfl _ _ w.heap.size 34 _ (0, 0) _ _ rfl s4.1 Try.underlying34 Try.info51 rfl

set_option maxHeartbeats 8000000 in
set_option maxRecDepth 1000000 in
theorem tpart_noP (P : Nat) (W H D sw sh c r k p : Int) (A : Bool) (w : World) (hg : Gr w P W H D A sw sh c r) (g : Gd W H sw sh c r) (hs : Shp W H D A) (k0 : 0 ≤ k) (k1 : k < c * r) (hp : ¬ prt p A) :
    Calls Try.prog 16 #[.pointer (some ⟨P, 0, none⟩), .int .i64 k, .int .i64 p] w fun e w' => e = .returned (.tuple #[rcv 0 0 0 0, .int .i64 82]) ∧ Kept [] w w' := by
  obtain ⟨w1, ew1, hk1, hb1⟩ := one_new w #[.int .i64 0, .int .i64 0, .int .i64 0, .int .i64 0] 34
  have EW := Hid.mk ew1
  have HG := Hid.mk (hg.keep hk1 (by simp))
  have C1 := Hid.mk (fun u (h : Gr u P W H D A sw sh c r) => trect_ok P W H D sw sh c r k A u h g k0 k1)
  have hx := sX_in g k
  have hy := sY_in g k0 k1
  have C2 := Hid.mk (fun u (h : Gr u P W H D A sw sh c r) => tbelongs_no P W H D sw sh c r p (sX c sw k) (sY c sh k) (min sw (W - sX c sw k)) (min sh (H - sY c sh k)) A u h hs (by have := g.w1; omega) (by have := g.h1; omega) hp)
  clear ew1 hg g hs hp hx hy
  unfold sR at C1
  obtain ⟨X, eX⟩ : ∃ X, X = sX c sw k := ⟨_, rfl⟩
  obtain ⟨Y, eY⟩ : ∃ Y, Y = sY c sh k := ⟨_, rfl⟩
  obtain ⟨w', eW⟩ : ∃ X', X' = min sw (W - X) := ⟨_, rfl⟩
  obtain ⟨h', eH⟩ : ∃ X', X' = min sh (H - Y) := ⟨_, rfl⟩
  simp only [← eX, ← eY, ← eW, ← eH] at C1 C2 ⊢
  clear eX eY eW eH
  go_enter Try.func16, Try.ntmps16
  go_wp2_with (first | (go_at_call 14; rw [← EW.out]; refine (C1.out _ HG.out).mono ?_; rintro e w2 ⟨rfl, hk2⟩) | (go_at_call 32; refine (C2.out _ ((HG.out.keep hk2 (by simp)).keep (alloc_kept _ _) (by simp))).mono ?_; rintro e w3 ⟨rfl, hk3⟩; have HB := Hid.mk (((hk2.alloc _).trans hk3).heap hb1 (by simp)); obtain ⟨⟨z0, z1, z2, z3⟩, f0, f1, f2, f3⟩ := four HB.out))
  have s4 := set4 (.int .i64 0) (.int .i64 0) (.int .i64 0) (.int .i64 0) HB.out
  refine bodyPost_ret (v := .tuple #[rcv 0 0 0 0, .int .i64 82]) ?_ rfl ⟨rfl, ((hk1.trans (hk2.alloc _)).trans hk3).step s4.2 (fun x hx => by simp at hx; subst hx; exact .inr (by omega))⟩
  exact results_two rfl _ _ w.heap.size 34 _ (0, 0) _ _ rfl s4.1 Try.underlying34 Try.info51 rfl

set_option maxHeartbeats 8000000 in
set_option maxRecDepth 1000000 in
theorem tpart_noK (P : Nat) (W H D sw sh c r k p : Int) (A : Bool) (w : World) (hg : Gr w P W H D A sw sh c r) (g : Gd W H sw sh c r) (kn : k < 0 ∨ c * r ≤ k) :
    Calls Try.prog 16 #[.pointer (some ⟨P, 0, none⟩), .int .i64 k, .int .i64 p] w fun e w' => e = .returned (.tuple #[rcv 0 0 0 0, .int .i64 82]) ∧ Kept [] w w' := by
  obtain ⟨w1, ew1, hk1, hb1⟩ := one_new w #[.int .i64 0, .int .i64 0, .int .i64 0, .int .i64 0] 34
  have EW := Hid.mk ew1
  have HG := Hid.mk (hg.keep hk1 (by simp))
  have C1 := Hid.mk (fun u (h : Gr u P W H D A sw sh c r) => trect_no P W H D sw sh c r k A u h g kn)
  clear ew1 hg g kn
  go_enter Try.func16, Try.ntmps16
  go_wp2_with (first | (go_at_call 14; rw [← EW.out]; refine (C1.out _ HG.out).mono ?_; rintro e w2 ⟨rfl, hk2⟩; have HB := Hid.mk ((hk2.alloc (.cells #[.int .i64 0, .int .i64 0, .int .i64 0, .int .i64 0] 34 (0, 0))).heap hb1 (by simp)); obtain ⟨⟨z0, z1, z2, z3⟩, f0, f1, f2, f3⟩ := four HB.out))
  have s4 := set4 (.int .i64 0) (.int .i64 0) (.int .i64 0) (.int .i64 0) HB.out
  refine bodyPost_ret (v := .tuple #[rcv 0 0 0 0, .int .i64 82]) ?_ rfl ⟨rfl, (hk1.trans (hk2.alloc _)).step s4.2 (fun x hx => by simp at hx; subst hx; exact .inr (by omega))⟩
  exact results_two rfl _ _ w.heap.size 34 _ (0, 0) _ _ rfl s4.1 Try.underlying34 Try.info51 rfl
end Go.Proofs.Ytkjhegedkamjaaa
