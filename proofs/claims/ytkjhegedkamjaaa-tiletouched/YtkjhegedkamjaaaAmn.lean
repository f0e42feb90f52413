import Derived.Test.YtkjhegedkamjaaaAm
import Derived.Test.YtkjhegedkamjaaaT7n
namespace Go.Proofs.Ytkjhegedkamjaaa
open Go.RowKit

set_option maxHeartbeats 8000000 in
set_option maxRecDepth 1000000 in
theorem tall_new (P : Nat) (W H D sw sh c r : Int) (A : Bool) (w : World) (hg : Gr w P W H D A sw sh c r) (g : Gd W H sw sh c r) :
    Calls Try.prog 18 #[.pointer (some ⟨P, 0, none⟩)] w fun e w' => ∃ f1 g1 b1 b2 b3 b4, (w.heap.size ≤ f1 ∧ w.heap.size ≤ g1 ∧ w.heap.size ≤ b1 ∧ w.heap.size ≤ b2 ∧ w.heap.size ≤ b3 ∧ w.heap.size ≤ b4) ∧ e = .returned (.func (.func 35) #[] #[.pointer (some ⟨f1, 0, none⟩), .pointer (some ⟨g1, 0, none⟩)]) ∧ Kept [] w w' ∧ w'.cell? ⟨f1, 0, none⟩ = some (clw b1 b2 b3 b4) ∧ w'.cell? ⟨g1, 0, none⟩ = some (.pointer (some ⟨P, 0, none⟩)) ∧ Cl w' b1 b2 b3 b4 P 0 (c * r - 1) (c - 1) := by
  obtain ⟨w1, ew1, hk1, hb1⟩ := one_new w #[.pointer (some ⟨P, 0, none⟩)] 45
  have EW := Hid.mk ew1
  have HG := Hid.mk (hg.keep hk1 (by simp))
  have hw0 := g.w0
  have hh0 := g.h0
  have C2 := Hid.mk (fun u (h : Gr u P W H D A sw sh c r) => ttouched_new P W H D sw sh c r 0 0 W H A u h g (by omega) (by omega) hw0 hh0 (by omega) (by omega))
  have e1 : sA c sw sh 0 0 = 0 := by unfold sA; simp
  have e2 : (0 + W - 1) / sw = c - 1 := by
    have := (div_in' (x := 0 + W - 1) (s := sw) (a := c - 1) (by have := g.s0; omega)).1
    refine this ?_
    have h1 := g.cw
    have h2 := g.cx
    have h3 : c * sw = (c - 1) * sw + sw := by rw [Int.sub_mul]; omega
    omega
  have e3 : (0 + H - 1) / sh = r - 1 := by
    have := (div_in' (x := 0 + H - 1) (s := sh) (a := r - 1) (by have := g.t0; omega)).1
    refine this ?_
    have h1 := g.rh
    have h2 := g.rx
    have h3 : r * sh = (r - 1) * sh + sh := by rw [Int.sub_mul]; omega
    omega
  have e4 : sA c sw sh (0 + W - 1) (0 + H - 1) = c * r - 1 := by
    unfold sA; rw [e2, e3, Int.sub_mul, Int.mul_comm r c]; omega
  rw [e1, e4, e2, Int.zero_ediv, Int.sub_zero] at C2
  obtain ⟨l, el⟩ : ∃ l, l = c * r - 1 := ⟨_, rfl⟩
  obtain ⟨wd, ewd⟩ : ∃ l, l = c - 1 := ⟨_, rfl⟩
  simp only [← el, ← ewd] at C2 ⊢
  clear e1 e2 e3 e4 el ewd g hg ew1
  go_enter Try.func18, Try.ntmps18
  go_wp2
  rw [← EW.out]
  obtain ⟨b, eb⟩ : ∃ b, b = w.heap.size := ⟨_, rfl⟩
  rw [← eb] at hb1 ⊢
  have EB := Hid.mk eb
  clear EW eb
  have y0 := one_cell hb1
  obtain ⟨g0, g1, _, _, _, _, _, _⟩ := eight HG.out
  have HKK := Hid.mk (show ∀ u, Kept [] w1 u → u.cell? ⟨b, 0, none⟩ = some (.pointer (some ⟨P, 0, none⟩)) ∧ u.cell? ⟨P, 0, none⟩ = some (.int .i64 W) ∧ u.cell? ⟨P, 1, none⟩ = some (.int .i64 H) from fun u h => ⟨cell_keep h y0 (by simp), cell_keep h g0 (by simp), cell_keep h g1 (by simp)⟩)
  go_region_held_law (fun u => u.cell? ⟨b, 0, none⟩ = some (.pointer (some ⟨P, 0, none⟩)) ∧ u.cell? ⟨P, 0, none⟩ = some (.int .i64 W) ∧ u.cell? ⟨P, 1, none⟩ = some (.int .i64 H)) (first | exact HKK.out _ (Kept.refl _ _) | exact HKK.out _ hk2 | (refine HKK.out _ ?_; repeat' (first | exact hk2 | with_reducible exact Kept.refl _ _ | with_reducible refine Kept.drew ?_ | with_reducible refine Kept.alloc ?_ _ | with_reducible refine Kept.setCell ?_ (.inr (by simp)) _))) (first | (go_at_call 34; refine (C2.out _ (HG.out.keep (ks := []) (by repeat' (first | with_reducible exact Kept.refl _ _ | with_reducible refine Kept.drew ?_ | with_reducible refine Kept.alloc ?_ _)) (by simp))).mono ?_; rintro e w2 ⟨b1, b2, b3, b4, hnw0, rfl, hk0, hcl⟩; have hnw : Hid (w1.heap.size ≤ b1 ∧ w1.heap.size ≤ b2 ∧ w1.heap.size ≤ b3 ∧ w1.heap.size ≤ b4) := (Hid.mk (by simp at hnw0; omega)); clear hnw0; have hk2 : Kept [] w1 w2 := (by refine Kept.trans ?_ hk0; repeat' (first | with_reducible exact Kept.refl _ _ | with_reducible refine Kept.drew ?_ | with_reducible refine Kept.alloc ?_ _)); first | (have y8 := one_cell (hk0.heap (heap_alloc_new _ _) (by simp)); have hz := hk0.heap (heap_alloc_new _ _) (by simp); have y9 : w2.frozen? ⟨w1.heap.size, 0, none⟩ = false := (by unfold World.frozen?; rw [hz]; rfl)) | (have y8 := one_cell (hk0.undrew.heap (heap_alloc_new _ _) (by simp)); have hz := hk0.undrew.heap (heap_alloc_new _ _) (by simp); have y9 : w2.frozen? ⟨w1.heap.size, 0, none⟩ = false := (by unfold World.frozen?; rw [hz]; rfl)) | skip))
  · go_wp2
    go_ret
    exact ⟨w2.heap.size, b, b1, b2, b3, b4, by have := hnw.out; have := EB.out; have := hk1.size; have := hk2.size; omega, rfl, (hk1.trans hk2).alloc _, one_cell (heap_alloc_new _ _), cell_keep (hk2.alloc _) y0 (by simp), hcl.keep (alloc_kept _ _)⟩
  · have hks := (Kept.refl [w1.heap.size] w2).setCell (p := ⟨w1.heap.size, 0, none⟩) (.inl (by simp)) (clw b1 b2 b3 b4)
    have n1 : b1 ≠ w1.heap.size := fun h => by have h9 := hcl.1; rw [h, y8] at h9; cases h9
    have n2 : b2 ≠ w1.heap.size := fun h => by have h9 := hcl.2.1; rw [h, y8] at h9; cases h9
    have n3 : b3 ≠ w1.heap.size := fun h => by have h9 := hcl.2.2.1; rw [h, y8] at h9; cases h9
    have n4 : b4 ≠ w1.heap.size := fun h => by have h9 := hcl.2.2.2; rw [h, y8] at h9; cases h9
    have nb : b ≠ w1.heap.size := fun h => by have h9 := lt_of_block hb1; omega
    have hcl2 : Cl (w2.setCell ⟨w1.heap.size, 0, none⟩ (clw b1 b2 b3 b4)) b1 b2 b3 b4 P 0 l wd := ⟨cell_keep hks hcl.1 (by simpa using n1), cell_keep hks hcl.2.1 (by simpa using n2), cell_keep hks hcl.2.2.1 (by simpa using n3), cell_keep hks hcl.2.2.2 (by simpa using n4)⟩
    have hq := heap_setCell_at (i := 0) (u := clw b1 b2 b3 b4) hz
    have hy := cell_keep hks (cell_keep hk2 y0 (by simp)) (by simpa using nb)
    have HE := Hid.mk (And.intro hcl2 (And.intro hq hy))
    have HK := Hid.mk (hk1.trans (hk2.setCell (p := ⟨w1.heap.size, 0, none⟩) (.inr (Nat.le_refl _)) (clw b1 b2 b3 b4)))
    clear hks n1 n2 n3 n4 nb hcl2 hq hy
    go_wp2
    go_ret
    exact ⟨w1.heap.size, b, b1, b2, b3, b4, by have := hnw.out; have := EB.out; have := hk1.size; omega, rfl, HK.out, by rw [cell_of_row _ _ _ _ _ _ HE.out.2.1]; rfl, HE.out.2.2, HE.out.1⟩
end Go.Proofs.Ytkjhegedkamjaaa
