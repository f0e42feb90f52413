import Derived.Test.YtkjhegedkamjaaaT4
namespace Go.Proofs.Ytkjhegedkamjaaa
open Go.RowKit

/-- New's error. -/
def nwE (W H D sw sh : Int) (A : Bool) : Int := if shE W H D A = 0 then (if (16 ≤ sw ∧ sw ≤ 4096) ∧ sw % 2 = 0 ∧ (16 ≤ sh ∧ sh ≤ 4096) then 0 else 81) else 61

set_option maxHeartbeats 8000000 in
set_option maxRecDepth 1000000 in
theorem tnew_ok (W H D sw sh : Int) (A : Bool) (w : World) (hs : Shp W H D A) (s0 : 16 ≤ sw) (s1 : sw ≤ 4096) (se : sw % 2 = 0) (t0 : 16 ≤ sh) (t1 : sh ≤ 4096) :
    Calls Try.prog 10 #[shv W H D A, .int .i64 sw, .int .i64 sh] w fun e w' => ∃ P, e = .returned (.tuple #[.pointer (some ⟨P, 0, none⟩), .int .i64 0]) ∧ Kept [] w w' ∧ w.heap.size ≤ P ∧ Gr w' P W H D A sw sh (cl W sw) (cl H sh) := by
  obtain ⟨w1, ew1, hk1, hb1⟩ := one_new w #[.int .i64 W, .int .i64 H, .int .i64 D, .bool A] 32
  have EW := Hid.mk ew1
  have HB := Hid.mk hb1
  have C1 := Hid.mk (fun u => shaped_any W H D A u)
  rw [shE_ok hs] at C1
  have C2 := Hid.mk (fun u => tsided_any sw u)
  rw [decide_eq_true (⟨s0, s1⟩ : 16 ≤ sw ∧ sw ≤ 4096)] at C2
  have C3 := Hid.mk (fun u => tsided_any sh u)
  rw [decide_eq_true (⟨t0, t1⟩ : 16 ≤ sh ∧ sh ≤ 4096)] at C3
  have C4 := Hid.mk (fun u => parts_any W sw u hs.1.1 hs.1.2 s0 s1)
  have C5 := Hid.mk (fun u => parts_any H sh u hs.2.1.1 hs.2.1.2 t0 t1)
  have se2 : sw.tmod 2 = 0 := by rw [Int.tmod_eq_emod_of_nonneg (by omega)]; exact se
  obtain ⟨c, ec⟩ : ∃ c, c = cl W sw := ⟨_, rfl⟩
  obtain ⟨r, er⟩ : ∃ c, c = cl H sh := ⟨_, rfl⟩
  simp only [← ec, ← er] at C4 C5 ⊢
  clear ew1 hb1 hs s1 t1 ec er
  go_enter Try.func10, Try.ntmps10
  go_wp2_with (first | (go_at_call 26; rw [← EW.out]; refine (C1.out _).mono ?_; rintro e w2 ⟨rfl, hk2⟩; replace HB := Hid.mk (hk2.heap HB.out (by simp)); obtain ⟨⟨c0, c1, c2, c3⟩, _⟩ := four HB.out) | (go_at_call_of 27 sw; refine (C2.out _).mono ?_; rintro e w3 ⟨rfl, hw⟩; obtain rfl := hw.symm) | (go_at_call_of 27 sh; refine (C3.out _).mono ?_; rintro e w3 ⟨rfl, hw⟩; obtain rfl := hw.symm))
  obtain ⟨b, eb⟩ : ∃ b, b = w.heap.size := ⟨_, rfl⟩
  rw [← eb] at HB c0 c1 c2 c3 ⊢
  have HEB := Hid.mk eb
  clear eb EW
  have HKK := Hid.mk (show ∀ u, Kept [] w2 u → u.cell? ⟨b, 0, none⟩ = some (.int .i64 W) ∧ u.cell? ⟨b, 1, none⟩ = some (.int .i64 H) ∧ u.cell? ⟨b, 2, none⟩ = some (.int .i64 D) ∧ u.cell? ⟨b, 3, none⟩ = some (.bool A) from fun u h => ⟨cell_keep h c0 (by simp), cell_keep h c1 (by simp), cell_keep h c2 (by simp), cell_keep h c3 (by simp)⟩)
  go_region_held_law (fun u => u.cell? ⟨b, 0, none⟩ = some (.int .i64 W) ∧ u.cell? ⟨b, 1, none⟩ = some (.int .i64 H) ∧ u.cell? ⟨b, 2, none⟩ = some (.int .i64 D) ∧ u.cell? ⟨b, 3, none⟩ = some (.bool A)) (first | exact HKK.out _ (Kept.refl _ _) | (refine HKK.out _ ?_; repeat' (first | exact Kept.refl _ _ | refine Kept.drew ?_ | refine Kept.alloc ?_ _))) (first | (go_at_call_of 28 W; refine (C4.out _).mono ?_; rintro e w3 ⟨rfl, hw⟩; obtain rfl := hw.symm) | (go_at_call_of 28 H; refine (C5.out _).mono ?_; rintro e w3 ⟨rfl, hw⟩; obtain rfl := hw.symm))
  go_wp2
  go_ret2
  have h9 := (hk1.trans hk2).size
  exact ⟨w2.heap.size, rfl, ((hk1.trans hk2).alloc _).drew, h9, heap_alloc_new _ _⟩
end Go.Proofs.Ytkjhegedkamjaaa
