import Derived.Test.YtodlkpcbkilglaaDoorPr
namespace Go.Proofs.YtodlkpcbkilglaaDoor
open Go.RowKit Go.Shelf

set_option maxHeartbeats 4000000 in
set_option maxRecDepth 1000000 in
/-- rows: a function that holds the format and the frame. -/
theorem rows_any (a1 a2 a3 a4 a5 : Nat) (W H D : Int) (A : Bool) (po : Option Addr) (n c : Nat) (w : World) :
    Calls Tryd.prog 72 #[fmv a1 a2 a3 a4 a5, frv W H D A po n c] w fun e w' => e = .returned (.func (.func 93) #[] #[.pointer (some ⟨w.heap.size, 0, none⟩), .pointer (some ⟨w.heap.size + 1, 0, none⟩)]) ∧ w' = (w.alloc (.cells #[fnv a1, fnv a2, fnv a3, fnv a4, fnv a5] 65)).alloc (.cells #[.int .i64 W, .int .i64 H, .int .i64 D, .bool A, .slice po n c] 31) := by
  go_enter Tryd.func72, Tryd.ntmps72
  go_wp2
  go_ret
  exact ⟨rfl, rfl⟩

/-- The samples of the frame of example 1. -/
def tnF (i : Nat) : Nat := if i = 0 then 1 else if i = 1 then 2 else 769
set_option maxHeartbeats 4000000 in
set_option maxRecDepth 1000000 in
theorem tiny_any (w : World) :
    Calls Tryd.prog 17 #[] w fun e w' => ∃ g, e = .returned (frv 1 1 10 false (some ⟨g, 0, none⟩) 3 3) ∧ (∀ i, i < 3 → ∃ b, w'.cell? ⟨g, i, none⟩ = some (.slice (some ⟨b, 0, none⟩) 1 1) ∧ w'.cell? ⟨b, 0, none⟩ = some (.int .u16 (tnF i : Int))) ∧ Kept [] w w' := by
  go_enter Tryd.func17, Tryd.ntmps17
  go_wp2
  have k1 := alloc_kept w (.cells #[.int .i64 1, .int .i64 1, .int .i64 10, .bool false, .slice (some ⟨w.heap.size + 1 + 1 + 1 + 1, 0, none⟩) 3 3] 31)
  have k2 := alloc_kept (w.alloc (.cells #[.int .i64 1, .int .i64 1, .int .i64 10, .bool false, .slice (some ⟨w.heap.size + 1 + 1 + 1 + 1, 0, none⟩) 3 3] 31)) (.cells #[.int .u16 1] 70)
  have kk := (k2.trans (alloc_kept _ (.cells #[.int .u16 2] 70))).trans ((alloc_kept _ (.cells #[.int .u16 769] 70)).trans (alloc_kept _ (.cells #[.slice (some ⟨w.heap.size + 1, 0, none⟩) 1 1, .slice (some ⟨w.heap.size + 1 + 1, 0, none⟩) 1 1, .slice (some ⟨w.heap.size + 1 + 1 + 1, 0, none⟩) 1 1] 68)))
  have hR := kk.heap (heap_alloc_new w (.cells #[.int .i64 1, .int .i64 1, .int .i64 10, .bool false, .slice (some ⟨w.heap.size + 1 + 1 + 1 + 1, 0, none⟩) 3 3] 31)) (by simp)
  refine bodyPost_ret (v := frv 1 1 10 false (some ⟨w.heap.size + 1 + 1 + 1 + 1, 0, none⟩) 3 3) ?_ rfl ⟨_, rfl, fun i hi => ?_, k1.trans kk⟩
  · exact results_cell_row rfl _ _ w.heap.size 31 _ (0, 0) _ rfl hR Tryd.underlying31 rfl Tryd.info38
  · rcases (by omega : i = 0 ∨ i = 1 ∨ i = 2) with rfl | rfl | rfl
    · refine ⟨w.heap.size + 1, by go_simp, ?_⟩
      show World.cell? _ _ = some (.int .u16 1)
      go_simp
    · refine ⟨w.heap.size + 1 + 1, by go_simp, ?_⟩
      show World.cell? _ _ = some (.int .u16 2)
      go_simp
    · refine ⟨w.heap.size + 1 + 1 + 1, by go_simp, ?_⟩
      show World.cell? _ _ = some (.int .u16 769)
      go_simp
end Go.Proofs.YtodlkpcbkilglaaDoor
