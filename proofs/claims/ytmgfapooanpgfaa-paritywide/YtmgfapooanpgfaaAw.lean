import Derived.Test.YtmgfapooanpgfaaRh
import Derived.Test.YtmgfapooanpgfaaSm
namespace Go.Proofs.Ytmgfapooanpgfaa
open Go.RowKit

theorem alloc_cell (w : World) (cs : Array Value) (t i : Nat) (v : Value) (h : cs[i]? = some v) : (w.alloc (.cells cs t)).cell? ⟨w.heap.size, i, none⟩ = some v := by
  rw [cell_of_row _ _ _ _ _ _ (heap_alloc_new w _)]; exact h
theorem alloc_kept (w : World) (o : Obj) : Kept [] w (w.alloc o) := (Kept.refl [] w).alloc o

theorem aw_mk : mk [[1, 0, 5], [2]] 0 0 = 212 ∧ mk [[1, 0, 5], [2]] 0 1 = 0 ∧ mk [[1, 0, 5], [2]] 0 2 = 180 ∧ mk [[1, 0, 5], [2]] 1 0 = 48 ∧ mk [[1, 0, 5], [2]] 1 1 = 0 ∧ mk [[1, 0, 5], [2]] 1 2 = 253 := by decide +kernel
theorem aw_row0 : rg (mk [[1, 0, 5], [2]] 0) 3 = [212, 0, 180] := by decide +kernel
theorem aw_row1 : rg (mk [[1, 0, 5], [2]] 1) 3 = [48, 0, 253] := by decide +kernel

/-- The example's rows. -/
theorem aw_mc (w : World) : MC (((w.alloc (.cells #[.int .u8 1, .int .u8 0, .int .u8 5] 5)).alloc (.cells #[.int .u8 2] 5)).alloc (.cells #[.slice (some ⟨w.heap.size, 0, none⟩) 3 3, .slice (some ⟨w.heap.size + 1, 0, none⟩) 1 1] 40)) (some ⟨w.heap.size + 1 + 1, 0, none⟩) [[1, 0, 5], [2]] := by
  have k3 := alloc_kept ((w.alloc (.cells #[.int .u8 1, .int .u8 0, .int .u8 5] 5)).alloc (.cells #[.int .u8 2] 5)) (.cells #[.slice (some ⟨w.heap.size, 0, none⟩) 3 3, .slice (some ⟨w.heap.size + 1, 0, none⟩) 1 1] 40)
  have k2 := alloc_kept (w.alloc (.cells #[.int .u8 1, .int .u8 0, .int .u8 5] 5)) (.cells #[.int .u8 2] 5)
  have s1 : (w.alloc (.cells #[.int .u8 1, .int .u8 0, .int .u8 5] 5)).heap.size = w.heap.size + 1 := World.size_alloc _ _
  have s2 : ((w.alloc (.cells #[.int .u8 1, .int .u8 0, .int .u8 5] 5)).alloc (.cells #[.int .u8 2] 5)).heap.size = w.heap.size + 1 + 1 := by rw [World.size_alloc, s1]
  refine .inr ⟨_, 0, rfl, fun i hi => ?_⟩
  match i, hi with
  | 0, _ =>
    refine ⟨_, 3, by rw [← s2]; exact alloc_cell _ _ _ 0 _ rfl, by decide, .inr ⟨_, 0, rfl, fun j hj => ?_⟩⟩
    have := alloc_cell w #[.int .u8 1, .int .u8 0, .int .u8 5] 5 j
    match j, hj with
    | 0, _ => exact cell_keep k3 (cell_keep k2 (this _ rfl) (by simp)) (by simp)
    | 1, _ => exact cell_keep k3 (cell_keep k2 (this _ rfl) (by simp)) (by simp)
    | 2, _ => exact cell_keep k3 (cell_keep k2 (this _ rfl) (by simp)) (by simp)
  | 1, _ =>
    refine ⟨_, 1, by rw [← s2]; exact alloc_cell _ _ _ 1 _ rfl, by decide, .inr ⟨_, 0, rfl, fun j hj => ?_⟩⟩
    have := alloc_cell (w.alloc (.cells #[.int .u8 1, .int .u8 0, .int .u8 5] 5)) #[.int .u8 2] 5 j
    rw [s1] at this
    match j, hj with
    | 0, _ => exact cell_keep k3 (this _ rfl) (by simp)

/-- The example's rows, lost. -/
def awW (w : World) : World := (((w.alloc (.cells #[.int .u8 7] 5)).alloc (.cells #[.slice (some ⟨w.heap.size, 0, none⟩) 1 1, .slice none 0 0] 40)).alloc (.cells #[.int .i64 3, .int .i64 1] 3)).alloc (.cells #[.int .i64 0, .int .i64 1] 3)
theorem aw_restore (w : World) (g1 B1 : Nat) (Z1 : Nat → Nat) (hct : Ct w g1 B1 2 (fun _ => 3) Z1) (hcn : Cn Z1 (fun _ => 3) 2 (mk [[1, 0, 5], [2]])) :
    Calls Try.prog 14 #[.slice (some ⟨w.heap.size + 1, 0, none⟩) 2 2, .slice (some ⟨w.heap.size + 1 + 1, 0, none⟩) 2 2, .slice (some ⟨g1, 0, none⟩) 2 2, .slice (some ⟨w.heap.size + 1 + 1 + 1, 0, none⟩) 2 2] (awW w) fun e w' => ∃ g B, e = .returned (.tuple #[.slice (some ⟨g, 0, none⟩) 4 4, .int .i64 0]) ∧ (w'.cell? ⟨g, 0, none⟩ = some (.slice (some ⟨B, 0, none⟩) 3 3) ∧ Reads w' (some ⟨B, 0, none⟩) [1, 0, 5]) ∧ (w'.cell? ⟨g, 1, none⟩ = some (.slice (some ⟨B, 3, none⟩) 1 1) ∧ Reads w' (some ⟨B, 3, none⟩) [2]) ∧ Kept [] w w' := by
  have s1 : (w.alloc (.cells #[.int .u8 7] 5)).heap.size = w.heap.size + 1 := World.size_alloc _ _
  have s2 : ((w.alloc (.cells #[.int .u8 7] 5)).alloc (.cells #[.slice (some ⟨w.heap.size, 0, none⟩) 1 1, .slice none 0 0] 40)).heap.size = w.heap.size + 1 + 1 := by rw [World.size_alloc, s1]
  have s3 : (((w.alloc (.cells #[.int .u8 7] 5)).alloc (.cells #[.slice (some ⟨w.heap.size, 0, none⟩) 1 1, .slice none 0 0] 40)).alloc (.cells #[.int .i64 3, .int .i64 1] 3)).heap.size = w.heap.size + 1 + 1 + 1 := by rw [World.size_alloc, s2]
  have k1 := alloc_kept w (.cells #[.int .u8 7] 5)
  have k2 := alloc_kept (w.alloc (.cells #[.int .u8 7] 5)) (.cells #[.slice (some ⟨w.heap.size, 0, none⟩) 1 1, .slice none 0 0] 40)
  have k3 := alloc_kept ((w.alloc (.cells #[.int .u8 7] 5)).alloc (.cells #[.slice (some ⟨w.heap.size, 0, none⟩) 1 1, .slice none 0 0] 40)) (.cells #[.int .i64 3, .int .i64 1] 3)
  have k4 : Kept [] _ (awW w) := alloc_kept (((w.alloc (.cells #[.int .u8 7] 5)).alloc (.cells #[.slice (some ⟨w.heap.size, 0, none⟩) 1 1, .slice none 0 0] 40)).alloc (.cells #[.int .i64 3, .int .i64 1] 3)) (.cells #[.int .i64 0, .int .i64 1] 3)
  have kk := ((k1.trans k2).trans k3).trans k4
  have c7 := alloc_cell w #[.int .u8 7] 5 0 _ rfl
  have r0 := alloc_cell (w.alloc (.cells #[.int .u8 7] 5)) #[.slice (some ⟨w.heap.size, 0, none⟩) 1 1, .slice none 0 0] 40 0 _ rfl
  have r1 := alloc_cell (w.alloc (.cells #[.int .u8 7] 5)) #[.slice (some ⟨w.heap.size, 0, none⟩) 1 1, .slice none 0 0] 40 1 _ rfl
  rw [s1] at r0 r1
  have z0 := alloc_cell ((w.alloc (.cells #[.int .u8 7] 5)).alloc (.cells #[.slice (some ⟨w.heap.size, 0, none⟩) 1 1, .slice none 0 0] 40)) #[.int .i64 3, .int .i64 1] 3 0 _ rfl
  have z1 := alloc_cell ((w.alloc (.cells #[.int .u8 7] 5)).alloc (.cells #[.slice (some ⟨w.heap.size, 0, none⟩) 1 1, .slice none 0 0] 40)) #[.int .i64 3, .int .i64 1] 3 1 _ rfl
  rw [s2] at z0 z1
  have l0 := alloc_cell (((w.alloc (.cells #[.int .u8 7] 5)).alloc (.cells #[.slice (some ⟨w.heap.size, 0, none⟩) 1 1, .slice none 0 0] 40)).alloc (.cells #[.int .i64 3, .int .i64 1] 3)) #[.int .i64 0, .int .i64 1] 3 0 _ rfl
  have l1 := alloc_cell (((w.alloc (.cells #[.int .u8 7] 5)).alloc (.cells #[.slice (some ⟨w.heap.size, 0, none⟩) 1 1, .slice none 0 0] 40)).alloc (.cells #[.int .i64 3, .int .i64 1] 3)) #[.int .i64 0, .int .i64 1] 3 1 _ rfl
  rw [s3] at l0 l1
  have hR : MC (awW w) (some ⟨w.heap.size + 1, 0, none⟩) [[7], []] := .inr ⟨_, 0, rfl, fun i hi => by
    match i, hi with
    | 0, _ => exact ⟨_, 1, cell_keep k4 (cell_keep k3 r0 (by simp)) (by simp), by decide, .inr ⟨_, 0, rfl, fun j hj => by
        match j, hj with
        | 0, _ => exact cell_keep k4 (cell_keep k3 (cell_keep k2 c7 (by simp)) (by simp)) (by simp)⟩⟩
    | 1, _ => exact ⟨none, 0, cell_keep k4 (cell_keep k3 r1 (by simp)) (by simp), by decide, .inl rfl⟩⟩
  have hM := (hct.mc hcn).keep kk
  have bM : Bm (cl (mk [[1, 0, 5], [2]]) (fun _ => 3) 2) := by
    intro r hr
    simp only [cl, List.mem_map, List.mem_range] at hr
    obtain ⟨i, _, rfl⟩ := hr
    exact rg_byts (fun _ _ => mk_lt _ _ _)
  refine (restore_back _ _ _ _ 2 2 2 2 2 2 2 [[1, 0, 5], [2]] [[7], []] (cl (mk [[1, 0, 5], [2]]) (fun _ => 3) 2) (fun i => if i = 0 then 3 else 1) (fun i => i) (awW w) hR hM (by intro r hr; simp at hr; rcases hr with rfl | rfl <;> (intro b hb; simp at hb; try omega)) bM rfl (cl_length _ _ _) (by omega) (by omega) (by simp) (by simp) (by simp)
    (.inr ⟨_, 0, rfl, fun i hi => by
      match i, hi with
      | 0, _ => exact cell_keep k4 z0 (by simp)
      | 1, _ => exact cell_keep k4 z1 (by simp)⟩)
    (fun i => by split <;> omega)
    (.inr ⟨_, 0, rfl, fun i hi => by
      match i, hi with
      | 0, _ => exact l0
      | 1, _ => exact l1⟩)
    (fun i hi => by omega) (by omega) rfl (by intro r hr; simp at hr; rcases hr with rfl | rfl <;> (intro b hb; simp at hb; omega)) (fun j hj => by match j, hj with | 0, _ => rfl | 1, _ => rfl) (fun j hj hg => by match j, hj with | 0, _ => exact absurd hg (by decide) | 1, _ => exact absurd hg (by decide)) (fun i hi _ => by rw [cl_getD _ _ _ _ hi]; rfl) (by decide)).mono ?_
  rintro e w' ⟨g, B, Z, he, h1, h2, _, _, _, h7⟩
  have q0 := h1.at h2 (k := 0) (by omega)
  have q1 := h1.at h2 (k := 1) (by omega)
  exact ⟨g, B, he, q0, q1, kk.trans h7⟩

theorem aw_facts {w1 w2 : World} {g1 B1 : Nat} {Z1 : Nat → Nat} (hct : Ct w1 g1 B1 2 (fun _ => 3) Z1) (hcn : Cn Z1 (fun _ => 3) 2 (mk [[1, 0, 5], [2]])) (hk : Kept [] w1 w2) :
    w2.cell? ⟨g1, 0, none⟩ = some (.slice (some ⟨B1, 0, none⟩) 3 3) ∧ w2.cell? ⟨g1, 1, none⟩ = some (.slice (some ⟨B1, 3, none⟩) 3 3) ∧ Sem.run Try.prog (convert 40 9 (.slice (some ⟨B1, 0, none⟩) 3 3)) w2 = .ok (.string (bstr [212, 0, 180])) w2 ∧ Sem.run Try.prog (convert 40 9 (.slice (some ⟨B1, 3, none⟩) 3 3)) w2 = .ok (.string (bstr [48, 0, 253])) w2 := by
  have q0 := hct.at hcn (k := 0) (by omega)
  have q1 := hct.at hcn (k := 1) (by omega)
  have r0 := q0.2.keep hk
  have r1 := q1.2.keep hk
  rw [aw_row0] at r0
  rw [aw_row1] at r1
  exact ⟨cell_keep hk q0.1 (by simp), cell_keep hk q1.1 (by simp), reads_str r0 3, reads_str r1 3⟩

set_option maxHeartbeats 8000000 in
set_option maxRecDepth 1000000 in
theorem awake_any (w : World) :
    Calls Try.prog 8 #[] w fun e w' => e = .returned (.bool true) ∧ Kept [] w w' := by
  have C1 : Hid (Calls Try.prog 13 #[.slice (some ⟨w.heap.size + 1 + 1, 0, none⟩) 2 2, .int .i64 2] (((w.alloc (.cells #[.int .u8 1, .int .u8 0, .int .u8 5] 5)).alloc (.cells #[.int .u8 2] 5)).alloc (.cells #[.slice (some ⟨w.heap.size, 0, none⟩) 3 3, .slice (some ⟨w.heap.size + 1, 0, none⟩) 1 1] 40)) fun e w' => ∃ g B Z, e = .returned (.tuple #[.slice (some ⟨g, 0, none⟩) 2 2, .int .i64 0]) ∧ Ct w' g B 2 (fun _ => 3) Z ∧ Cn Z (fun _ => 3) 2 (mk [[1, 0, 5], [2]]) ∧ Kept [] w w') := Hid.mk (by
    refine (make_any _ 2 2 2 [[1, 0, 5], [2]] _ (aw_mc w) (by intro r hr; simp at hr; rcases hr with rfl | rfl <;> (intro b hb; simp at hb; omega)) rfl (by omega) (by omega) (fun j hj => by match j, hj with | 0, _ => decide | 1, _ => decide)).mono ?_
    intro e w' h
    unfold MkPost at h
    rw [if_pos (by decide)] at h
    obtain ⟨g, B, Z, h1, h2, h3, _, _, _, h7⟩ := h
    exact ⟨g, B, Z, h1, h2, h3, (((alloc_kept _ _).trans (alloc_kept _ _)).trans (alloc_kept _ _)).trans h7⟩)
  have t1 : ((bstr [212, 0, 180]).toList == [212, 0, 180]) = true := by decide +kernel
  have t2 : ((bstr [48, 0, 253]).toList == [48, 0, 253]) = true := by decide +kernel
  have t3 : ((bstr [1, 0, 5]).toList == [1, 0, 5]) = true := by decide +kernel
  have t4 : ((bstr [2]).toList == [2]) = true := by decide +kernel
  go_enter Try.func8, Try.ntmps8
  go_wp2_with (first | (go_at_call 13; refine C1.out.mono ?_; rintro e w1 ⟨g1, B1, Z1, rfl, hct1, hcn1, hk1⟩) | (go_at_call 14; refine (aw_restore _ _ _ _ hct1 hcn1).mono ?_; rintro e w2 ⟨g2, B2, rfl, ⟨c20, r20⟩, ⟨c21, r21⟩, hk2⟩; obtain ⟨c10, c11, e10, e11⟩ := aw_facts hct1 hcn1 hk2; have e20 : Sem.run Try.prog (convert 40 9 (.slice (some ⟨B2, 0, none⟩) 3 3)) w2 = .ok (.string (bstr [1, 0, 5])) w2 := reads_str r20 3; have e21 : Sem.run Try.prog (convert 40 9 (.slice (some ⟨B2, 3, none⟩) 1 1)) w2 = .ok (.string (bstr [2])) w2 := reads_str r21 1; clear r20 r21 hct1 hcn1))
  go_ret
  exact ⟨rfl, hk1.trans hk2⟩
end Go.Proofs.Ytmgfapooanpgfaa
