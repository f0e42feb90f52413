import Derived.Test.YtodlkpcbkilglaaDoorSz
namespace Go.Proofs.YtodlkpcbkilglaaDoor
open Go.RowKit Go.Shelf

set_option maxHeartbeats 8000000 in
set_option maxRecDepth 1000000 in
theorem planarSize_any (W H D : Int) (A : Bool) (w : World) :
    Calls Tryd.prog 10 #[shv W H D A] w fun e w' => e = .returned (.tuple #[.int .i64 (if shE W H D A = 0 ∧ true = true then sS W H (fun x => 2 * x) (fun i => i) (np A) else 0), .int .i64 (if shE W H D A = 0 then (if true = true then 0 else 71) else 61)]) ∧ Kept [] w w' := by
  have C1 := Hid.mk (fun u => planar_any u)
  have C2 := Hid.mk (fun u => sizeP W H D A u)
  obtain ⟨r, er⟩ : ∃ r, r = (if shE W H D A = 0 ∧ true = true then sS W H (fun x => 2 * x) (fun i => i) (np A) else 0) := ⟨_, rfl⟩
  obtain ⟨t, et⟩ : ∃ t : Int, t = (if shE W H D A = 0 then (if true = true then 0 else 71) else 61) := ⟨_, rfl⟩
  rw [← er, ← et] at C2 ⊢
  clear er et
  have hS := Sat.new w W H D A 24
  have hk0 := alloc_kept w (.cells #[.int .i64 W, .int .i64 H, .int .i64 D, .bool A] 24)
  obtain ⟨wa, ewa⟩ : ∃ wa, wa = w.alloc (.cells #[.int .i64 W, .int .i64 H, .int .i64 D, .bool A] 24) := ⟨_, rfl⟩
  rw [← ewa] at hS hk0
  obtain ⟨q0, q1, q2, q3⟩ := hS
  have QS := Hid.mk (Sat.mk q0 q1 q2 q3)
  have HK := Hid.mk hk0
  clear hk0
  go_enter Tryd.func10, Tryd.ntmps10
  go_wp2
  rw [← ewa]
  clear ewa
  obtain ⟨b, eb⟩ : ∃ b, b = w.heap.size := ⟨_, rfl⟩
  rw [← eb] at QS q0 q1 q2 q3 ⊢
  clear eb
  go_region_held_law (fun w' => w'.cell? ⟨b, 0, none⟩ = some (.int .i64 W) ∧ w'.cell? ⟨b, 1, none⟩ = some (.int .i64 H) ∧ w'.cell? ⟨b, 2, none⟩ = some (.int .i64 D) ∧ w'.cell? ⟨b, 3, none⟩ = some (.bool A)) (first | exact ⟨q0, q1, q2, q3⟩ | exact ⟨z0, z1, z2, z3⟩ | exact ⟨y0, y1, y2, y3⟩ | go_keep) (first | (go_at_call 35; refine (C1.out _).mono ?_; rintro e w1 ⟨rfl, hk1⟩; obtain ⟨z0, z1, z2, z3⟩ := QS.out.keep hk1.undrew (by simp)) | (go_at_call 36; refine (C2.out _).mono ?_; rintro e w2 ⟨rfl, hk2⟩; obtain ⟨y0, y1, y2, y3⟩ := QS.out.keep (hk1.undrew.trans hk2) (by simp)))
  all_goals go_wp2
  all_goals go_ret2
  all_goals exact ⟨rfl, (HK.out.trans hk1.undrew).trans hk2⟩

set_option maxHeartbeats 8000000 in
set_option maxRecDepth 1000000 in
theorem v210Size_any (W H D : Int) (A : Bool) (w : World) :
    Calls Tryd.prog 12 #[shv W H D A] w fun e w' => e = .returned (.tuple #[.int .i64 (if shE W H D A = 0 ∧ (decide (D = 10) && !A) = true then sS W H (fun x => (x + 47) / 48 * 128) (fun _ => 0) 1 else 0), .int .i64 (if shE W H D A = 0 then (if (decide (D = 10) && !A) = true then 0 else 71) else 61)]) ∧ Kept [] w w' := by
  have C1 := Hid.mk (fun u => v210_any u)
  have C2 := Hid.mk (fun u => sizeV W H D A u)
  obtain ⟨r, er⟩ : ∃ r, r = (if shE W H D A = 0 ∧ (decide (D = 10) && !A) = true then sS W H (fun x => (x + 47) / 48 * 128) (fun _ => 0) 1 else 0) := ⟨_, rfl⟩
  obtain ⟨t, et⟩ : ∃ t : Int, t = (if shE W H D A = 0 then (if (decide (D = 10) && !A) = true then 0 else 71) else 61) := ⟨_, rfl⟩
  rw [← er, ← et] at C2 ⊢
  clear er et
  have hS := Sat.new w W H D A 24
  have hk0 := alloc_kept w (.cells #[.int .i64 W, .int .i64 H, .int .i64 D, .bool A] 24)
  obtain ⟨wa, ewa⟩ : ∃ wa, wa = w.alloc (.cells #[.int .i64 W, .int .i64 H, .int .i64 D, .bool A] 24) := ⟨_, rfl⟩
  rw [← ewa] at hS hk0
  obtain ⟨q0, q1, q2, q3⟩ := hS
  have QS := Hid.mk (Sat.mk q0 q1 q2 q3)
  have HK := Hid.mk hk0
  clear hk0
  go_enter Tryd.func12, Tryd.ntmps12
  go_wp2
  rw [← ewa]
  clear ewa
  obtain ⟨b, eb⟩ : ∃ b, b = w.heap.size := ⟨_, rfl⟩
  rw [← eb] at QS q0 q1 q2 q3 ⊢
  clear eb
  go_region_held_law (fun w' => w'.cell? ⟨b, 0, none⟩ = some (.int .i64 W) ∧ w'.cell? ⟨b, 1, none⟩ = some (.int .i64 H) ∧ w'.cell? ⟨b, 2, none⟩ = some (.int .i64 D) ∧ w'.cell? ⟨b, 3, none⟩ = some (.bool A)) (first | exact ⟨q0, q1, q2, q3⟩ | exact ⟨z0, z1, z2, z3⟩ | exact ⟨y0, y1, y2, y3⟩ | go_keep) (first | (go_at_call 38; refine (C1.out _).mono ?_; rintro e w1 ⟨rfl, hk1⟩; obtain ⟨z0, z1, z2, z3⟩ := QS.out.keep hk1.undrew (by simp)) | (go_at_call 36; refine (C2.out _).mono ?_; rintro e w2 ⟨rfl, hk2⟩; obtain ⟨y0, y1, y2, y3⟩ := QS.out.keep (hk1.undrew.trans hk2) (by simp)))
  all_goals go_wp2
  all_goals go_ret2
  all_goals exact ⟨rfl, (HK.out.trans hk1.undrew).trans hk2⟩
end Go.Proofs.YtodlkpcbkilglaaDoor
