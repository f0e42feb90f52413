import Derived.Test.YtodlkpcbkilglaaDoorAlZ
namespace Go.Proofs.YtodlkpcbkilglaaDoor
open Go.RowKit Go.Shelf

set_option maxHeartbeats 8000000 in
set_option maxRecDepth 1000000 in
theorem Pack_of_planar (W H D : Int) (A : Bool) (po : Option Addr) (n c : Nat) (w : World) (Q : World → Option Addr → Nat → Nat → Int → World → Prop)
    (C : ∀ u, Kept [] w u → Calls Tryd.prog 42 #[fmv 58 59 60 61 62, frv W H D A po n c] u fun e w' => ∃ a m k z, e = .returned (.tuple #[.slice a m k, .int .i64 z]) ∧ Kept [] u w' ∧ Q u a m k z w') :
    Calls Tryd.prog 15 #[frv W H D A po n c] w fun e w' => ∃ u a m k z, Kept [] w u ∧ e = .returned (.tuple #[.slice a m k, .int .i64 z]) ∧ Kept [] u w' ∧ Q u a m k z w' := by
  have C1 := Hid.mk (fun u => planar_any u)
  have C2 := Hid.mk C
  clear C
  have hF := Fat.new w W H D A (.slice po n c) 31
  have hk0 := alloc_kept w (.cells #[.int .i64 W, .int .i64 H, .int .i64 D, .bool A, .slice po n c] 31)
  obtain ⟨wa, ewa⟩ : ∃ wa, wa = w.alloc (.cells #[.int .i64 W, .int .i64 H, .int .i64 D, .bool A, .slice po n c] 31) := ⟨_, rfl⟩
  rw [← ewa] at hF hk0
  obtain ⟨q0, q1, q2, q3, q4⟩ := hF
  have QS := Hid.mk (Fat.mk q0 q1 q2 q3 q4)
  have HK := Hid.mk hk0
  clear hk0
  go_enter Tryd.func15, Tryd.ntmps15
  go_wp2
  rw [← ewa]
  clear ewa
  obtain ⟨b, eb⟩ : ∃ b, b = w.heap.size := ⟨_, rfl⟩
  rw [← eb] at QS q0 q1 q2 q3 q4 ⊢
  clear eb
  go_region_held_law (fun w' => w'.cell? ⟨b, 0, none⟩ = some (.int .i64 W) ∧ w'.cell? ⟨b, 1, none⟩ = some (.int .i64 H) ∧ w'.cell? ⟨b, 2, none⟩ = some (.int .i64 D) ∧ w'.cell? ⟨b, 3, none⟩ = some (.bool A) ∧ w'.cell? ⟨b, 4, none⟩ = some (.slice po n c)) (first | exact ⟨q0, q1, q2, q3, q4⟩ | exact ⟨z0, z1, z2, z3, z4⟩ | exact ⟨y0, y1, y2, y3, y4⟩ | go_keep) (first | (go_at_call 35; refine (C1.out _).mono ?_; rintro e w1 ⟨rfl, hk1⟩; obtain ⟨z0, z1, z2, z3, z4⟩ := QS.out.keep hk1.undrew (by simp)) | (go_at_call 42; refine (C2.out _ (HK.out.trans hk1.undrew)).mono ?_; rintro e w2 ⟨a, m, k, z, rfl, hk2, hq⟩; obtain ⟨y0, y1, y2, y3, y4⟩ := QS.out.keep (hk1.undrew.trans hk2) (by simp); have HO := Hid.mk hq; clear hq))
  all_goals go_wp2
  all_goals go_ret2
  all_goals exact ⟨_, a, m, k, z, HK.out.trans hk1.undrew, rfl, hk2, HO.out⟩

set_option maxHeartbeats 8000000 in
set_option maxRecDepth 1000000 in
theorem Pack_of_v210 (W H D : Int) (A : Bool) (po : Option Addr) (n c : Nat) (w : World) (Q : World → Option Addr → Nat → Nat → Int → World → Prop)
    (C : ∀ u, Kept [] w u → Calls Tryd.prog 42 #[fmv 66 67 68 69 70, frv W H D A po n c] u fun e w' => ∃ a m k z, e = .returned (.tuple #[.slice a m k, .int .i64 z]) ∧ Kept [] u w' ∧ Q u a m k z w') :
    Calls Tryd.prog 16 #[frv W H D A po n c] w fun e w' => ∃ u a m k z, Kept [] w u ∧ e = .returned (.tuple #[.slice a m k, .int .i64 z]) ∧ Kept [] u w' ∧ Q u a m k z w' := by
  have C1 := Hid.mk (fun u => v210_any u)
  have C2 := Hid.mk C
  clear C
  have hF := Fat.new w W H D A (.slice po n c) 31
  have hk0 := alloc_kept w (.cells #[.int .i64 W, .int .i64 H, .int .i64 D, .bool A, .slice po n c] 31)
  obtain ⟨wa, ewa⟩ : ∃ wa, wa = w.alloc (.cells #[.int .i64 W, .int .i64 H, .int .i64 D, .bool A, .slice po n c] 31) := ⟨_, rfl⟩
  rw [← ewa] at hF hk0
  obtain ⟨q0, q1, q2, q3, q4⟩ := hF
  have QS := Hid.mk (Fat.mk q0 q1 q2 q3 q4)
  have HK := Hid.mk hk0
  clear hk0
  go_enter Tryd.func16, Tryd.ntmps16
  go_wp2
  rw [← ewa]
  clear ewa
  obtain ⟨b, eb⟩ : ∃ b, b = w.heap.size := ⟨_, rfl⟩
  rw [← eb] at QS q0 q1 q2 q3 q4 ⊢
  clear eb
  go_region_held_law (fun w' => w'.cell? ⟨b, 0, none⟩ = some (.int .i64 W) ∧ w'.cell? ⟨b, 1, none⟩ = some (.int .i64 H) ∧ w'.cell? ⟨b, 2, none⟩ = some (.int .i64 D) ∧ w'.cell? ⟨b, 3, none⟩ = some (.bool A) ∧ w'.cell? ⟨b, 4, none⟩ = some (.slice po n c)) (first | exact ⟨q0, q1, q2, q3, q4⟩ | exact ⟨z0, z1, z2, z3, z4⟩ | exact ⟨y0, y1, y2, y3, y4⟩ | go_keep) (first | (go_at_call 38; refine (C1.out _).mono ?_; rintro e w1 ⟨rfl, hk1⟩; obtain ⟨z0, z1, z2, z3, z4⟩ := QS.out.keep hk1.undrew (by simp)) | (go_at_call 42; refine (C2.out _ (HK.out.trans hk1.undrew)).mono ?_; rintro e w2 ⟨a, m, k, z, rfl, hk2, hq⟩; obtain ⟨y0, y1, y2, y3, y4⟩ := QS.out.keep (hk1.undrew.trans hk2) (by simp); have HO := Hid.mk hq; clear hq))
  all_goals go_wp2
  all_goals go_ret2
  all_goals exact ⟨_, a, m, k, z, HK.out.trans hk1.undrew, rfl, hk2, HO.out⟩

set_option maxHeartbeats 8000000 in
set_option maxRecDepth 1000000 in
theorem pack_no_planar (W H D : Int) (A : Bool) (po : Option Addr) (n c : Nat) (ln : Nat → Nat) (F : Nat → Nat → Nat) (w : World) (hr : Pl w po n ln F) (hn : n ≤ 9223372036854775807) (hln : ∀ i, i < n → ln i ≤ 9223372036854775807) (hE : vE W H D A n ln F ≠ 0) :
    Calls Tryd.prog 42 #[fmv 58 59 60 61 62, frv W H D A po n c] w fun e w' => e = .returned (.tuple #[.slice none 0 0, .int .i64 (vE W H D A n ln F)]) ∧ Kept [] w w' := by
  have CV := Hid.mk (fun (u : World) (hk : Kept [] w u) => valid_any W H D A po n c ln F u (hr.keep hk) hn hln)
  obtain ⟨E, eE⟩ : ∃ E, E = vE W H D A n ln F := ⟨_, rfl⟩
  rw [← eE] at CV hE ⊢
  clear hr hn hln eE
  refine (callsIn_wide (n := 0)).1 ?_
  refine callsIn_of_wp_marks Tryd.func42 rfl trivial ?_ rfl
  simp only [Tryd.ntmps42, List.size_toArray, List.length_cons, List.length_nil, Nat.reduceAdd, Nat.reduceSub, Array.replicate_succ, Array.replicate_zero, List.push_toArray, List.append_toArray, List.nil_append, List.cons_append]
  refine wpIn_wide.2 ?_
  have KA := (alloc_kept w (.cells #[fnv 58, fnv 59, fnv 60, fnv 61, fnv 62] 65)).trans (alloc_kept _ (.cells #[.int .i64 W, .int .i64 H, .int .i64 D, .bool A, .slice po n c] 31))
  go_wp2_with (fail)
  refine (CV.out _ KA).mono ?_
  rintro e w2 ⟨rfl, hk2⟩
  have HK := Hid.mk (KA.trans hk2)
  clear hk2 KA CV
  go_wp2
  have hk := HK.out
  clear HK
  refine ⟨.tuple #[.slice none 0 0, .int .i64 E], ?_, rfl, hk⟩
  first | rfl | simp [results, go_sem]

set_option maxHeartbeats 8000000 in
set_option maxRecDepth 1000000 in
theorem pack_no_v210 (W H D : Int) (A : Bool) (po : Option Addr) (n c : Nat) (ln : Nat → Nat) (F : Nat → Nat → Nat) (w : World) (hr : Pl w po n ln F) (hn : n ≤ 9223372036854775807) (hln : ∀ i, i < n → ln i ≤ 9223372036854775807) (hE : vE W H D A n ln F ≠ 0) :
    Calls Tryd.prog 42 #[fmv 66 67 68 69 70, frv W H D A po n c] w fun e w' => e = .returned (.tuple #[.slice none 0 0, .int .i64 (vE W H D A n ln F)]) ∧ Kept [] w w' := by
  have CV := Hid.mk (fun (u : World) (hk : Kept [] w u) => valid_any W H D A po n c ln F u (hr.keep hk) hn hln)
  obtain ⟨E, eE⟩ : ∃ E, E = vE W H D A n ln F := ⟨_, rfl⟩
  rw [← eE] at CV hE ⊢
  clear hr hn hln eE
  refine (callsIn_wide (n := 0)).1 ?_
  refine callsIn_of_wp_marks Tryd.func42 rfl trivial ?_ rfl
  simp only [Tryd.ntmps42, List.size_toArray, List.length_cons, List.length_nil, Nat.reduceAdd, Nat.reduceSub, Array.replicate_succ, Array.replicate_zero, List.push_toArray, List.append_toArray, List.nil_append, List.cons_append]
  refine wpIn_wide.2 ?_
  have KA := (alloc_kept w (.cells #[fnv 66, fnv 67, fnv 68, fnv 69, fnv 70] 65)).trans (alloc_kept _ (.cells #[.int .i64 W, .int .i64 H, .int .i64 D, .bool A, .slice po n c] 31))
  go_wp2_with (fail)
  refine (CV.out _ KA).mono ?_
  rintro e w2 ⟨rfl, hk2⟩
  have HK := Hid.mk (KA.trans hk2)
  clear hk2 KA CV
  go_wp2
  have hk := HK.out
  clear HK
  refine ⟨.tuple #[.slice none 0 0, .int .i64 E], ?_, rfl, hk⟩
  first | rfl | simp [results, go_sem]
end Go.Proofs.YtodlkpcbkilglaaDoor

namespace Go.Proofs.YtodlkpcbkilglaaDoor
open Go.RowKit Go.Shelf
attribute [local go_sem] Oper.semAt_some

set_option maxHeartbeats 8000000 in
set_option maxRecDepth 1000000 in
/-- A frame that may be, but not in this format. -/
theorem pack_fmt (W H D : Int) (A : Bool) (po : Option Addr) (n c : Nat) (ln : Nat → Nat) (F : Nat → Nat → Nat) (w : World) (hr : Pl w po n ln F) (hn : n ≤ 9223372036854775807) (hln : ∀ i, i < n → ln i ≤ 9223372036854775807) (hV : Vld W H D A n ln F) (hf : (decide (D = 10) && !A) = false) :
    Calls Tryd.prog 42 #[fmv 66 67 68 69 70, frv W H D A po n c] w fun e w' => e = .returned (.tuple #[.slice none 0 0, .int .i64 71]) ∧ Kept [] w w' := by
  have CV := Hid.mk (fun (u : World) (hk : Kept [] w u) => valid_any W H D A po n c ln F u (hr.keep hk) hn hln)
  rw [vE_zero.2 hV] at CV
  have CZ := Hid.mk (fun u => sizeV W H D A u)
  rw [shE_ok hV.shp, hf] at CZ
  simp only [Bool.false_eq_true, and_false, if_false, if_true] at CZ
  clear hr hn hln hV hf
  refine (callsIn_wide (n := 0)).1 ?_
  refine callsIn_of_wp_marks Tryd.func42 rfl trivial ?_ rfl
  simp only [Tryd.ntmps42, List.size_toArray, List.length_cons, List.length_nil, Nat.reduceAdd, Nat.reduceSub, Array.replicate_succ, Array.replicate_zero, List.push_toArray, List.append_toArray, List.nil_append, List.cons_append]
  refine wpIn_wide.2 ?_
  have KA := (alloc_kept w (.cells #[fnv 66, fnv 67, fnv 68, fnv 69, fnv 70] 65)).trans (alloc_kept _ (.cells #[.int .i64 W, .int .i64 H, .int .i64 D, .bool A, .slice po n c] 31))
  go_wp2_with (fail)
  refine (CV.out _ KA).mono ?_
  rintro e w2 ⟨rfl, hk2⟩
  have hA1 := hk2.heap ((alloc_kept (w.alloc (.cells #[fnv 66, fnv 67, fnv 68, fnv 69, fnv 70] 65)) (.cells #[.int .i64 W, .int .i64 H, .int .i64 D, .bool A, .slice po n c] 31)).heap (heap_alloc_new w (.cells #[fnv 66, fnv 67, fnv 68, fnv 69, fnv 70] 65)) (by simp)) (by simp)
  have hA2 := hk2.heap (heap_alloc_new (w.alloc (.cells #[fnv 66, fnv 67, fnv 68, fnv 69, fnv 70] 65)) (.cells #[.int .i64 W, .int .i64 H, .int .i64 D, .bool A, .slice po n c] 31)) (by simp)
  have K2 := KA.trans hk2
  rw [World.size_alloc] at hA2
  obtain ⟨B, eB⟩ : ∃ B, B = w.heap.size := ⟨_, rfl⟩
  rw [← eB] at hA1 hA2 ⊢
  obtain ⟨⟨p0, p1, p2, p3, p4⟩, _⟩ := five hA1
  obtain ⟨⟨d0, d1, d2, d3, d4⟩, _⟩ := five hA2
  have HA := Hid.mk K2
  clear hk2 KA hA1 hA2 K2 eB CV
  go_wp2_with (fail)
  refine (CZ.out _).mono ?_
  rintro e w3 ⟨rfl, hk3⟩
  have hk := Hid.mk (HA.out.trans hk3)
  clear hk3 HA
  go_wp2
  have hk := hk.out
  refine ⟨.tuple #[.slice none 0 0, .int .i64 71], ?_, rfl, hk⟩
  first | rfl | simp [results, go_sem]
end Go.Proofs.YtodlkpcbkilglaaDoor
