import Derived.Test.YtodlkpcbkilglaaDoorAl
namespace Go.Proofs.YtodlkpcbkilglaaDoor
open Go.RowKit Go.Shelf

set_option maxHeartbeats 8000000 in
set_option maxRecDepth 1000000 in
theorem Pack_of_planar (W H D : Int) (A : Bool) (po : Option Addr) (n c : Nat) (w : World) (Q : World → Option Addr → Nat → Nat → Int → World → Prop)
    (C : ∀ u, Kept [] w u → Calls Tryd.prog 42 #[fmv 58 59 60 61 62, frv W H D A po n c] u fun e w' => ∃ a m k z, e = .returned (.tuple #[.slice a m k, .int .i64 z]) ∧ Kept [] u w' ∧ Q u a m k z w') :
    Calls Tryd.prog 15 #[frv W H D A po n c] w fun e w' => ∃ u a m k z, Kept [] w u ∧ e = .returned (.tuple #[.slice a m k, .int .i64 z]) ∧ Kept [] u w' ∧ Q u a m k z w' := by
  have C1 := Hid.mk (fun u => planar_any u)
  have C2 := Hid.mk C
  clear C
  have hF := Fat.new w W H D A (.slice po n c) 31
  have hk0 := alloc_kept w (.cells #[.int .i64 W, .int .i64 H, .int .i64 D, .bool A, .slice po n c] 31)
  obtain ⟨wa, ewa⟩ : ∃ wa, wa = w.alloc (.cells #[.int .i64 W, .int .i64 H, .int .i64 D, .bool A, .slice po n c] 31) := ⟨_, rfl⟩
  rw [← ewa] at hF hk0
  obtain ⟨q0, q1, q2, q3, q4⟩ := hF
  have QS := Hid.mk (Fat.mk q0 q1 q2 q3 q4)
  have HK := Hid.mk hk0
  clear hk0
  go_enter Tryd.func15, Tryd.ntmps15
  go_wp2
  rw [← ewa]
  clear ewa
  obtain ⟨b, eb⟩ : ∃ b, b = w.heap.size := ⟨_, rfl⟩
  rw [← eb] at QS q0 q1 q2 q3 q4 ⊢
  clear eb
  go_region_held_law (fun w' => w'.cell? ⟨b, 0, none⟩ = some (.int .i64 W) ∧ w'.cell? ⟨b, 1, none⟩ = some (.int .i64 H) ∧ w'.cell? ⟨b, 2, none⟩ = some (.int .i64 D) ∧ w'.cell? ⟨b, 3, none⟩ = some (.bool A) ∧ w'.cell? ⟨b, 4, none⟩ = some (.slice po n c)) (first | exact ⟨q0, q1, q2, q3, q4⟩ | exact ⟨z0, z1, z2, z3, z4⟩ | exact ⟨y0, y1, y2, y3, y4⟩ | go_keep) (first | (go_at_call 35; refine (C1.out _).mono ?_; rintro e w1 ⟨rfl, hk1⟩; obtain ⟨z0, z1, z2, z3, z4⟩ := QS.out.keep hk1.undrew (by simp)) | (go_at_call 42; refine (C2.out _ (HK.out.trans hk1.undrew)).mono ?_; rintro e w2 ⟨a, m, k, z, rfl, hk2, hq⟩; obtain ⟨y0, y1, y2, y3, y4⟩ := QS.out.keep (hk1.undrew.trans hk2) (by simp); have HO := Hid.mk hq; clear hq))
  all_goals go_wp2
  all_goals go_ret2
  all_goals exact ⟨_, a, m, k, z, HK.out.trans hk1.undrew, rfl, hk2, HO.out⟩

set_option maxHeartbeats 8000000 in
set_option maxRecDepth 1000000 in
theorem Pack_of_v210 (W H D : Int) (A : Bool) (po : Option Addr) (n c : Nat) (w : World) (Q : World → Option Addr → Nat → Nat → Int → World → Prop)
    (C : ∀ u, Kept [] w u → Calls Tryd.prog 42 #[fmv 66 67 68 69 70, frv W H D A po n c] u fun e w' => ∃ a m k z, e = .returned (.tuple #[.slice a m k, .int .i64 z]) ∧ Kept [] u w' ∧ Q u a m k z w') :
    Calls Tryd.prog 16 #[frv W H D A po n c] w fun e w' => ∃ u a m k z, Kept [] w u ∧ e = .returned (.tuple #[.slice a m k, .int .i64 z]) ∧ Kept [] u w' ∧ Q u a m k z w' := by
  have C1 := Hid.mk (fun u => v210_any u)
  have C2 := Hid.mk C
  clear C
  have hF := Fat.new w W H D A (.slice po n c) 31
  have hk0 := alloc_kept w (.cells #[.int .i64 W, .int .i64 H, .int .i64 D, .bool A, .slice po n c] 31)
  obtain ⟨wa, ewa⟩ : ∃ wa, wa = w.alloc (.cells #[.int .i64 W, .int .i64 H, .int .i64 D, .bool A, .slice po n c] 31) := ⟨_, rfl⟩
  rw [← ewa] at hF hk0
  obtain ⟨q0, q1, q2, q3, q4⟩ := hF
  have QS := Hid.mk (Fat.mk q0 q1 q2 q3 q4)
  have HK := Hid.mk hk0
  clear hk0
  go_enter Tryd.func16, Tryd.ntmps16
  go_wp2
  rw [← ewa]
  clear ewa
  obtain ⟨b, eb⟩ : ∃ b, b = w.heap.size := ⟨_, rfl⟩
  rw [← eb] at QS q0 q1 q2 q3 q4 ⊢
  clear eb
  go_region_held_law (fun w' => w'.cell? ⟨b, 0, none⟩ = some (.int .i64 W) ∧ w'.cell? ⟨b, 1, none⟩ = some (.int .i64 H) ∧ w'.cell? ⟨b, 2, none⟩ = some (.int .i64 D) ∧ w'.cell? ⟨b, 3, none⟩ = some (.bool A) ∧ w'.cell? ⟨b, 4, none⟩ = some (.slice po n c)) (first | exact ⟨q0, q1, q2, q3, q4⟩ | exact ⟨z0, z1, z2, z3, z4⟩ | exact ⟨y0, y1, y2, y3, y4⟩ | go_keep) (first | (go_at_call 38; refine (C1.out _).mono ?_; rintro e w1 ⟨rfl, hk1⟩; obtain ⟨z0, z1, z2, z3, z4⟩ := QS.out.keep hk1.undrew (by simp)) | (go_at_call 42; refine (C2.out _ (HK.out.trans hk1.undrew)).mono ?_; rintro e w2 ⟨a, m, k, z, rfl, hk2, hq⟩; obtain ⟨y0, y1, y2, y3, y4⟩ := QS.out.keep (hk1.undrew.trans hk2) (by simp); have HO := Hid.mk hq; clear hq))
  all_goals go_wp2
  all_goals go_ret2
  all_goals exact ⟨_, a, m, k, z, HK.out.trans hk1.undrew, rfl, hk2, HO.out⟩

set_option maxHeartbeats 8000000 in
set_option maxRecDepth 1000000 in
theorem pack_no_planar (W H D : Int) (A : Bool) (po : Option Addr) (n c : Nat) (ln : Nat → Nat) (F : Nat → Nat → Nat) (w : World) (hr : Pl w po n ln F) (hn : n ≤ 9223372036854775807) (hln : ∀ i, i < n → ln i ≤ 9223372036854775807) (hE : vE W H D A n ln F ≠ 0) :
    Calls Tryd.prog 42 #[fmv 58 59 60 61 62, frv W H D A po n c] w fun e w' => e = .returned (.tuple #[.slice none 0 0, .int .i64 (vE W H D A n ln F)]) ∧ Kept [] w w' := by
  have CV := Hid.mk (fun (u : World) (hk : Kept [] w u) => valid_any W H D A po n c ln F u (hr.keep hk) hn hln)
  obtain ⟨E, eE⟩ : ∃ E, E = vE W H D A n ln F := ⟨_, rfl⟩
  rw [← eE] at CV hE ⊢
  clear hr hn hln eE
  refine (callsIn_wide (n := 0)).1 ?_
  refine callsIn_of_wp_marks Tryd.func42 rfl trivial ?_ rfl
  simp only [Tryd.ntmps42, List.size_toArray, List.length_cons, List.length_nil, Nat.reduceAdd, Nat.reduceSub, Array.replicate_succ, Array.replicate_zero, List.push_toArray, List.append_toArray, List.nil_append, List.cons_append]
  refine wpIn_wide.2 ?_
  have KA := (alloc_kept w (.cells #[fnv 58, fnv 59, fnv 60, fnv 61, fnv 62] 65)).trans (alloc_kept _ (.cells #[.int .i64 W, .int .i64 H, .int .i64 D, .bool A, .slice po n c] 31))
  go_wp2_with (fail)
  refine (CV.out _ KA).mono ?_
  rintro e w2 ⟨rfl, hk2⟩
  have HK := Hid.mk (KA.trans hk2)
  clear hk2 KA CV
  go_wp2
  have hk := HK.out
  clear HK
  refine ⟨.tuple #[.slice none 0 0, .int .i64 E], ?_, rfl, hk⟩
  first | rfl | simp [results, go_sem]

set_option maxHeartbeats 8000000 in
set_option maxRecDepth 1000000 in
theorem pack_no_v210 (W H D : Int) (A : Bool) (po : Option Addr) (n c : Nat) (ln : Nat → Nat) (F : Nat → Nat → Nat) (w : World) (hr : Pl w po n ln F) (hn : n ≤ 9223372036854775807) (hln : ∀ i, i < n → ln i ≤ 9223372036854775807) (hE : vE W H D A n ln F ≠ 0) :
    Calls Tryd.prog 42 #[fmv 66 67 68 69 70, frv W H D A po n c] w fun e w' => e = .returned (.tuple #[.slice none 0 0, .int .i64 (vE W H D A n ln F)]) ∧ Kept [] w w' := by
  have CV := Hid.mk (fun (u : World) (hk : Kept [] w u) => valid_any W H D A po n c ln F u (hr.keep hk) hn hln)
  obtain ⟨E, eE⟩ : ∃ E, E = vE W H D A n ln F := ⟨_, rfl⟩
  rw [← eE] at CV hE ⊢
  clear hr hn hln eE
  refine (callsIn_wide (n := 0)).1 ?_
  refine callsIn_of_wp_marks Tryd.func42 rfl trivial ?_ rfl
  simp only [Tryd.ntmps42, List.size_toArray, List.length_cons, List.length_nil, Nat.reduceAdd, Nat.reduceSub, Array.replicate_succ, Array.replicate_zero, List.push_toArray, List.append_toArray, List.nil_append, List.cons_append]
  refine wpIn_wide.2 ?_
  have KA := (alloc_kept w (.cells #[fnv 66, fnv 67, fnv 68, fnv 69, fnv 70] 65)).trans (alloc_kept _ (.cells #[.int .i64 W, .int .i64 H, .int .i64 D, .bool A, .slice po n c] 31))
  go_wp2_with (fail)
  refine (CV.out _ KA).mono ?_
  rintro e w2 ⟨rfl, hk2⟩
  have HK := Hid.mk (KA.trans hk2)
  clear hk2 KA CV
  go_wp2
  have hk := HK.out
  clear HK
  refine ⟨.tuple #[.slice none 0 0, .int .i64 E], ?_, rfl, hk⟩
  first | rfl | simp [results, go_sem]
end Go.Proofs.YtodlkpcbkilglaaDoor

namespace Go.Proofs.YtodlkpcbkilglaaDoor
open Go.RowKit Go.Shelf
attribute [local go_sem] Oper.semAt_some

set_option maxHeartbeats 8000000 in
set_option maxRecDepth 1000000 in
/-- A frame that may be, but not in this format. -/
theorem pack_fmt (W H D : Int) (A : Bool) (po : Option Addr) (n c : Nat) (ln : Nat → Nat) (F : Nat → Nat → Nat) (w : World) (hr : Pl w po n ln F) (hn : n ≤ 9223372036854775807) (hln : ∀ i, i < n → ln i ≤ 9223372036854775807) (hV : Vld W H D A n ln F) (hf : (decide (D = 10) && !A) = false) :
    Calls Tryd.prog 42 #[fmv 66 67 68 69 70, frv W H D A po n c] w fun e w' => e = .returned (.tuple #[.slice none 0 0, .int .i64 71]) ∧ Kept [] w w' := by
  have CV := Hid.mk (fun (u : World) (hk : Kept [] w u) => valid_any W H D A po n c ln F u (hr.keep hk) hn hln)
  rw [vE_zero.2 hV] at CV
  have CZ := Hid.mk (fun u => sizeV W H D A u)
  rw [shE_ok hV.shp, hf] at CZ
  simp only [Bool.false_eq_true, and_false, if_false, if_true] at CZ
  clear hr hn hln hV hf
  refine (callsIn_wide (n := 0)).1 ?_
  refine callsIn_of_wp_marks Tryd.func42 rfl trivial ?_ rfl
  simp only [Tryd.ntmps42, List.size_toArray, List.length_cons, List.length_nil, Nat.reduceAdd, Nat.reduceSub, Array.replicate_succ, Array.replicate_zero, List.push_toArray, List.append_toArray, List.nil_append, List.cons_append]
  refine wpIn_wide.2 ?_
  have KA := (alloc_kept w (.cells #[fnv 66, fnv 67, fnv 68, fnv 69, fnv 70] 65)).trans (alloc_kept _ (.cells #[.int .i64 W, .int .i64 H, .int .i64 D, .bool A, .slice po n c] 31))
  go_wp2_with (fail)
  refine (CV.out _ KA).mono ?_
  rintro e w2 ⟨rfl, hk2⟩
  have hA1 := hk2.heap ((alloc_kept (w.alloc (.cells #[fnv 66, fnv 67, fnv 68, fnv 69, fnv 70] 65)) (.cells #[.int .i64 W, .int .i64 H, .int .i64 D, .bool A, .slice po n c] 31)).heap (heap_alloc_new w (.cells #[fnv 66, fnv 67, fnv 68, fnv 69, fnv 70] 65)) (by simp)) (by simp)
  have hA2 := hk2.heap (heap_alloc_new (w.alloc (.cells #[fnv 66, fnv 67, fnv 68, fnv 69, fnv 70] 65)) (.cells #[.int .i64 W, .int .i64 H, .int .i64 D, .bool A, .slice po n c] 31)) (by simp)
  have K2 := KA.trans hk2
  rw [World.size_alloc] at hA2
  obtain ⟨B, eB⟩ : ∃ B, B = w.heap.size := ⟨_, rfl⟩
  rw [← eB] at hA1 hA2 ⊢
  obtain ⟨⟨p0, p1, p2, p3, p4⟩, _⟩ := five hA1
  obtain ⟨⟨d0, d1, d2, d3, d4⟩, _⟩ := five hA2
  have HA := Hid.mk K2
  clear hk2 KA hA1 hA2 K2 eB CV
  go_wp2_with (fail)
  refine (CZ.out _).mono ?_
  rintro e w3 ⟨rfl, hk3⟩
  have hk := Hid.mk (HA.out.trans hk3)
  clear hk3 HA
  go_wp2
  have hk := hk.out
  refine ⟨.tuple #[.slice none 0 0, .int .i64 71], ?_, rfl, hk⟩
  first | rfl | simp [results, go_sem]
end Go.Proofs.YtodlkpcbkilglaaDoor

namespace Go.Proofs.YtodlkpcbkilglaaDoor
open Go.RowKit Go.Shelf

set_option maxHeartbeats 8000000 in
set_option maxRecDepth 1000000 in
theorem Unpack_of_planar (W H D : Int) (A : Bool) (bo : Option Addr) (M cb : Nat) (w : World) (Q : World → Int → Int → Int → Bool → Option Addr → Nat → Nat → Int → World → Prop)
    (C : ∀ u, Kept [] w u → Calls Tryd.prog 57 #[fmv 58 59 60 61 62, shv W H D A, .slice bo M cb] u fun e w' => ∃ x1 x2 x3 x4 po n k z, e = .returned (.tuple #[frv x1 x2 x3 x4 po n k, .int .i64 z]) ∧ Kept [] u w' ∧ Q u x1 x2 x3 x4 po n k z w') :
    Calls Tryd.prog 32 #[shv W H D A, .slice bo M cb] w fun e w' => ∃ u x1 x2 x3 x4 po n k z w2, Kept [] w u ∧ w.heap.size + 1 < u.heap.size ∧ e = .returned (.tuple #[frv x1 x2 x3 x4 po n k, .int .i64 z]) ∧ Kept [] w w' ∧ Kept [w.heap.size + 1] w2 w' ∧ Q u x1 x2 x3 x4 po n k z w2 := by
  have C1 := Hid.mk (fun u => planar_any u)
  have C2 := Hid.mk C
  clear C
  have hS0 := Sat.new w W H D A 24
  have hk1 := alloc_kept w (.cells #[.int .i64 W, .int .i64 H, .int .i64 D, .bool A] 24)
  have hk2 := alloc_kept (w.alloc (.cells #[.int .i64 W, .int .i64 H, .int .i64 D, .bool A] 24)) (.cells #[.int .i64 0, .int .i64 0, .int .i64 0, .bool false, .slice none 0 0] 31)
  have hF := heap_alloc_new (w.alloc (.cells #[.int .i64 W, .int .i64 H, .int .i64 D, .bool A] 24)) (.cells #[.int .i64 0, .int .i64 0, .int .i64 0, .bool false, .slice none 0 0] 31)
  rw [World.size_alloc] at hF
  have hS := hS0.keep hk2 (by simp)
  have hk0 := hk1.trans hk2
  obtain ⟨wa, ewa⟩ : ∃ wa, wa = (w.alloc (.cells #[.int .i64 W, .int .i64 H, .int .i64 D, .bool A] 24)).alloc (.cells #[.int .i64 0, .int .i64 0, .int .i64 0, .bool false, .slice none 0 0] 31) := ⟨_, rfl⟩
  rw [← ewa] at hS hk0 hF
  obtain ⟨q0, q1, q2, q3⟩ := hS
  have QS := Hid.mk (Sat.mk q0 q1 q2 q3)
  have HK := Hid.mk hk0
  clear hk0 hk1 hk2 hS0
  have hmix : Tryd.prog.follows .mixedOrders = true := by kernel_rfl
  go_enter Tryd.func32, Tryd.ntmps32
  go_wp2
  rw [← ewa]
  clear ewa
  obtain ⟨b, eb⟩ : ∃ b, b = w.heap.size := ⟨_, rfl⟩
  obtain ⟨b1, eb1⟩ : ∃ b1, b1 = w.heap.size + 1 := ⟨_, rfl⟩
  rw [← eb1] at hF
  rw [← eb] at QS q0 q1 q2 q3
  have HB := Hid.mk (And.intro hF (And.intro eb eb1))
  have n01 : b ≠ b1 := by omega
  have n10 : b1 ≠ b := by omega
  rw [← eb1, ← eb]
  clear eb eb1 hF
  refine wp_region_held_drew (S := fun u => u.cell? ⟨b, 0, none⟩ = some (.int .i64 W) ∧ u.cell? ⟨b, 1, none⟩ = some (.int .i64 H) ∧ u.cell? ⟨b, 2, none⟩ = some (.int .i64 D) ∧ u.cell? ⟨b, 3, none⟩ = some (.bool A)) hmix ⟨q0, q1, q2, q3⟩ (fun hHeld => ?_)
  refine wpAnyH_take (i := 1) (v := ?_) rfl (by kernel_rfl) (by kernel_rfl) (by kernel_rfl) (fun _ _ _ h => h) (Or.inl ⟨by rfl, ?_⟩) (by assumption) ?_
  rotate_left
  · intro w hSw
    try dsimp only at hSw
    obtain ⟨s1, s2, s3, s4⟩ := hSw
    go_simp
    all_goals with_reducible rfl
  try simp only [Act.put, List.getElem_toArray, List.getElem_cons_zero, List.getElem_cons_succ, List.setIfInBounds_toArray, List.set_cons_zero, List.set_cons_succ]
  refine wpAnyH_take (i := 2) (v := ?_) rfl (by kernel_rfl) (by kernel_rfl) (by kernel_rfl) (fun _ _ _ h => h) (Or.inl ⟨by rfl, ?_⟩) (by assumption) ?_
  rotate_left
  · intro w hSw
    try dsimp only at hSw
    obtain ⟨s1, s2, s3, s4⟩ := hSw
    go_simp
    all_goals with_reducible rfl
  try simp only [Act.put, List.getElem_toArray, List.getElem_cons_zero, List.getElem_cons_succ, List.setIfInBounds_toArray, List.set_cons_zero, List.set_cons_succ]
  refine wpAnyH_ready (rs := [0]) (by kernel_rfl) (by simp) ?_
  refine AllReadyH.cons rfl (fun K9 hK9 => ?_) AllReadyH.nil
  go_simp
  refine (C1.out _).mono ?_
  rintro e w1 ⟨rfl, hk1⟩
  obtain ⟨z0, z1, z2, z3⟩ := QS.out.keep hk1.undrew (by simp)
  refine hK9.out _ _ ⟨z0, z1, z2, z3⟩ (fun hHeld2 => ?_)
  clear hK9 K9
  try simp only [Act.put, List.getElem_toArray, List.getElem_cons_zero, List.getElem_cons_succ, List.setIfInBounds_toArray, List.set_cons_zero, List.set_cons_succ]
  refine wpAnyH_ready (rs := [3]) (by kernel_rfl) (by simp) ?_
  refine AllReadyH.cons rfl (fun K9 hK9 => ?_) AllReadyH.nil
  go_simp
  refine (C2.out _ (HK.out.trans hk1.undrew)).mono ?_
  rintro e w2 ⟨x1, x2, x3, x4, po, n, k, z, rfl, hk2, hq⟩
  have hk12 := hk1.undrew.trans hk2
  obtain ⟨y0, y1, y2, y3⟩ := QS.out.keep hk12 (by simp)
  have HO := Hid.mk hq
  clear hq hk2
  refine hK9.out _ _ ⟨y0, y1, y2, y3⟩ (fun hHeld2 => ?_)
  clear hK9 K9
  try simp only [Act.put, List.getElem_toArray, List.getElem_cons_zero, List.getElem_cons_succ, List.setIfInBounds_toArray, List.set_cons_zero, List.set_cons_succ]
  refine wpAnyH_take (i := 4) (v := ?_) rfl (by kernel_rfl) (by kernel_rfl) (by kernel_rfl) (fun _ _ _ h => h) (Or.inl ⟨by rfl, ?_⟩) (by assumption) ?_
  rotate_left
  · intro w hSw
    try dsimp only at hSw
    obtain ⟨s1, s2, s3, s4⟩ := hSw
    go_simp
    all_goals with_reducible rfl
  try simp only [Act.put, List.getElem_toArray, List.getElem_cons_zero, List.getElem_cons_succ, List.setIfInBounds_toArray, List.set_cons_zero, List.set_cons_succ]
  refine wpAnyH_take (i := 5) (v := ?_) rfl (by kernel_rfl) (by kernel_rfl) (by kernel_rfl) (fun _ _ _ h => h) (Or.inl ⟨by rfl, ?_⟩) (by assumption) ?_
  rotate_left
  · intro w hSw
    try dsimp only at hSw
    obtain ⟨s1, s2, s3, s4⟩ := hSw
    go_simp
    all_goals with_reducible rfl
  try simp only [Act.put, List.getElem_toArray, List.getElem_cons_zero, List.getElem_cons_succ, List.setIfInBounds_toArray, List.set_cons_zero, List.set_cons_succ]
  have hF2 := hk12.heap HB.out.1 (by simp)
  obtain ⟨⟨r0, r1, r2, r3, r4⟩, s0, s1, s2, s3, s4⟩ := five hF2
  have s5 := set5 (.int .i64 x1) (.int .i64 x2) (.int .i64 x3) (.bool x4) (.slice po n k) hF2
  obtain ⟨u0, u1, u2, u3⟩ := (Sat.mk y0 y1 y2 y3).keep s5.2 (by simp; omega)
  have HS5 := Hid.mk s5
  clear hF2 s5
  refine wpAnyH_ready (rs := [6]) (by kernel_rfl) (by simp) ?_
  refine AllReadyH.cons rfl (fun K9 hK9 => ?_) AllReadyH.nil
  go_simp
  refine hK9.out _ _ ⟨u0, u1, u2, u3⟩ (fun hHeld3 => ?_)
  clear hK9 K9
  try simp only [Act.put, List.getElem_toArray, List.getElem_cons_zero, List.getElem_cons_succ, List.setIfInBounds_toArray, List.set_cons_zero, List.set_cons_succ]
  refine wpAnyH_take (i := 7) (v := ?_) rfl (by kernel_rfl) (by kernel_rfl) (by kernel_rfl) (fun _ _ _ h => h) (Or.inl ⟨by rfl, ?_⟩) (by assumption) ?_
  rotate_left
  · intro w hSw
    try dsimp only at hSw
    obtain ⟨s1, s2, s3, s4⟩ := hSw
    go_simp
    all_goals with_reducible rfl
  try simp only [Act.put, List.getElem_toArray, List.getElem_cons_zero, List.getElem_cons_succ, List.setIfInBounds_toArray, List.set_cons_zero, List.set_cons_succ]
  refine wpAnyH_done (by kernel_rfl) ?_ _
  have s5 := HS5.out
  obtain ⟨wz, ewz⟩ : ∃ wz, wz = ((((w2.setCell ⟨b1, 0, none⟩ (.int .i64 x1)).setCell ⟨b1, 1, none⟩ (.int .i64 x2)).setCell ⟨b1, 2, none⟩ (.int .i64 x3)).setCell ⟨b1, 3, none⟩ (.bool x4)).setCell ⟨b1, 4, none⟩ (.slice po n k) := ⟨_, rfl⟩
  rw [← ewz] at s5 ⊢
  obtain ⟨⟨v0, v1, v2, v3, v4⟩, _⟩ := five s5.1
  have HS6 := Hid.mk s5.2
  have heap5 := s5.1
  have HK12 := Hid.mk hk12
  have HK1 := Hid.mk hk1
  clear s5 HS5 ewz r0 r1 r2 r3 r4 s0 s1 s2 s3 s4 u0 u1 u2 u3 y0 y1 y2 y3 z0 z1 z2 z3 q0 q1 q2 q3 hk12 hk1 hHeld3
  go_wp2
  have hz := heap5
  refine bodyPost_ret (v := .tuple #[frv x1 x2 x3 x4 po n k, .int .i64 z]) ?_ rfl ?_
  · exact results_two rfl _ _ b1 31 _ (0, 0) _ _ rfl hz Tryd.underlying31 Tryd.info38 rfl
  have hl : b1 < w1.heap.size := lt_of_block (HK1.out.undrew.heap HB.out.1 (by simp))
  have eb1 := HB.out.2.2
  refine ⟨w1, x1, x2, x3, x4, po, n, k, z, w2, HK.out.trans HK1.out.undrew, by omega, rfl, (HK.out.trans HK12.out).step HS6.out (fun x hx => by simp at hx; right; omega), by rw [← eb1]; exact HS6.out, HO.out⟩

set_option maxHeartbeats 8000000 in
set_option maxRecDepth 1000000 in
theorem Unpack_of_v210 (W H D : Int) (A : Bool) (bo : Option Addr) (M cb : Nat) (w : World) (Q : World → Int → Int → Int → Bool → Option Addr → Nat → Nat → Int → World → Prop)
    (C : ∀ u, Kept [] w u → Calls Tryd.prog 57 #[fmv 66 67 68 69 70, shv W H D A, .slice bo M cb] u fun e w' => ∃ x1 x2 x3 x4 po n k z, e = .returned (.tuple #[frv x1 x2 x3 x4 po n k, .int .i64 z]) ∧ Kept [] u w' ∧ Q u x1 x2 x3 x4 po n k z w') :
    Calls Tryd.prog 33 #[shv W H D A, .slice bo M cb] w fun e w' => ∃ u x1 x2 x3 x4 po n k z w2, Kept [] w u ∧ w.heap.size + 1 < u.heap.size ∧ e = .returned (.tuple #[frv x1 x2 x3 x4 po n k, .int .i64 z]) ∧ Kept [] w w' ∧ Kept [w.heap.size + 1] w2 w' ∧ Q u x1 x2 x3 x4 po n k z w2 := by
  have C1 := Hid.mk (fun u => v210_any u)
  have C2 := Hid.mk C
  clear C
  have hS0 := Sat.new w W H D A 24
  have hk1 := alloc_kept w (.cells #[.int .i64 W, .int .i64 H, .int .i64 D, .bool A] 24)
  have hk2 := alloc_kept (w.alloc (.cells #[.int .i64 W, .int .i64 H, .int .i64 D, .bool A] 24)) (.cells #[.int .i64 0, .int .i64 0, .int .i64 0, .bool false, .slice none 0 0] 31)
  have hF := heap_alloc_new (w.alloc (.cells #[.int .i64 W, .int .i64 H, .int .i64 D, .bool A] 24)) (.cells #[.int .i64 0, .int .i64 0, .int .i64 0, .bool false, .slice none 0 0] 31)
  rw [World.size_alloc] at hF
  have hS := hS0.keep hk2 (by simp)
  have hk0 := hk1.trans hk2
  obtain ⟨wa, ewa⟩ : ∃ wa, wa = (w.alloc (.cells #[.int .i64 W, .int .i64 H, .int .i64 D, .bool A] 24)).alloc (.cells #[.int .i64 0, .int .i64 0, .int .i64 0, .bool false, .slice none 0 0] 31) := ⟨_, rfl⟩
  rw [← ewa] at hS hk0 hF
  obtain ⟨q0, q1, q2, q3⟩ := hS
  have QS := Hid.mk (Sat.mk q0 q1 q2 q3)
  have HK := Hid.mk hk0
  clear hk0 hk1 hk2 hS0
  have hmix : Tryd.prog.follows .mixedOrders = true := by kernel_rfl
  go_enter Tryd.func33, Tryd.ntmps33
  go_wp2
  rw [← ewa]
  clear ewa
  obtain ⟨b, eb⟩ : ∃ b, b = w.heap.size := ⟨_, rfl⟩
  obtain ⟨b1, eb1⟩ : ∃ b1, b1 = w.heap.size + 1 := ⟨_, rfl⟩
  rw [← eb1] at hF
  rw [← eb] at QS q0 q1 q2 q3
  have HB := Hid.mk (And.intro hF (And.intro eb eb1))
  have n01 : b ≠ b1 := by omega
  have n10 : b1 ≠ b := by omega
  rw [← eb1, ← eb]
  clear eb eb1 hF
  refine wp_region_held_drew (S := fun u => u.cell? ⟨b, 0, none⟩ = some (.int .i64 W) ∧ u.cell? ⟨b, 1, none⟩ = some (.int .i64 H) ∧ u.cell? ⟨b, 2, none⟩ = some (.int .i64 D) ∧ u.cell? ⟨b, 3, none⟩ = some (.bool A)) hmix ⟨q0, q1, q2, q3⟩ (fun hHeld => ?_)
  refine wpAnyH_take (i := 1) (v := ?_) rfl (by kernel_rfl) (by kernel_rfl) (by kernel_rfl) (fun _ _ _ h => h) (Or.inl ⟨by rfl, ?_⟩) (by assumption) ?_
  rotate_left
  · intro w hSw
    try dsimp only at hSw
    obtain ⟨s1, s2, s3, s4⟩ := hSw
    go_simp
    all_goals with_reducible rfl
  try simp only [Act.put, List.getElem_toArray, List.getElem_cons_zero, List.getElem_cons_succ, List.setIfInBounds_toArray, List.set_cons_zero, List.set_cons_succ]
  refine wpAnyH_take (i := 2) (v := ?_) rfl (by kernel_rfl) (by kernel_rfl) (by kernel_rfl) (fun _ _ _ h => h) (Or.inl ⟨by rfl, ?_⟩) (by assumption) ?_
  rotate_left
  · intro w hSw
    try dsimp only at hSw
    obtain ⟨s1, s2, s3, s4⟩ := hSw
    go_simp
    all_goals with_reducible rfl
  try simp only [Act.put, List.getElem_toArray, List.getElem_cons_zero, List.getElem_cons_succ, List.setIfInBounds_toArray, List.set_cons_zero, List.set_cons_succ]
  refine wpAnyH_ready (rs := [0]) (by kernel_rfl) (by simp) ?_
  refine AllReadyH.cons rfl (fun K9 hK9 => ?_) AllReadyH.nil
  go_simp
  refine (C1.out _).mono ?_
  rintro e w1 ⟨rfl, hk1⟩
  obtain ⟨z0, z1, z2, z3⟩ := QS.out.keep hk1.undrew (by simp)
  refine hK9.out _ _ ⟨z0, z1, z2, z3⟩ (fun hHeld2 => ?_)
  clear hK9 K9
  try simp only [Act.put, List.getElem_toArray, List.getElem_cons_zero, List.getElem_cons_succ, List.setIfInBounds_toArray, List.set_cons_zero, List.set_cons_succ]
  refine wpAnyH_ready (rs := [3]) (by kernel_rfl) (by simp) ?_
  refine AllReadyH.cons rfl (fun K9 hK9 => ?_) AllReadyH.nil
  go_simp
  refine (C2.out _ (HK.out.trans hk1.undrew)).mono ?_
  rintro e w2 ⟨x1, x2, x3, x4, po, n, k, z, rfl, hk2, hq⟩
  have hk12 := hk1.undrew.trans hk2
  obtain ⟨y0, y1, y2, y3⟩ := QS.out.keep hk12 (by simp)
  have HO := Hid.mk hq
  clear hq hk2
  refine hK9.out _ _ ⟨y0, y1, y2, y3⟩ (fun hHeld2 => ?_)
  clear hK9 K9
  try simp only [Act.put, List.getElem_toArray, List.getElem_cons_zero, List.getElem_cons_succ, List.setIfInBounds_toArray, List.set_cons_zero, List.set_cons_succ]
  refine wpAnyH_take (i := 4) (v := ?_) rfl (by kernel_rfl) (by kernel_rfl) (by kernel_rfl) (fun _ _ _ h => h) (Or.inl ⟨by rfl, ?_⟩) (by assumption) ?_
  rotate_left
  · intro w hSw
    try dsimp only at hSw
    obtain ⟨s1, s2, s3, s4⟩ := hSw
    go_simp
    all_goals with_reducible rfl
  try simp only [Act.put, List.getElem_toArray, List.getElem_cons_zero, List.getElem_cons_succ, List.setIfInBounds_toArray, List.set_cons_zero, List.set_cons_succ]
  refine wpAnyH_take (i := 5) (v := ?_) rfl (by kernel_rfl) (by kernel_rfl) (by kernel_rfl) (fun _ _ _ h => h) (Or.inl ⟨by rfl, ?_⟩) (by assumption) ?_
  rotate_left
  · intro w hSw
    try dsimp only at hSw
    obtain ⟨s1, s2, s3, s4⟩ := hSw
    go_simp
    all_goals with_reducible rfl
  try simp only [Act.put, List.getElem_toArray, List.getElem_cons_zero, List.getElem_cons_succ, List.setIfInBounds_toArray, List.set_cons_zero, List.set_cons_succ]
  have hF2 := hk12.heap HB.out.1 (by simp)
  obtain ⟨⟨r0, r1, r2, r3, r4⟩, s0, s1, s2, s3, s4⟩ := five hF2
  have s5 := set5 (.int .i64 x1) (.int .i64 x2) (.int .i64 x3) (.bool x4) (.slice po n k) hF2
  obtain ⟨u0, u1, u2, u3⟩ := (Sat.mk y0 y1 y2 y3).keep s5.2 (by simp; omega)
  have HS5 := Hid.mk s5
  clear hF2 s5
  refine wpAnyH_ready (rs := [6]) (by kernel_rfl) (by simp) ?_
  refine AllReadyH.cons rfl (fun K9 hK9 => ?_) AllReadyH.nil
  go_simp
  refine hK9.out _ _ ⟨u0, u1, u2, u3⟩ (fun hHeld3 => ?_)
  clear hK9 K9
  try simp only [Act.put, List.getElem_toArray, List.getElem_cons_zero, List.getElem_cons_succ, List.setIfInBounds_toArray, List.set_cons_zero, List.set_cons_succ]
  refine wpAnyH_take (i := 7) (v := ?_) rfl (by kernel_rfl) (by kernel_rfl) (by kernel_rfl) (fun _ _ _ h => h) (Or.inl ⟨by rfl, ?_⟩) (by assumption) ?_
  rotate_left
  · intro w hSw
    try dsimp only at hSw
    obtain ⟨s1, s2, s3, s4⟩ := hSw
    go_simp
    all_goals with_reducible rfl
  try simp only [Act.put, List.getElem_toArray, List.getElem_cons_zero, List.getElem_cons_succ, List.setIfInBounds_toArray, List.set_cons_zero, List.set_cons_succ]
  refine wpAnyH_done (by kernel_rfl) ?_ _
  have s5 := HS5.out
  obtain ⟨wz, ewz⟩ : ∃ wz, wz = ((((w2.setCell ⟨b1, 0, none⟩ (.int .i64 x1)).setCell ⟨b1, 1, none⟩ (.int .i64 x2)).setCell ⟨b1, 2, none⟩ (.int .i64 x3)).setCell ⟨b1, 3, none⟩ (.bool x4)).setCell ⟨b1, 4, none⟩ (.slice po n k) := ⟨_, rfl⟩
  rw [← ewz] at s5 ⊢
  obtain ⟨⟨v0, v1, v2, v3, v4⟩, _⟩ := five s5.1
  have HS6 := Hid.mk s5.2
  have heap5 := s5.1
  have HK12 := Hid.mk hk12
  have HK1 := Hid.mk hk1
  clear s5 HS5 ewz r0 r1 r2 r3 r4 s0 s1 s2 s3 s4 u0 u1 u2 u3 y0 y1 y2 y3 z0 z1 z2 z3 q0 q1 q2 q3 hk12 hk1 hHeld3
  go_wp2
  have hz := heap5
  refine bodyPost_ret (v := .tuple #[frv x1 x2 x3 x4 po n k, .int .i64 z]) ?_ rfl ?_
  · exact results_two rfl _ _ b1 31 _ (0, 0) _ _ rfl hz Tryd.underlying31 Tryd.info38 rfl
  have hl : b1 < w1.heap.size := lt_of_block (HK1.out.undrew.heap HB.out.1 (by simp))
  have eb1 := HB.out.2.2
  refine ⟨w1, x1, x2, x3, x4, po, n, k, z, w2, HK.out.trans HK1.out.undrew, by omega, rfl, (HK.out.trans HK12.out).step HS6.out (fun x hx => by simp at hx; right; omega), by rw [← eb1]; exact HS6.out, HO.out⟩
end Go.Proofs.YtodlkpcbkilglaaDoor
