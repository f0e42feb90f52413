import Derived.Test.YtodlkpcbkilglaaDoorPnZ
namespace Go.Proofs.YtodlkpcbkilglaaDoor
open Go.RowKit Go.Shelf

set_option maxHeartbeats 8000000 in
set_option maxRecDepth 1000000 in
theorem Unpack_of_planar (W H D : Int) (A : Bool) (bo : Option Addr) (M cb : Nat) (w : World) (Q : World → Int → Int → Int → Bool → Option Addr → Nat → Nat → Int → World → Prop)
    (C : ∀ u, Kept [] w u → Calls Tryd.prog 57 #[fmv 58 59 60 61 62, shv W H D A, .slice bo M cb] u fun e w' => ∃ x1 x2 x3 x4 po n k z, e = .returned (.tuple #[frv x1 x2 x3 x4 po n k, .int .i64 z]) ∧ Kept [] u w' ∧ Q u x1 x2 x3 x4 po n k z w') :
    Calls Tryd.prog 32 #[shv W H D A, .slice bo M cb] w fun e w' => ∃ u x1 x2 x3 x4 po n k z w2, Kept [] w u ∧ w.heap.size + 1 < u.heap.size ∧ e = .returned (.tuple #[frv x1 x2 x3 x4 po n k, .int .i64 z]) ∧ Kept [] w w' ∧ Kept [w.heap.size + 1] w2 w' ∧ Q u x1 x2 x3 x4 po n k z w2 := by
  have C1 := Hid.mk (fun u => planar_any u)
  have C2 := Hid.mk C
  clear C
  have hS0 := Sat.new w W H D A 24
  have hk1 := alloc_kept w (.cells #[.int .i64 W, .int .i64 H, .int .i64 D, .bool A] 24)
  have hk2 := alloc_kept (w.alloc (.cells #[.int .i64 W, .int .i64 H, .int .i64 D, .bool A] 24)) (.cells #[.int .i64 0, .int .i64 0, .int .i64 0, .bool false, .slice none 0 0] 31)
  have hF := heap_alloc_new (w.alloc (.cells #[.int .i64 W, .int .i64 H, .int .i64 D, .bool A] 24)) (.cells #[.int .i64 0, .int .i64 0, .int .i64 0, .bool false, .slice none 0 0] 31)
  rw [World.size_alloc] at hF
  have hS := hS0.keep hk2 (by simp)
  have hk0 := hk1.trans hk2
  obtain ⟨wa, ewa⟩ : ∃ wa, wa = (w.alloc (.cells #[.int .i64 W, .int .i64 H, .int .i64 D, .bool A] 24)).alloc (.cells #[.int .i64 0, .int .i64 0, .int .i64 0, .bool false, .slice none 0 0] 31) := ⟨_, rfl⟩
  rw [← ewa] at hS hk0 hF
  obtain ⟨q0, q1, q2, q3⟩ := hS
  have QS := Hid.mk (Sat.mk q0 q1 q2 q3)
  have HK := Hid.mk hk0
  clear hk0 hk1 hk2 hS0
  have hmix : Tryd.prog.follows .mixedOrders = true := by kernel_rfl
  go_enter Tryd.func32, Tryd.ntmps32
  go_wp2
  rw [← ewa]
  clear ewa
  obtain ⟨b, eb⟩ : ∃ b, b = w.heap.size := ⟨_, rfl⟩
  obtain ⟨b1, eb1⟩ : ∃ b1, b1 = w.heap.size + 1 := ⟨_, rfl⟩
  rw [← eb1] at hF
  rw [← eb] at QS q0 q1 q2 q3
  have HB := Hid.mk (And.intro hF (And.intro eb eb1))
  have n01 : b ≠ b1 := by omega
  have n10 : b1 ≠ b := by omega
  rw [← eb1, ← eb]
  clear eb eb1 hF
  refine wp_region_held_drew (S := fun u => u.cell? ⟨b, 0, none⟩ = some (.int .i64 W) ∧ u.cell? ⟨b, 1, none⟩ = some (.int .i64 H) ∧ u.cell? ⟨b, 2, none⟩ = some (.int .i64 D) ∧ u.cell? ⟨b, 3, none⟩ = some (.bool A)) hmix ⟨q0, q1, q2, q3⟩ (fun hHeld => ?_)
  refine wpAnyH_take (i := 1) (v := ?_) rfl (by kernel_rfl) (by kernel_rfl) (by kernel_rfl) (fun _ _ _ h => h) (Or.inl ⟨by rfl, ?_⟩) (by assumption) ?_
  rotate_left
  · intro w hSw
    try dsimp only at hSw
    obtain ⟨s1, s2, s3, s4⟩ := hSw
    go_simp
    all_goals with_reducible rfl
  try simp only [Act.put, List.getElem_toArray, List.getElem_cons_zero, List.getElem_cons_succ, List.setIfInBounds_toArray, List.set_cons_zero, List.set_cons_succ]
  refine wpAnyH_take (i := 2) (v := ?_) rfl (by kernel_rfl) (by kernel_rfl) (by kernel_rfl) (fun _ _ _ h => h) (Or.inl ⟨by rfl, ?_⟩) (by assumption) ?_
  rotate_left
  · intro w hSw
    try dsimp only at hSw
    obtain ⟨s1, s2, s3, s4⟩ := hSw
    go_simp
    all_goals with_reducible rfl
  try simp only [Act.put, List.getElem_toArray, List.getElem_cons_zero, List.getElem_cons_succ, List.setIfInBounds_toArray, List.set_cons_zero, List.set_cons_succ]
  refine wpAnyH_ready (rs := [0]) (by kernel_rfl) (by simp) ?_
  refine AllReadyH.cons rfl (fun K9 hK9 => ?_) AllReadyH.nil
  go_simp
  refine (C1.out _).mono ?_
  rintro e w1 ⟨rfl, hk1⟩
  obtain ⟨z0, z1, z2, z3⟩ := QS.out.keep hk1.undrew (by simp)
  refine hK9.out _ _ ⟨z0, z1, z2, z3⟩ (fun hHeld2 => ?_)
  clear hK9 K9
  try simp only [Act.put, List.getElem_toArray, List.getElem_cons_zero, List.getElem_cons_succ, List.setIfInBounds_toArray, List.set_cons_zero, List.set_cons_succ]
  refine wpAnyH_ready (rs := [3]) (by kernel_rfl) (by simp) ?_
  refine AllReadyH.cons rfl (fun K9 hK9 => ?_) AllReadyH.nil
  go_simp
  refine (C2.out _ (HK.out.trans hk1.undrew)).mono ?_
  rintro e w2 ⟨x1, x2, x3, x4, po, n, k, z, rfl, hk2, hq⟩
  have hk12 := hk1.undrew.trans hk2
  obtain ⟨y0, y1, y2, y3⟩ := QS.out.keep hk12 (by simp)
  have HO := Hid.mk hq
  clear hq hk2
  refine hK9.out _ _ ⟨y0, y1, y2, y3⟩ (fun hHeld2 => ?_)
  clear hK9 K9
  try simp only [Act.put, List.getElem_toArray, List.getElem_cons_zero, List.getElem_cons_succ, List.setIfInBounds_toArray, List.set_cons_zero, List.set_cons_succ]
  refine wpAnyH_take (i := 4) (v := ?_) rfl (by kernel_rfl) (by kernel_rfl) (by kernel_rfl) (fun _ _ _ h => h) (Or.inl ⟨by rfl, ?_⟩) (by assumption) ?_
  rotate_left
  · intro w hSw
    try dsimp only at hSw
    obtain ⟨s1, s2, s3, s4⟩ := hSw
    go_simp
    all_goals with_reducible rfl
  try simp only [Act.put, List.getElem_toArray, List.getElem_cons_zero, List.getElem_cons_succ, List.setIfInBounds_toArray, List.set_cons_zero, List.set_cons_succ]
  refine wpAnyH_take (i := 5) (v := ?_) rfl (by kernel_rfl) (by kernel_rfl) (by kernel_rfl) (fun _ _ _ h => h) (Or.inl ⟨by rfl, ?_⟩) (by assumption) ?_
  rotate_left
  · intro w hSw
    try dsimp only at hSw
    obtain ⟨s1, s2, s3, s4⟩ := hSw
    go_simp
    all_goals with_reducible rfl
  try simp only [Act.put, List.getElem_toArray, List.getElem_cons_zero, List.getElem_cons_succ, List.setIfInBounds_toArray, List.set_cons_zero, List.set_cons_succ]
  have hF2 := hk12.heap HB.out.1 (by simp)
  obtain ⟨⟨r0, r1, r2, r3, r4⟩, s0, s1, s2, s3, s4⟩ := five hF2
  have s5 := set5 (.int .i64 x1) (.int .i64 x2) (.int .i64 x3) (.bool x4) (.slice po n k) hF2
  obtain ⟨u0, u1, u2, u3⟩ := (Sat.mk y0 y1 y2 y3).keep s5.2 (by simp; omega)
  have HS5 := Hid.mk s5
  clear hF2 s5
  refine wpAnyH_ready (rs := [6]) (by kernel_rfl) (by simp) ?_
  refine AllReadyH.cons rfl (fun K9 hK9 => ?_) AllReadyH.nil
  go_simp
  refine hK9.out _ _ ⟨u0, u1, u2, u3⟩ (fun hHeld3 => ?_)
  clear hK9 K9
  try simp only [Act.put, List.getElem_toArray, List.getElem_cons_zero, List.getElem_cons_succ, List.setIfInBounds_toArray, List.set_cons_zero, List.set_cons_succ]
  refine wpAnyH_take (i := 7) (v := ?_) rfl (by kernel_rfl) (by kernel_rfl) (by kernel_rfl) (fun _ _ _ h => h) (Or.inl ⟨by rfl, ?_⟩) (by assumption) ?_
  rotate_left
  · intro w hSw
    try dsimp only at hSw
    obtain ⟨s1, s2, s3, s4⟩ := hSw
    go_simp
    all_goals with_reducible rfl
  try simp only [Act.put, List.getElem_toArray, List.getElem_cons_zero, List.getElem_cons_succ, List.setIfInBounds_toArray, List.set_cons_zero, List.set_cons_succ]
  refine wpAnyH_done (by kernel_rfl) ?_ _
  have s5 := HS5.out
  obtain ⟨wz, ewz⟩ : ∃ wz, wz = ((((w2.setCell ⟨b1, 0, none⟩ (.int .i64 x1)).setCell ⟨b1, 1, none⟩ (.int .i64 x2)).setCell ⟨b1, 2, none⟩ (.int .i64 x3)).setCell ⟨b1, 3, none⟩ (.bool x4)).setCell ⟨b1, 4, none⟩ (.slice po n k) := ⟨_, rfl⟩
  rw [← ewz] at s5 ⊢
  obtain ⟨⟨v0, v1, v2, v3, v4⟩, _⟩ := five s5.1
  have HS6 := Hid.mk s5.2
  have heap5 := s5.1
  have HK12 := Hid.mk hk12
  have HK1 := Hid.mk hk1
  clear s5 HS5 ewz r0 r1 r2 r3 r4 s0 s1 s2 s3 s4 u0 u1 u2 u3 y0 y1 y2 y3 z0 z1 z2 z3 q0 q1 q2 q3 hk12 hk1 hHeld3
  go_wp2
  have hz := heap5
  refine bodyPost_ret (v := .tuple #[frv x1 x2 x3 x4 po n k, .int .i64 z]) ?_ rfl ?_
  · exact results_two rfl _ _ b1 31 _ (0, 0) _ _ rfl hz Tryd.underlying31 Tryd.info38 rfl
  have hl : b1 < w1.heap.size := lt_of_block (HK1.out.undrew.heap HB.out.1 (by simp))
  have eb1 := HB.out.2.2
  refine ⟨w1, x1, x2, x3, x4, po, n, k, z, w2, HK.out.trans HK1.out.undrew, by omega, rfl, (HK.out.trans HK12.out).step HS6.out (fun x hx => by simp at hx; right; omega), by rw [← eb1]; exact HS6.out, HO.out⟩

set_option maxHeartbeats 8000000 in
set_option maxRecDepth 1000000 in
theorem Unpack_of_v210 (W H D : Int) (A : Bool) (bo : Option Addr) (M cb : Nat) (w : World) (Q : World → Int → Int → Int → Bool → Option Addr → Nat → Nat → Int → World → Prop)
    (C : ∀ u, Kept [] w u → Calls Tryd.prog 57 #[fmv 66 67 68 69 70, shv W H D A, .slice bo M cb] u fun e w' => ∃ x1 x2 x3 x4 po n k z, e = .returned (.tuple #[frv x1 x2 x3 x4 po n k, .int .i64 z]) ∧ Kept [] u w' ∧ Q u x1 x2 x3 x4 po n k z w') :
    Calls Tryd.prog 33 #[shv W H D A, .slice bo M cb] w fun e w' => ∃ u x1 x2 x3 x4 po n k z w2, Kept [] w u ∧ w.heap.size + 1 < u.heap.size ∧ e = .returned (.tuple #[frv x1 x2 x3 x4 po n k, .int .i64 z]) ∧ Kept [] w w' ∧ Kept [w.heap.size + 1] w2 w' ∧ Q u x1 x2 x3 x4 po n k z w2 := by
  have C1 := Hid.mk (fun u => v210_any u)
  have C2 := Hid.mk C
  clear C
  have hS0 := Sat.new w W H D A 24
  have hk1 := alloc_kept w (.cells #[.int .i64 W, .int .i64 H, .int .i64 D, .bool A] 24)
  have hk2 := alloc_kept (w.alloc (.cells #[.int .i64 W, .int .i64 H, .int .i64 D, .bool A] 24)) (.cells #[.int .i64 0, .int .i64 0, .int .i64 0, .bool false, .slice none 0 0] 31)
  have hF := heap_alloc_new (w.alloc (.cells #[.int .i64 W, .int .i64 H, .int .i64 D, .bool A] 24)) (.cells #[.int .i64 0, .int .i64 0, .int .i64 0, .bool false, .slice none 0 0] 31)
  rw [World.size_alloc] at hF
  have hS := hS0.keep hk2 (by simp)
  have hk0 := hk1.trans hk2
  obtain ⟨wa, ewa⟩ : ∃ wa, wa = (w.alloc (.cells #[.int .i64 W, .int .i64 H, .int .i64 D, .bool A] 24)).alloc (.cells #[.int .i64 0, .int .i64 0, .int .i64 0, .bool false, .slice none 0 0] 31) := ⟨_, rfl⟩
  rw [← ewa] at hS hk0 hF
  obtain ⟨q0, q1, q2, q3⟩ := hS
  have QS := Hid.mk (Sat.mk q0 q1 q2 q3)
  have HK := Hid.mk hk0
  clear hk0 hk1 hk2 hS0
  have hmix : Tryd.prog.follows .mixedOrders = true := by kernel_rfl
  go_enter Tryd.func33, Tryd.ntmps33
  go_wp2
  rw [← ewa]
  clear ewa
  obtain ⟨b, eb⟩ : ∃ b, b = w.heap.size := ⟨_, rfl⟩
  obtain ⟨b1, eb1⟩ : ∃ b1, b1 = w.heap.size + 1 := ⟨_, rfl⟩
  rw [← eb1] at hF
  rw [← eb] at QS q0 q1 q2 q3
  have HB := Hid.mk (And.intro hF (And.intro eb eb1))
  have n01 : b ≠ b1 := by omega
  have n10 : b1 ≠ b := by omega
  rw [← eb1, ← eb]
  clear eb eb1 hF
  refine wp_region_held_drew (S := fun u => u.cell? ⟨b, 0, none⟩ = some (.int .i64 W) ∧ u.cell? ⟨b, 1, none⟩ = some (.int .i64 H) ∧ u.cell? ⟨b, 2, none⟩ = some (.int .i64 D) ∧ u.cell? ⟨b, 3, none⟩ = some (.bool A)) hmix ⟨q0, q1, q2, q3⟩ (fun hHeld => ?_)
  refine wpAnyH_take (i := 1) (v := ?_) rfl (by kernel_rfl) (by kernel_rfl) (by kernel_rfl) (fun _ _ _ h => h) (Or.inl ⟨by rfl, ?_⟩) (by assumption) ?_
  rotate_left
  · intro w hSw
    try dsimp only at hSw
    obtain ⟨s1, s2, s3, s4⟩ := hSw
    go_simp
    all_goals with_reducible rfl
  try simp only [Act.put, List.getElem_toArray, List.getElem_cons_zero, List.getElem_cons_succ, List.setIfInBounds_toArray, List.set_cons_zero, List.set_cons_succ]
  refine wpAnyH_take (i := 2) (v := ?_) rfl (by kernel_rfl) (by kernel_rfl) (by kernel_rfl) (fun _ _ _ h => h) (Or.inl ⟨by rfl, ?_⟩) (by assumption) ?_
  rotate_left
  · intro w hSw
    try dsimp only at hSw
    obtain ⟨s1, s2, s3, s4⟩ := hSw
    go_simp
    all_goals with_reducible rfl
  try simp only [Act.put, List.getElem_toArray, List.getElem_cons_zero, List.getElem_cons_succ, List.setIfInBounds_toArray, List.set_cons_zero, List.set_cons_succ]
  refine wpAnyH_ready (rs := [0]) (by kernel_rfl) (by simp) ?_
  refine AllReadyH.cons rfl (fun K9 hK9 => ?_) AllReadyH.nil
  go_simp
  refine (C1.out _).mono ?_
  rintro e w1 ⟨rfl, hk1⟩
  obtain ⟨z0, z1, z2, z3⟩ := QS.out.keep hk1.undrew (by simp)
  refine hK9.out _ _ ⟨z0, z1, z2, z3⟩ (fun hHeld2 => ?_)
  clear hK9 K9
  try simp only [Act.put, List.getElem_toArray, List.getElem_cons_zero, List.getElem_cons_succ, List.setIfInBounds_toArray, List.set_cons_zero, List.set_cons_succ]
  refine wpAnyH_ready (rs := [3]) (by kernel_rfl) (by simp) ?_
  refine AllReadyH.cons rfl (fun K9 hK9 => ?_) AllReadyH.nil
  go_simp
  refine (C2.out _ (HK.out.trans hk1.undrew)).mono ?_
  rintro e w2 ⟨x1, x2, x3, x4, po, n, k, z, rfl, hk2, hq⟩
  have hk12 := hk1.undrew.trans hk2
  obtain ⟨y0, y1, y2, y3⟩ := QS.out.keep hk12 (by simp)
  have HO := Hid.mk hq
  clear hq hk2
  refine hK9.out _ _ ⟨y0, y1, y2, y3⟩ (fun hHeld2 => ?_)
  clear hK9 K9
  try simp only [Act.put, List.getElem_toArray, List.getElem_cons_zero, List.getElem_cons_succ, List.setIfInBounds_toArray, List.set_cons_zero, List.set_cons_succ]
  refine wpAnyH_take (i := 4) (v := ?_) rfl (by kernel_rfl) (by kernel_rfl) (by kernel_rfl) (fun _ _ _ h => h) (Or.inl ⟨by rfl, ?_⟩) (by assumption) ?_
  rotate_left
  · intro w hSw
    try dsimp only at hSw
    obtain ⟨s1, s2, s3, s4⟩ := hSw
    go_simp
    all_goals with_reducible rfl
  try simp only [Act.put, List.getElem_toArray, List.getElem_cons_zero, List.getElem_cons_succ, List.setIfInBounds_toArray, List.set_cons_zero, List.set_cons_succ]
  refine wpAnyH_take (i := 5) (v := ?_) rfl (by kernel_rfl) (by kernel_rfl) (by kernel_rfl) (fun _ _ _ h => h) (Or.inl ⟨by rfl, ?_⟩) (by assumption) ?_
  rotate_left
  · intro w hSw
    try dsimp only at hSw
    obtain ⟨s1, s2, s3, s4⟩ := hSw
    go_simp
    all_goals with_reducible rfl
  try simp only [Act.put, List.getElem_toArray, List.getElem_cons_zero, List.getElem_cons_succ, List.setIfInBounds_toArray, List.set_cons_zero, List.set_cons_succ]
  have hF2 := hk12.heap HB.out.1 (by simp)
  obtain ⟨⟨r0, r1, r2, r3, r4⟩, s0, s1, s2, s3, s4⟩ := five hF2
  have s5 := set5 (.int .i64 x1) (.int .i64 x2) (.int .i64 x3) (.bool x4) (.slice po n k) hF2
  obtain ⟨u0, u1, u2, u3⟩ := (Sat.mk y0 y1 y2 y3).keep s5.2 (by simp; omega)
  have HS5 := Hid.mk s5
  clear hF2 s5
  refine wpAnyH_ready (rs := [6]) (by kernel_rfl) (by simp) ?_
  refine AllReadyH.cons rfl (fun K9 hK9 => ?_) AllReadyH.nil
  go_simp
  refine hK9.out _ _ ⟨u0, u1, u2, u3⟩ (fun hHeld3 => ?_)
  clear hK9 K9
  try simp only [Act.put, List.getElem_toArray, List.getElem_cons_zero, List.getElem_cons_succ, List.setIfInBounds_toArray, List.set_cons_zero, List.set_cons_succ]
  refine wpAnyH_take (i := 7) (v := ?_) rfl (by kernel_rfl) (by kernel_rfl) (by kernel_rfl) (fun _ _ _ h => h) (Or.inl ⟨by rfl, ?_⟩) (by assumption) ?_
  rotate_left
  · intro w hSw
    try dsimp only at hSw
    obtain ⟨s1, s2, s3, s4⟩ := hSw
    go_simp
    all_goals with_reducible rfl
  try simp only [Act.put, List.getElem_toArray, List.getElem_cons_zero, List.getElem_cons_succ, List.setIfInBounds_toArray, List.set_cons_zero, List.set_cons_succ]
  refine wpAnyH_done (by kernel_rfl) ?_ _
  have s5 := HS5.out
  obtain ⟨wz, ewz⟩ : ∃ wz, wz = ((((w2.setCell ⟨b1, 0, none⟩ (.int .i64 x1)).setCell ⟨b1, 1, none⟩ (.int .i64 x2)).setCell ⟨b1, 2, none⟩ (.int .i64 x3)).setCell ⟨b1, 3, none⟩ (.bool x4)).setCell ⟨b1, 4, none⟩ (.slice po n k) := ⟨_, rfl⟩
  rw [← ewz] at s5 ⊢
  obtain ⟨⟨v0, v1, v2, v3, v4⟩, _⟩ := five s5.1
  have HS6 := Hid.mk s5.2
  have heap5 := s5.1
  have HK12 := Hid.mk hk12
  have HK1 := Hid.mk hk1
  clear s5 HS5 ewz r0 r1 r2 r3 r4 s0 s1 s2 s3 s4 u0 u1 u2 u3 y0 y1 y2 y3 z0 z1 z2 z3 q0 q1 q2 q3 hk12 hk1 hHeld3
  go_wp2
  have hz := heap5
  refine bodyPost_ret (v := .tuple #[frv x1 x2 x3 x4 po n k, .int .i64 z]) ?_ rfl ?_
  · exact results_two rfl _ _ b1 31 _ (0, 0) _ _ rfl hz Tryd.underlying31 Tryd.info38 rfl
  have hl : b1 < w1.heap.size := lt_of_block (HK1.out.undrew.heap HB.out.1 (by simp))
  have eb1 := HB.out.2.2
  refine ⟨w1, x1, x2, x3, x4, po, n, k, z, w2, HK.out.trans HK1.out.undrew, by omega, rfl, (HK.out.trans HK12.out).step HS6.out (fun x hx => by simp at hx; right; omega), by rw [← eb1]; exact HS6.out, HO.out⟩
end Go.Proofs.YtodlkpcbkilglaaDoor
