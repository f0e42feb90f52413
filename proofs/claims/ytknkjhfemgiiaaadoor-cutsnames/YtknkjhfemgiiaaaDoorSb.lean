import Derived.Test.YtknkjhfemgiiaaaDoorSa
namespace Go.Proofs.YtknkjhfemgiiaaaDoor
open Go.RowKit Go.Lib

/-- What a step of a scan leaves. -/
def ScP (B b : Nat) (w w' : World) (s : Sn) : Prop := ∃ vw vs sy, Sc B w' b s vw vs sy ∧ Bx B b w w'
theorem isBlank_any (r : Int) (w : World) : Calls Tryd.prog 43 #[.int .i32 r] w fun e w' => e = .returned (.bool (blk r)) ∧ w' = w := by
  go_enter Tryd.func43, Tryd.ntmps43
  go_wp2
  all_goals go_ret
  all_goals (refine ⟨?_, rfl⟩; simp_all [blk])

set_option maxHeartbeats 4000000 in
set_option maxRecDepth 1000000 in
/-- A word ends. -/
theorem end_any (B b : Nat) (w : World) (s : Sn) (vw vs : Value) (sy : ByteArray) (h : Sc B w b s vw vs sy) (hB : B ≤ w.heap.size) (hn : s.ws.length ≤ 100000) :
    Calls Tryd.prog 44 #[.pointer (some ⟨b, 0, none⟩)] w fun e w' => e = .returned (.tuple #[]) ∧ ScP B b w w' (snE s) := by
  have hcv := signs_say h.sr
  obtain ⟨c0, c1, c2, c3, c4, c5⟩ := h.cells
  have f4 := h.fz 4
  obtain ⟨S1, K1⟩ := h.set (s' := s) (vw' := vw) (vs' := vs) (sy' := runesBytes s.sg) 4 (.string (runesBytes s.sg)) rfl h.wr h.sr
  obtain ⟨w1, e1⟩ : ∃ w1, w.setCell ⟨b, 4, none⟩ (.string (runesBytes s.sg)) = w1 := ⟨_, rfl⟩
  rw [e1] at S1 K1
  have HS := Hid.mk S1
  have HK := Hid.mk (K1.bb hB)
  have hB1 : B ≤ w1.heap.size := Nat.le_trans hB K1.size
  clear S1 K1 h
  go_enter Tryd.func44, Tryd.ntmps44
  go_wp2_with (fail)
  clear c0 c1 c2 c3 c4 c5 f4 hcv e1
  obtain ⟨d0, d1, d2, d3, d4, d5⟩ := HS.out.cells
  have SA : Hid (∀ u, Kept [] w1 u → u.cell? ⟨b, 2, none⟩ = some (.int .i64 s.kd) ∧ u.cell? ⟨b, 3, none⟩ = some (.int .i64 s.pl) ∧ u.cell? ⟨b, 4, none⟩ = some (.string (runesBytes s.sg))) := Hid.mk (fun u hu => ⟨cell_keep hu d2 (by simp), cell_keep hu d3 (by simp), cell_keep hu d4 (by simp)⟩)
  have SL : Hid (∀ u, Kept [] w1 u → u.cell? ⟨b, 1, none⟩ = some vw) := Hid.mk (fun u hu => cell_keep hu d1 (by simp))
  clear d0 d1 d2 d3 d4 d5
  refine wp_region_held_drew (S := fun u => u.cell? ⟨b, 2, none⟩ = some (.int .i64 s.kd) ∧ u.cell? ⟨b, 3, none⟩ = some (.int .i64 s.pl) ∧ u.cell? ⟨b, 4, none⟩ = some (.string (runesBytes s.sg))) (by kernel_rfl) (SA.out _ (Kept.refl [] w1).drew) (fun hH0 => ?_)
  have KD := Hid.mk ((Kept.refl [] w1).drew)
  generalize w1.drew = wd at *
  refine wpAnyH_take (i := 0) (v := ?_) rfl (by kernel_rfl) (by kernel_rfl) (by kernel_rfl) (fun _ _ _ h => h) (Or.inl ⟨by rfl, ?_⟩) (by assumption) ?_
  rotate_left
  · intro w hSw
    try dsimp only at hSw
    go_simp
    all_goals with_reducible rfl
  simp only [Act.put, List.getElem_toArray, List.getElem_cons_zero, List.setIfInBounds_toArray, List.set_cons_zero, List.set_cons_succ]
  refine wpAnyH_take (i := 1) (v := ?_) rfl (by kernel_rfl) (by kernel_rfl) (by kernel_rfl) (fun _ _ _ h => h) (Or.inl ⟨by rfl, ?_⟩) (by assumption) ?_
  rotate_left
  · intro w hSw
    try dsimp only at hSw
    go_simp
    all_goals with_reducible rfl
  simp only [Act.put, List.getElem_toArray, List.getElem_cons_zero, List.getElem_cons_succ, List.setIfInBounds_toArray, List.set_cons_zero, List.set_cons_succ]
  refine wpAnyH_take (i := 2) (v := ?_) rfl (by kernel_rfl) (by kernel_rfl) (by kernel_rfl) (fun _ _ _ h => h) (Or.inl ⟨by rfl, ?_⟩) (by assumption) ?_
  rotate_left
  · intro w hSw
    try dsimp only at hSw
    go_simp
    all_goals with_reducible rfl
  simp only [Act.put, List.getElem_toArray, List.getElem_cons_zero, List.getElem_cons_succ, List.setIfInBounds_toArray, List.set_cons_zero, List.set_cons_succ]
  refine wpAnyH_take (i := 3) (v := ?_) rfl (by kernel_rfl) (by kernel_rfl) (by kernel_rfl) (fun _ _ _ h => h) (Or.inl ⟨by rfl, ?_⟩) (by assumption) ?_
  rotate_left
  · intro w hSw
    try dsimp only at hSw
    go_simp
    all_goals with_reducible rfl
  simp only [Act.put, List.getElem_toArray, List.getElem_cons_zero, List.getElem_cons_succ, List.setIfInBounds_toArray, List.set_cons_zero, List.set_cons_succ]
  refine wpAnyH_take (i := 5) (v := ?_) rfl (by kernel_rfl) (by kernel_rfl) (by kernel_rfl) (fun _ _ _ h => h) (Or.inl ⟨by rfl, ?_⟩) (by assumption) ?_
  rotate_left
  · intro w hSw
    try dsimp only at hSw
    go_simp
    all_goals with_reducible rfl
  simp only [Act.put, List.getElem_toArray, List.getElem_cons_zero, List.getElem_cons_succ, List.setIfInBounds_toArray, List.set_cons_zero, List.set_cons_succ]
  refine wpAnyH_take (i := 6) (v := ?_) rfl (by kernel_rfl) (by kernel_rfl) (by kernel_rfl) (fun _ _ _ h => h) (Or.inl ⟨by rfl, ?_⟩) (by assumption) ?_
  rotate_left
  · intro w hSw
    try dsimp only at hSw
    go_simp
    all_goals with_reducible rfl
  simp only [Act.put, List.getElem_toArray, List.getElem_cons_zero, List.getElem_cons_succ, List.setIfInBounds_toArray, List.set_cons_zero, List.set_cons_succ]
  refine wpAnyH_take (i := 7) (v := ?_) rfl (by kernel_rfl) (by kernel_rfl) (by kernel_rfl) (fun _ _ _ h => h) (Or.inl ⟨by rfl, ?_⟩) (by assumption) ?_
  rotate_left
  · intro w hSw
    try dsimp only at hSw
    go_simp
    all_goals with_reducible rfl
  simp only [Act.put, List.getElem_toArray, List.getElem_cons_zero, List.getElem_cons_succ, List.setIfInBounds_toArray, List.set_cons_zero, List.set_cons_succ]
  refine wpAnyH_take (i := 8) (v := ?_) rfl (by kernel_rfl) (by kernel_rfl) (by kernel_rfl) (fun _ _ _ h => h) (Or.inl ⟨by rfl, ?_⟩) (by assumption) ?_
  rotate_left
  · intro w hSw
    try dsimp only at hSw
    go_simp
    all_goals with_reducible rfl
  simp only [Act.put, List.getElem_toArray, List.getElem_cons_zero, List.getElem_cons_succ, List.setIfInBounds_toArray, List.set_cons_zero, List.set_cons_succ]
  have HD := HS.out.keep KD.out
  obtain ⟨g, c, w3, hrun, e1, z1, hbx, S3, B3⟩ := HD.appW (Nat.le_trans hB1 KD.out.size) hn
  obtain ⟨x0, x1, x2, x3, x4, x5⟩ := HD.cells
  have HC : Hid (w3.cell? ⟨b, 2, none⟩ = some (.int .i64 s.kd) ∧ w3.cell? ⟨b, 3, none⟩ = some (.int .i64 s.pl) ∧ w3.cell? ⟨b, 4, none⟩ = some (.string (runesBytes s.sg))) := Hid.mk (by
    unfold World.cell? at x1 x2 x3 x4 ⊢; rw [hbx]; exact ⟨x2, x3, x4⟩)
  obtain ⟨y0, y1, y2, y3, y4, y5⟩ := S3.cells
  have HE : Hid ((w3.setCell ⟨b, 1, none⟩ (.slice (some ⟨g, 0, none⟩) (s.ws.length + 1) c)).cell? ⟨b, 2, none⟩ = some (.int .i64 s.kd) ∧ (w3.setCell ⟨b, 1, none⟩ (.slice (some ⟨g, 0, none⟩) (s.ws.length + 1) c)).cell? ⟨b, 3, none⟩ = some (.int .i64 s.pl) ∧ (w3.setCell ⟨b, 1, none⟩ (.slice (some ⟨g, 0, none⟩) (s.ws.length + 1) c)).cell? ⟨b, 4, none⟩ = some (.string (runesBytes s.sg))) := Hid.mk ⟨y2, y3, y4⟩
  have HS3 := Hid.mk (And.intro S3 B3)
  clear S3 B3 hbx x0 x1 x2 x3 x4 x5 y0 y1 y2 y3 y4 y5 HD
  refine wpAnyH_ready (rs := [4, 9]) (by kernel_rfl) (by simp) ?_
  refine AllReadyH.cons rfl (fun K9 hK9 => ?_) (AllReadyH.cons rfl (fun K9 hK9 => ?_) AllReadyH.nil)
  · have c0 := SL.out wd KD.out
    go_simp
    refine hK9.out _ _ (SA.out _ KD.out) (fun hHeld2 => ?_)
    clear hK9 K9 c0
    refine wpAnyH_ready (rs := [9]) (by kernel_rfl) (by simp) ?_
    refine AllReadyH.cons rfl (fun K9 hK9 => ?_) AllReadyH.nil
    go_simp
    refine hK9.out _ _ (SA.out _ (KD.out.alloc _)) (fun hHeld2 => ?_)
    clear hK9 K9
    refine wpAnyH_ready (rs := [10]) (by kernel_rfl) (by simp) ?_
    refine AllReadyH.cons rfl (fun K9 hK9 => ?_) AllReadyH.nil
    refine step_app rfl _ _ 41 rfl _ _ _ _ rfl rfl hrun ?_
    simp only [Act.put, List.getElem_toArray, List.getElem_cons_zero, List.getElem_cons_succ, List.setIfInBounds_toArray, List.set_cons_zero, List.set_cons_succ]
    refine hK9.out _ _ HC.out (fun hHeld2 => ?_)
    clear hK9 K9
    refine wpAnyH_take (i := 11) (v := ?_) rfl (by kernel_rfl) (by kernel_rfl) (by kernel_rfl) (fun _ _ _ h => h) (Or.inl ⟨by rfl, ?_⟩) (by assumption) ?_
    rotate_left
    · intro w hSw
      try dsimp only at hSw
      go_simp
      all_goals with_reducible rfl
    simp only [Act.put, List.getElem_toArray, List.getElem_cons_zero, List.getElem_cons_succ, List.setIfInBounds_toArray, List.set_cons_zero, List.set_cons_succ]
    refine wpAnyH_take (i := 12) (v := ?_) rfl (by kernel_rfl) (by kernel_rfl) (by kernel_rfl) (fun _ _ _ h => h) (Or.inl ⟨by rfl, ?_⟩) (by assumption) ?_
    rotate_left
    · intro w hSw
      try dsimp only at hSw
      go_simp
      all_goals with_reducible rfl
    simp only [Act.put, List.getElem_toArray, List.getElem_cons_zero, List.getElem_cons_succ, List.setIfInBounds_toArray, List.set_cons_zero, List.set_cons_succ]
    refine wpAnyH_ready (rs := [13]) (by kernel_rfl) (by simp) ?_
    refine AllReadyH.cons rfl (fun K9 hK9 => ?_) AllReadyH.nil
    go_simp
    refine hK9.out _ _ HE.out (fun hHeld2 => ?_)
    clear hK9 K9
    refine wpAnyH_done (by kernel_rfl) ?_ _
    clear SA SL hrun e1 z1 HC HE hH0
    obtain ⟨z0, -⟩ := HS3.out.1.cells
    have zf := HS3.out.1.fz 0
    obtain ⟨S4, K4⟩ := HS3.out.1.set (s' := snE s) (vw' := .slice (some ⟨g, 0, none⟩) (s.ws.length + 1) c) (vs' := vs) (sy' := runesBytes s.sg) 0 (.int .i64 0) rfl HS3.out.1.wr HS3.out.1.sr
    have HF := Hid.mk (And.intro S4 ((HK.out.trans ((KD.out.b0 hB1).trans HS3.out.2)).trans (K4.bb (Nat.le_trans (Nat.le_trans hB1 KD.out.size) HS3.out.2.size))))
    clear HS3 S4 K4
    go_wp2
    go_end0
    exact ⟨rfl, _, _, _, HF.out.1, HF.out.2⟩
  · go_simp
    refine hK9.out _ _ (SA.out _ (KD.out.alloc _)) (fun hHeld2 => ?_)
    clear hK9 K9
    refine wpAnyH_ready (rs := [4]) (by kernel_rfl) (by simp) ?_
    refine AllReadyH.cons rfl (fun K9 hK9 => ?_) AllReadyH.nil
    have c0 := SL.out (wd.alloc (.cells #[.int .i64 s.kd, .int .i64 s.pl, .string (runesBytes s.sg)] 56 (0, 0))) (KD.out.alloc _)
    go_simp
    refine hK9.out _ _ (SA.out _ (KD.out.alloc _)) (fun hHeld2 => ?_)
    clear hK9 K9 c0
    refine wpAnyH_ready (rs := [10]) (by kernel_rfl) (by simp) ?_
    refine AllReadyH.cons rfl (fun K9 hK9 => ?_) AllReadyH.nil
    refine step_app rfl _ _ 41 rfl _ _ _ _ rfl rfl hrun ?_
    simp only [Act.put, List.getElem_toArray, List.getElem_cons_zero, List.getElem_cons_succ, List.setIfInBounds_toArray, List.set_cons_zero, List.set_cons_succ]
    refine hK9.out _ _ HC.out (fun hHeld2 => ?_)
    clear hK9 K9
    refine wpAnyH_take (i := 11) (v := ?_) rfl (by kernel_rfl) (by kernel_rfl) (by kernel_rfl) (fun _ _ _ h => h) (Or.inl ⟨by rfl, ?_⟩) (by assumption) ?_
    rotate_left
    · intro w hSw
      try dsimp only at hSw
      go_simp
      all_goals with_reducible rfl
    simp only [Act.put, List.getElem_toArray, List.getElem_cons_zero, List.getElem_cons_succ, List.setIfInBounds_toArray, List.set_cons_zero, List.set_cons_succ]
    refine wpAnyH_take (i := 12) (v := ?_) rfl (by kernel_rfl) (by kernel_rfl) (by kernel_rfl) (fun _ _ _ h => h) (Or.inl ⟨by rfl, ?_⟩) (by assumption) ?_
    rotate_left
    · intro w hSw
      try dsimp only at hSw
      go_simp
      all_goals with_reducible rfl
    simp only [Act.put, List.getElem_toArray, List.getElem_cons_zero, List.getElem_cons_succ, List.setIfInBounds_toArray, List.set_cons_zero, List.set_cons_succ]
    refine wpAnyH_ready (rs := [13]) (by kernel_rfl) (by simp) ?_
    refine AllReadyH.cons rfl (fun K9 hK9 => ?_) AllReadyH.nil
    go_simp
    refine hK9.out _ _ HE.out (fun hHeld2 => ?_)
    clear hK9 K9
    refine wpAnyH_done (by kernel_rfl) ?_ _
    clear SA SL hrun e1 z1 HC HE hH0
    obtain ⟨z0, -⟩ := HS3.out.1.cells
    have zf := HS3.out.1.fz 0
    obtain ⟨S4, K4⟩ := HS3.out.1.set (s' := snE s) (vw' := .slice (some ⟨g, 0, none⟩) (s.ws.length + 1) c) (vs' := vs) (sy' := runesBytes s.sg) 0 (.int .i64 0) rfl HS3.out.1.wr HS3.out.1.sr
    have HF := Hid.mk (And.intro S4 ((HK.out.trans ((KD.out.b0 hB1).trans HS3.out.2)).trans (K4.bb (Nat.le_trans (Nat.le_trans hB1 KD.out.size) HS3.out.2.size))))
    clear HS3 S4 K4
    go_wp2
    go_end0
    exact ⟨rfl, _, _, _, HF.out.1, HF.out.2⟩
end Go.Proofs.YtknkjhfemgiiaaaDoor
