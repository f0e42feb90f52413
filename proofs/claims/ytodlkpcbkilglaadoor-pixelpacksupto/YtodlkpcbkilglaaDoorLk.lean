import Derived.Test.YtodlkpcbkilglaaDoorRkZ
namespace Go.Proofs.YtodlkpcbkilglaaDoor
open Go.RowKit

/-- A list of planes that is lent: what stands in it, how long its rows are, and what stands in them. -/
def ltv (n : Nat) (ln gs : Nat → Nat) (i : Nat) : Value := if i < n then .slice (some ⟨gs i, 0, none⟩) (ln i) (ln i + 70) else .slice (some ⟨gs i, 0, none⟩) 1 1
def ltN (n : Nat) (ln : Nat → Nat) (i : Nat) : Nat := if i < n then ln i + 70 else 1
def ltG (n : Nat) (ln : Nat → Nat) (F : Nat → Nat → Nat) (i : Nat) : Nat → Nat := if i < n then ltF (F i) (ln i) else fun _ => 60001
structure LtP (w : World) (G n k : Nat) (ln gs : Nat → Nat) (F : Nat → Nat → Nat) : Prop where
  box : w.heap[G]? = some (.cells (fl (fun i => if i < k then ltv n ln gs i else .slice none 0 0) (n + 3)).toArray 68 (0, 0))
  row : ∀ i, i < k → Row w (gs i) (ltN n ln i) (ltG n ln F i)
  lo : ∀ i, i < k → G < gs i
  mon : ∀ i j, i < j → j < k → gs i < gs j
theorem LtP.keep {w w' : World} {G n k : Nat} {ln gs : Nat → Nat} {F : Nat → Nat → Nat} (h : LtP w G n k ln gs F) (hk : Kept [] w w') : LtP w' G n k ln gs F :=
  ⟨hk.heap h.box (by simp), fun i hi => (h.row i hi).keep hk (by simp), h.lo, h.mon⟩
theorem LtP.step {w w1 : World} {G n k g : Nat} {ln gs : Nat → Nat} {F : Nat → Nat → Nat} (h : LtP w G n k ln gs F) (hk : Kept [] w w1) (hr : Row w1 g (ltN n ln k) (ltG n ln F k)) (hg : w.heap.size ≤ g) (hkn : k < n + 3) :
    LtP (w1.setCell ⟨G, k, none⟩ (ltv n ln (fun i => if i = k then g else gs i) k)) G n (k + 1) ln (fun i => if i = k then g else gs i) F := by
  have hG := lt_of_block h.box
  have Ks : Kept [G] w1 (w1.setCell ⟨G, k, none⟩ (ltv n ln (fun i => if i = k then g else gs i) k)) := (Kept.refl _ _).setCell (p := ⟨G, k, none⟩) (.inl (by simp)) _
  refine ⟨?_, fun i hi => ?_, fun i hi => ?_, fun i j hij hj => ?_⟩
  · rw [heap_setCell_at (hk.heap h.box (by simp)), List.setIfInBounds_toArray]
    congr 3
    apply List.ext_getElem?
    intro t
    by_cases ht : t < n + 3
    · rw [List.getElem?_set, fl_at _ _ _ ht, fl_at _ _ _ ht, fl_length]
      by_cases e : k = t
      · subst e
        rw [if_pos rfl, if_pos ht, if_pos (by omega)]
      · rw [if_neg e]
        have e2 : ltv n ln (fun i => if i = k then g else gs i) t = ltv n ln gs t := by unfold ltv; simp [Ne.symm e]
        rw [e2]
        by_cases h2 : t < k
        · rw [if_pos h2, if_pos (by omega)]
        · rw [if_neg h2, if_neg (by omega)]
    · rw [List.getElem?_eq_none (by simp [fl_length]; omega), List.getElem?_eq_none (by rw [fl_length]; omega)]
  · by_cases e : i = k
    · subst e
      simp only [if_true]
      exact hr.keep Ks (by simp; omega)
    · simp only [if_neg e]
      exact ((h.row i (by omega)).keep hk (by simp)).keep Ks (by have := h.lo i (by omega); simp; omega)
  · show G < if i = k then g else gs i
    split
    · omega
    · exact h.lo i (by omega)
  · show (if i = k then g else gs i) < if j = k then g else gs j
    rw [if_neg (show i ≠ k by omega)]
    split
    · have := (h.row i (by omega)).lt; omega
    · exact h.mon i j hij (by omega)

set_option maxHeartbeats 8000000 in
set_option maxRecDepth 1000000 in
theorem lentFrame_any (W H D : Int) (A : Bool) (po : Option Addr) (n c : Nat) (ln : Nat → Nat) (F : Nat → Nat → Nat) (w : World) (hr : Pl w po n ln F) (hn : n ≤ 1048576) (hln : ∀ i, i < n → ln i ≤ 1048576) :
    Calls Tryd.prog 14 #[frv W H D A po n c] w fun e w' => ∃ G gs, e = .returned (frv W H D A (some ⟨G, 0, none⟩) n (n + 3)) ∧ LtP w' G n (n + 3) ln gs F ∧ w.heap.size ≤ G ∧ Kept [] w w' := by
  have Hr := Hid.mk hr
  have Hln := Hid.mk hln
  have HN := Hid.mk hn
  clear hr hln
  obtain ⟨mkW, hmk, hmw⟩ := make_lists (n + 3) ((n : Int) + 3) (by omega) (by omega)
  have HMW := Hid.mk hmw
  obtain ⟨w2, ew2⟩ : ∃ w2, w2 = (w.alloc (.cells #[.int .i64 W, .int .i64 H, .int .i64 D, .bool A, .slice po n c] 31)).alloc (.cells #[.int .i64 0, .int .i64 0, .int .i64 0, .bool false, .slice none 0 0] 31) := ⟨_, rfl⟩
  have P2 : w2.heap[w.heap.size]? = some (.cells #[.int .i64 W, .int .i64 H, .int .i64 D, .bool A, .slice po n c] 31 (0, 0)) ∧ w2.heap[w.heap.size + 1]? = some (.cells #[.int .i64 0, .int .i64 0, .int .i64 0, .bool false, .slice none 0 0] 31 (0, 0)) ∧ Kept [] w w2 := by
    have h1 := heap_alloc_new w (.cells #[.int .i64 W, .int .i64 H, .int .i64 D, .bool A, .slice po n c] 31)
    have h2 := heap_alloc_new (w.alloc (.cells #[.int .i64 W, .int .i64 H, .int .i64 D, .bool A, .slice po n c] 31)) (.cells #[.int .i64 0, .int .i64 0, .int .i64 0, .bool false, .slice none 0 0] 31)
    have k2 := alloc_kept (w.alloc (.cells #[.int .i64 W, .int .i64 H, .int .i64 D, .bool A, .slice po n c] 31)) (.cells #[.int .i64 0, .int .i64 0, .int .i64 0, .bool false, .slice none 0 0] 31)
    rw [World.size_alloc] at h2
    rw [ew2]
    exact ⟨k2.heap h1 (by simp), h2, (alloc_kept w _).trans k2⟩
  obtain ⟨b, eb⟩ : ∃ b, b = w.heap.size := ⟨_, rfl⟩
  rw [← eb] at P2
  have HP2 := Hid.mk (And.intro P2 eb)
  have hm := hmw w2
  have hm1 := hmk w2
  obtain ⟨G, eG⟩ : ∃ G, G = w2.heap.size := ⟨_, rfl⟩
  rw [← eG] at hm hm1
  obtain ⟨w3, ew3⟩ : ∃ w3, w3 = mkW w2 := ⟨_, rfl⟩
  rw [← ew3] at hm hm1
  have HM := Hid.mk hm
  have HB3 : Hid (w3.heap[b]? = some (.cells #[.int .i64 W, .int .i64 H, .int .i64 D, .bool A, .slice po n c] 31 (0, 0)) ∧ w3.heap[b + 1]? = some (.cells #[.int .i64 0, .int .i64 0, .int .i64 0, .bool false, .slice none 0 0] 31 (0, 0)) ∧ Kept [] w w3) := Hid.mk ⟨hm.2.heap P2.1 (by simp), hm.2.heap P2.2.1 (by simp), P2.2.2.trans hm.2⟩
  have HG : Hid (b + 1 < G ∧ w.heap.size ≤ G) := Hid.mk ⟨by rw [eG]; exact lt_of_block P2.2.1, by rw [eG]; exact P2.2.2.size⟩
  have L0 : Hid (LtP w3 G n 0 ln (fun _ => 0) F) := Hid.mk ⟨by rw [hm.1]; congr 3, fun i hi => by omega, fun i hi => by omega, fun i j _ hj => by omega⟩
  obtain ⟨⟨p0, p1, p2, p3, p4⟩, _⟩ := five P2.1
  have hnn : (n : Int) ≤ 1048576 := by omega
  have eG2 : w.heap.size + 1 + 1 = G := by rw [eG, ew2, World.size_alloc, World.size_alloc]
  have EE := Hid.mk (And.intro ew2 (And.intro eb (And.intro eG2 ew3)))
  clear P2 hmw hm HMW hm1 ew2 eb eG eG2 ew3 p0 p1 p2 p3 p4
  go_enter Tryd.func14, Tryd.ntmps14
  go_wp2_with (fail)
  rw [← EE.out.1]
  rw [← EE.out.2.2.2, EE.out.2.2.1, ← EE.out.2.1]
  clear EE hmk
  go_loopw [4] (fun i wr => ∃ (k : Nat) (gs : Nat → Nat), k ≤ n + 3 ∧ i = .int .i64 (k : Int) ∧ LtP wr G n k ln gs F ∧ Kept [] w wr ∧ Kept [G] w3 wr) (fun i _ => n + 3 - (intOf i).toNat)
  case atStart => exact ⟨0, _, by omega, rfl, L0.out, HB3.out.2.2, Kept.refl _ _⟩
  case round =>
    obtain ⟨k, gs, hk, rfl, hL, hkr, hkg⟩ := hrel
    have HL := Hid.mk hL
    have HK := Hid.mk (And.intro hkr hkg)
    obtain ⟨⟨p0, p1, p2, p3, p4⟩, _⟩ := five (hkg.heap HB3.out.1 (by have := HG.out; simp; omega))
    by_cases hlt : k < n + 3
    · have ix : (k : Int) < (n : Int) + 3 := by omega
      by_cases hin : k < n
      · have ix2 : (k : Int) < (n : Int) := by omega
        obtain ⟨g, off, bo, c', rfl, hc0, hrd⟩ := Hr.out.at hin
        have hc := cell_keep hkr hc0 (by simp)
        have CL := Hid.mk (lent16_any bo (ln k) c' (F k) wr (hrd.keep hkr) (by have := Hln.out k hin; omega))
        obtain ⟨m, em⟩ : ∃ m, m = ln k := ⟨_, rfl⟩
        rw [← em] at hc CL
        have EM := Hid.mk em
        have hfz0 := Hid.mk hL.box
        clear hL hkr hkg em hc0 hrd
        go_wp2_with (go_at_call 41; refine CL.out.mono ?_; rintro e w5 ⟨rfl, hrow, hk5⟩; have hb5 := hk5.heap hfz0.out (by simp); have hf5 : w5.frozen? ⟨G, k, none⟩ = false := (by simp [World.frozen?, hb5]); have hc5 : w5.cell? ⟨G, k, none⟩ = some (.slice none 0 0) := (by rw [cell_of_row _ _ _ _ _ _ hb5, List.getElem?_toArray, fl_at _ _ _ hlt]; simp))
        have hS := HL.out.step (g := wr.heap.size) hk5 (by unfold ltN ltG; rw [if_pos hin, if_pos hin, ← EM.out]; exact hrow) (Nat.le_refl _) hlt
        rw [show ltv n ln (fun i => if i = k then wr.heap.size else gs i) k = .slice (some ⟨wr.heap.size, 0, none⟩) m (m + 70) by unfold ltv; rw [if_pos hin, ← EM.out]; simp] at hS
        exact ⟨⟨k + 1, _, by omega, by go_num, hS, (HK.out.1.trans hk5).setCell (p := ⟨G, k, none⟩) (.inr HG.out.2) _, (HK.out.2.trans (hk5.mono (by simp))).setCell (p := ⟨G, k, none⟩) (.inl (by simp)) _⟩, by simp [intOf]; omega⟩
      · have ix2 : ¬ (k : Int) < (n : Int) := by omega
        have hk5 := alloc_kept wr (.cells #[.int .u16 60001] 70)
        have hrow : Row (wr.alloc (.cells #[.int .u16 60001] 70)) wr.heap.size 1 (fun _ => 60001) := heap_alloc_new wr _
        have hb5 := hk5.heap hL.box (by simp)
        have hf5 : (wr.alloc (.cells #[.int .u16 60001] 70)).frozen? ⟨G, k, none⟩ = false := by simp [World.frozen?, hb5]
        have hc5 : (wr.alloc (.cells #[.int .u16 60001] 70)).cell? ⟨G, k, none⟩ = some (.slice none 0 0) := by rw [cell_of_row _ _ _ _ _ _ hb5, List.getElem?_toArray, fl_at _ _ _ hlt]; simp
        have hS := Hid.mk (hL.step (g := wr.heap.size) hk5 (by unfold ltN ltG; rw [if_neg hin, if_neg hin]; exact hrow) (Nat.le_refl _) hlt)
        rw [show ltv n ln (fun i => if i = k then wr.heap.size else gs i) k = .slice (some ⟨wr.heap.size, 0, none⟩) 1 1 by unfold ltv; rw [if_neg hin]; simp] at hS
        have HK5 := Hid.mk hk5
        clear hL hkr hkg hk5 hrow hb5
        go_wp2_with (fail)
        exact ⟨⟨k + 1, _, by omega, by go_num, hS.out, (HK.out.1.trans HK5.out).setCell (p := ⟨G, k, none⟩) (.inr HG.out.2) _, (HK.out.2.trans (HK5.out.mono (by simp))).setCell (p := ⟨G, k, none⟩) (.inl (by simp)) _⟩, by simp [intOf]; omega⟩
    · obtain rfl : k = n + 3 := by omega
      have hR4 := hkg.heap HB3.out.2.1 (by have := HG.out; simp; omega)
      obtain ⟨⟨r0, r1, r2, r3, r4⟩, ⟨s0, s1, s2, s3, s4⟩⟩ := five hR4
      have HR4 := Hid.mk hR4
      clear hL hkr hkg hR4
      go_wp2_with (fail)
      have hnb : b ≠ b + 1 := by omega
      have hn3 : (n : Int) ≤ (n : Int) + 3 := by omega
      refine wp_region_held_drew (S := fun u => u.cell? ⟨b, 0, none⟩ = some (.int .i64 W) ∧ u.cell? ⟨b, 1, none⟩ = some (.int .i64 H) ∧ u.cell? ⟨b, 2, none⟩ = some (.int .i64 D) ∧ u.cell? ⟨b, 3, none⟩ = some (.bool A) ∧ u.cell? ⟨b, 4, none⟩ = some (.slice po n c)) (by kernel_rfl) ⟨p0, p1, p2, p3, p4⟩ (fun hHeld => ?_)
      refine wpAnyH_take (i := 0) (v := ?_) rfl (by kernel_rfl) (by kernel_rfl) (by kernel_rfl) (fun _ _ _ h => h) (Or.inl ⟨by rfl, ?_⟩) (by assumption) ?_
      rotate_left
      · intro w hSw
        try dsimp only at hSw
        obtain ⟨h0, h1, h2, h3, h4⟩ := hSw
        go_simp
        all_goals with_reducible rfl
      try simp only [Act.put, List.getElem_toArray, List.getElem_cons_zero, List.setIfInBounds_toArray, List.set_cons_zero, List.set_cons_succ]
      refine wpAnyH_take (i := 1) (v := ?_) rfl (by kernel_rfl) (by kernel_rfl) (by kernel_rfl) (fun _ _ _ h => h) (Or.inl ⟨by rfl, ?_⟩) (by assumption) ?_
      rotate_left
      · intro w hSw
        try dsimp only at hSw
        obtain ⟨h0, h1, h2, h3, h4⟩ := hSw
        go_simp
        all_goals with_reducible rfl
      try simp only [Act.put, List.getElem_toArray, List.getElem_cons_zero, List.getElem_cons_succ, List.setIfInBounds_toArray, List.set_cons_zero, List.set_cons_succ]
      refine wpAnyH_take (i := 2) (v := ?_) rfl (by kernel_rfl) (by kernel_rfl) (by kernel_rfl) (fun _ _ _ h => h) (Or.inl ⟨by rfl, ?_⟩) (by assumption) ?_
      rotate_left
      · intro w hSw
        try dsimp only at hSw
        obtain ⟨h0, h1, h2, h3, h4⟩ := hSw
        go_simp
        all_goals with_reducible rfl
      try simp only [Act.put, List.getElem_toArray, List.getElem_cons_zero, List.getElem_cons_succ, List.setIfInBounds_toArray, List.set_cons_zero, List.set_cons_succ]
      refine wpAnyH_take (i := 3) (v := ?_) rfl (by kernel_rfl) (by kernel_rfl) (by kernel_rfl) (fun _ _ _ h => h) (Or.inl ⟨by rfl, ?_⟩) (by assumption) ?_
      rotate_left
      · intro w hSw
        try dsimp only at hSw
        obtain ⟨h0, h1, h2, h3, h4⟩ := hSw
        go_simp
        all_goals with_reducible rfl
      try simp only [Act.put, List.getElem_toArray, List.getElem_cons_zero, List.getElem_cons_succ, List.setIfInBounds_toArray, List.set_cons_zero, List.set_cons_succ]
      refine wpAnyH_take (i := 4) (v := ?_) rfl (by kernel_rfl) (by kernel_rfl) (by kernel_rfl) (fun _ _ _ h => h) (Or.inl ⟨by rfl, ?_⟩) (by assumption) ?_
      rotate_left
      · intro w hSw
        try dsimp only at hSw
        obtain ⟨h0, h1, h2, h3, h4⟩ := hSw
        go_simp
        all_goals with_reducible rfl
      try simp only [Act.put, List.getElem_toArray, List.getElem_cons_zero, List.getElem_cons_succ, List.setIfInBounds_toArray, List.set_cons_zero, List.set_cons_succ]
      refine wpAnyH_take (i := 5) (v := ?_) rfl (by kernel_rfl) (by kernel_rfl) (by kernel_rfl) (fun _ _ _ h => h) (Or.inl ⟨by rfl, ?_⟩) (by assumption) ?_
      rotate_left
      · intro w hSw
        try dsimp only at hSw
        obtain ⟨h0, h1, h2, h3, h4⟩ := hSw
        go_simp
        all_goals with_reducible rfl
      try simp only [Act.put, List.getElem_toArray, List.getElem_cons_zero, List.getElem_cons_succ, List.setIfInBounds_toArray, List.set_cons_zero, List.set_cons_succ]
      refine wpAnyH_take (i := 6) (v := ?_) rfl (by kernel_rfl) (by kernel_rfl) (by kernel_rfl) (fun _ _ _ h => h) (Or.inl ⟨by rfl, ?_⟩) (by assumption) ?_
      rotate_left
      · intro w hSw
        try dsimp only at hSw
        obtain ⟨h0, h1, h2, h3, h4⟩ := hSw
        go_simp
        all_goals with_reducible rfl
      try simp only [Act.put, List.getElem_toArray, List.getElem_cons_zero, List.getElem_cons_succ, List.setIfInBounds_toArray, List.set_cons_zero, List.set_cons_succ]
      refine wpAnyH_take (i := 7) (v := ?_) rfl (by kernel_rfl) (by kernel_rfl) (by kernel_rfl) (fun _ _ _ h => h) (Or.inl ⟨by rfl, ?_⟩) (by assumption) ?_
      rotate_left
      · intro w hSw
        try dsimp only at hSw
        obtain ⟨h0, h1, h2, h3, h4⟩ := hSw
        go_simp
        all_goals with_reducible rfl
      try simp only [Act.put, List.getElem_toArray, List.getElem_cons_zero, List.getElem_cons_succ, List.setIfInBounds_toArray, List.set_cons_zero, List.set_cons_succ]
      have s5 := set5 (.int .i64 W) (.int .i64 H) (.int .i64 D) (.bool A) (.slice (some ⟨G, 0, none⟩) n (n + 3)) HR4.out
      have y0 := cell_keep s5.2.drew p0 (by simp)
      have y1 := cell_keep s5.2.drew p1 (by simp)
      have y2 := cell_keep s5.2.drew p2 (by simp)
      have y3 := cell_keep s5.2.drew p3 (by simp)
      have y4 := cell_keep s5.2.drew p4 (by simp)
      have HS5 := Hid.mk s5
      clear s5
      refine wpAnyH_ready (rs := [8]) (by kernel_rfl) (by simp) ?_
      refine AllReadyH.cons rfl (fun K9 hK9 => ?_) AllReadyH.nil
      go_simp
      refine hK9.out _ _ ⟨y0, y1, y2, y3, y4⟩ (fun hHeld3 => ?_)
      clear hK9 K9
      try simp only [Act.put, List.getElem_toArray, List.getElem_cons_zero, List.getElem_cons_succ, List.setIfInBounds_toArray, List.set_cons_zero, List.set_cons_succ]
      refine wpAnyH_done (by kernel_rfl) ?_ _
      clear HM L0 HN Hr Hln y0 y1 y2 y3 y4 p0 p1 p2 p3 p4 r0 r1 r2 r3 r4 s0 s1 s2 s3 s4
      go_wp2
      refine bodyPost_ret (v := frv W H D A (some ⟨G, 0, none⟩) n (n + 3)) ?_ rfl ⟨G, gs, rfl, ?_⟩
      · exact results_cell_row rfl _ _ (b + 1) 31 _ (0, 0) _ rfl HS5.out.1 Tryd.underlying31 rfl Tryd.info38
      · have hl := HL.out
        have hg := HG.out
        refine ⟨⟨HS5.out.2.drew.heap hl.box (by simp; omega), fun i hi => (hl.row i hi).keep HS5.out.2.drew (by have := hl.lo i hi; simp; omega), hl.lo, hl.mon⟩, hg.2, HK.out.1.step HS5.out.2.drew (fun x hx => by simp at hx; subst hx; exact .inr (by have := HB3.out; have := HP2.out.2; omega))⟩
end Go.Proofs.YtodlkpcbkilglaaDoor
