import Derived.Test.YthhcihcgefeblaaDoorF1
namespace Go.Proofs.YthhcihcgefeblaaDoor
open Go.RowKit

/-- A World with a thing more of kind k. -/
def Wo.add (s : Wo) (k Bn : Nat) (Sn Vn : Value) (gn : Nat) (ln : List Nat) : Wo :=
  { s with
    c := fun j => if j = k then s.c k + 1 else s.c j
    B := upd2 s.B k (s.c k) Bn
    V := upd2 s.V k (s.c k) Vn
    N := upd2 s.N k (s.c k) 0
    len := upd2 s.len k (s.c k) 0
    g := if k = 2 then updI s.g (s.c k) gn else s.g
    l := upd2 s.l k (s.c k) ln
    t := upd2 s.t k (s.c k) 0
    r := upd2 s.r k (s.c k) 0
    S := fun j => if j = k then Sn else s.S j }

theorem prw_congr (e : TypeId) (S : Value) (n : Nat) (B B' : Nat → Nat) (h : ∀ j, j < n → B j = B' j) : prw e S n B = prw e S n B' := by
  have : ptrs B n = ptrs B' n := by
    unfold ptrs
    apply List.map_congr_left
    intro j hj
    rw [h j (List.mem_range.1 hj)]
  unfold prw
  simp only [this]

theorem Wo.add_R (s : Wo) (A k Bn : Nat) (Sn Vn : Value) (gn : Nat) (ln : List Nat) (j : Nat × Nat) (hj : s.D j) (h6 : j ≠ (6, k)) (h7 : j ≠ (7, 0)) : (s.add k Bn Sn Vn gn ln).R A j = s.R A j := by
  obtain ⟨a, b⟩ := j
  rcases hj with ⟨h1, h2⟩ | ⟨h1, h2⟩ | ⟨h1, h2⟩ | ⟨h1, h2⟩
  · simp at h1 h2
    have hne : ¬ (a = k ∧ b = s.c k) := fun ⟨e1, e2⟩ => by subst e1; omega
    rcases (by omega : a = 0 ∨ a = 1 ∨ a = 2 ∨ a = 3 ∨ a = 4 ∨ a = 5) with rfl | rfl | rfl | rfl | rfl | rfl
    all_goals simp only [Wo.R, Wo.add, upd2_far _ _ _ _ _ _ hne]
    by_cases e : k = 2
    · subst e
      rw [if_pos rfl, updI_far _ _ _ _ (by omega)]
    · rw [if_neg e]
  · simp at h1 h2
    subst h1
    have e : b ≠ k := fun e => h6 (by rw [e])
    show prw (ety b) ((s.add k Bn Sn Vn gn ln).S b) ((s.add k Bn Sn Vn gn ln).c b) ((s.add k Bn Sn Vn gn ln).B b) = prw (ety b) (s.S b) (s.c b) (s.B b)
    have e1 : (s.add k Bn Sn Vn gn ln).S b = s.S b := by simp [Wo.add, e]
    have e2 : (s.add k Bn Sn Vn gn ln).c b = s.c b := by simp [Wo.add, e]
    rw [e1, e2]
    exact prw_congr _ _ _ _ _ (fun j _ => upd2_far _ _ _ _ _ _ (fun h => e h.1))
  · simp at h1 h2
    exact absurd (by rw [h1, h2]) h7
  · simp at h1 h2
    subst h1
    rfl

theorem ptrs_snoc (B : Nat → Nat → Nat) (k n Bn : Nat) : ptrs (B k) n ++ [.pointer (some ⟨Bn, 0, none⟩)] = ptrs (upd2 B k n Bn k) (n + 1) := by
  unfold ptrs
  rw [List.range_succ, List.map_append, List.map_singleton, upd2_at]
  congr 1
  apply List.map_congr_left
  intro j hj
  have := List.mem_range.1 hj
  rw [upd2_far _ _ _ _ _ _ (by omega)]

/-- A thing more: what At asks of it. -/
theorem At.add {W w w1 w2 : World} {A : Nat} {s : Wo} (h : At W w A s) (k : Nat) (hk6 : k < 6) (Bn : Nat) (Sn Vn : Value) (gn : Nat) (ln : List Nat) (hk1 : Kept [] w w1) (hr : ((s.add k Bn Sn Vn gn ln).R A (k, s.c k)).P w1)
    (hF : ∀ x ∈ ((s.add k Bn Sn Vn gn ln).R A (k, s.c k)).F, w.heap.size ≤ x) (hk2 : Kept (s.S k).ownBlock.toList w1 w2) (hL : Lies w1 (s.S k) Sn) (hrow : w2.ownsRow 0 (ety k) 1 Sn (s.c k + 1) (ptrs (s.B k) (s.c k) ++ [.pointer (some ⟨Bn, 0, none⟩)])) :
    At W (w2.setCell ⟨A, k, none⟩ Sn) A (s.add k Bn Sn Vn gn ln) := by
  have eS : (s.add k Bn Sn Vn gn ln).S k = Sn := by simp [Wo.add]
  have h0 := h.grow (s' := s.add k Bn Sn Vn gn ln) k hk6 hk1 hr hF hk2 (by rw [eS]; exact hL) (by
    show w2.ownsRow 0 (ety k) 1 ((s.add k Bn Sn Vn gn ln).S k) ((s.add k Bn Sn Vn gn ln).c k) (ptrs ((s.add k Bn Sn Vn gn ln).B k) ((s.add k Bn Sn Vn gn ln).c k))
    rw [eS, show (s.add k Bn Sn Vn gn ln).c k = s.c k + 1 by simp [Wo.add]]
    show w2.ownsRow 0 (ety k) 1 Sn (s.c k + 1) (ptrs (upd2 s.B k (s.c k) Bn k) (s.c k + 1))
    rw [← ptrs_snoc]
    exact hrow) rfl (fun j hj => by simp [Wo.add, hj]) rfl (fun j hj h6 h7 => s.add_R A k Bn Sn Vn gn ln j hj h6 h7)
  rw [eS] at h0
  exact h0

theorem newWriter_k (w : World) : Calls Tryd.prog 18 #[] w fun e w' => ∃ B, e = .returned (.pointer (some ⟨B, 0, none⟩)) ∧ WriterAt w' B (.slice none 0 0) 0 0 ∧ w.heap.size ≤ B ∧ Kept [] w w' := by
  refine (newWriter_any w).mono ?_
  rintro e w' ⟨rfl, rfl⟩
  exact ⟨_, rfl, newWriter_at w, Nat.le_refl _, (Kept.refl _ _).alloc _⟩
theorem refNewWriter_k (w : World) : Calls Tryd.prog 33 #[] w fun e w' => ∃ B, e = .returned (.pointer (some ⟨B, 0, none⟩)) ∧ RefW w' B (.slice none 0 0) (bin 0 0) ∧ w.heap.size ≤ B ∧ Kept [] w w' := by
  refine (refNewWriter_any w).mono ?_
  rintro e w' ⟨rfl, rfl⟩
  refine ⟨_, rfl, ⟨by rw [heap_alloc_new], ?_⟩, Nat.le_refl _, (Kept.refl _ _).alloc _⟩
  simpa [bin] using World.ownsRow_nil _ 0 5 1
theorem newRuns_k (w : World) : Calls Tryd.prog 28 #[] w fun e w' => ∃ B, e = .returned (.pointer (some ⟨B, 0, none⟩)) ∧ CoderAt w' B 0 ∧ w.heap.size ≤ B ∧ Kept [] w w' := by
  refine (newRuns_any w).mono ?_
  rintro e w' ⟨rfl, rfl⟩
  exact ⟨_, rfl, newRuns_at w, Nat.le_refl _, (Kept.refl _ _).alloc _⟩
theorem refNewRuns_k (w : World) : Calls Tryd.prog 35 #[] w fun e w' => ∃ B, e = .returned (.pointer (some ⟨B, 0, none⟩)) ∧ RefX w' B 0 ∧ w.heap.size ≤ B ∧ Kept [] w w' := by
  refine (refNewRuns_any w).mono ?_
  rintro e w' ⟨rfl, rfl⟩
  exact ⟨_, rfl, ⟨by rw [heap_alloc_new]; simp, by decide⟩, Nat.le_refl _, (Kept.refl _ _).alloc _⟩

theorem one_cell (w : World) (v : Value) (t : TypeId) : ∀ j u, [v][j]? = some u → (w.alloc (.cells #[v] t)).cell? ((⟨w.heap.size, 0, none⟩ : Addr).add j) = some u := by
  intro j u hu
  match j, hu with
  | 0, hu => simp at hu; subst hu; simp [Addr.add]
theorem one_one (B : Nat) : ∀ u ∈ [Value.pointer (some ⟨B, 0, none⟩)], u.oneCell' = true := by
  intro u hu; simp at hu; subst hu; rfl
theorem box_cell {w : World} {A : Nat} {S : Nat → Value} (hb : w.heap[A]? = some (.cells #[S 0, S 1, S 2, S 3, S 4, S 5] 32 (0, 0))) (k : Nat) (hk : k < 6) : w.cell? ⟨A, k, none⟩ = some (S k) := by
  rcases (by omega : k = 0 ∨ k = 1 ∨ k = 2 ∨ k = 3 ∨ k = 4 ∨ k = 5) with rfl | rfl | rfl | rfl | rfl | rfl <;> simp [World.cell?, hb]
theorem box_frozen {w : World} {A : Nat} {S : Nat → Value} (hb : w.heap[A]? = some (.cells #[S 0, S 1, S 2, S 3, S 4, S 5] 32 (0, 0))) (k : Nat) : w.frozen? ⟨A, k, none⟩ = false := by simp [World.frozen?, hb]

theorem Tryd.info45 : (Tryd.prog.info? 45).map (fun i => (i.zero, i.size, i.bytes)) = some (some (.pointer none), 1, 8) := by kernel_rfl
theorem Tryd.info75 : (Tryd.prog.info? 75).map (fun i => (i.zero, i.size, i.bytes)) = some (some (.pointer none), 1, 8) := by kernel_rfl
theorem Tryd.info54 : (Tryd.prog.info? 54).map (fun i => (i.zero, i.size, i.bytes)) = some (some (.pointer none), 1, 8) := by kernel_rfl
theorem Tryd.info77 : (Tryd.prog.info? 77).map (fun i => (i.zero, i.size, i.bytes)) = some (some (.pointer none), 1, 8) := by kernel_rfl
theorem Tryd.info64 : (Tryd.prog.info? 64).map (fun i => (i.zero, i.size, i.bytes)) = some (some (.pointer none), 1, 8) := by kernel_rfl
theorem Tryd.info79 : (Tryd.prog.info? 79).map (fun i => (i.zero, i.size, i.bytes)) = some (some (.pointer none), 1, 8) := by kernel_rfl

set_option maxHeartbeats 4000000 in
set_option maxRecDepth 1000000 in
theorem writer_any (W w : World) (A : Nat) (s : Wo) (h : At W w A s) (hn : s.c 0 ≤ 100000000) (hn1 : s.c 1 ≤ 100000000) :
    Calls Tryd.prog 10 #[.pointer (some ⟨A, 0, none⟩)] w fun e w' => e = .returned (.bool true) ∧ ∃ B0 S0 B1 S1, At W w' A ((s.add 0 B0 S0 (.slice none 0 0) 0 []).add 1 B1 S1 (.slice none 0 0) 0 []) := by
  obtain ⟨i0, hi, hz0, hz1, hz2⟩ := info_parts Tryd.info45
  obtain ⟨j0, gi, gz0, gz1, gz2⟩ := info_parts Tryd.info75
  have Hh := Hid.mk h
  clear h
  go_enter Tryd.func10, Tryd.ntmps10
  go_wp2_with fail
  refine (newWriter_k _).mono ?_
  rintro e w1 ⟨B, rfl, hB, hBn, hk1⟩
  have h1 := Hh.out.keep hk1
  have H1 := Hid.mk h1
  obtain ⟨hc, hf⟩ := h1.cells
  have c0 := hc 0 (by omega)
  have f0 := hf 0
  obtain ⟨ao, cp, e0⟩ := h1.form 0 (by omega)
  rw [e0] at c0
  have hrow := h1.row 0 (by omega)
  rw [e0] at hrow
  have Hrow := Hid.mk hrow
  have He0 := Hid.mk e0
  have HB := Hid.mk hB
  have Hk1 := Hid.mk hk1
  clear hc hf h1 e0 hrow hB hk1
  go_wp2_with (at_builtin; refine wpList_append_own_at _ rfl _ _ 25 rfl 0 45 i0 (.pointer none) 1 8 Tryd.underlying25 hi hz0 hz1 hz2 rfl (by decide) _ _ _ rfl (Hrow.out.alloc _) ⟨w1.heap.size, 0, none⟩ 1 1 [.pointer (some ⟨B, 0, none⟩)] rfl rfl ?c1 ?c2 ?c3 ?c4 ?c5 ?_)
  case c1 =>
    intro i u hu
    match i, hu with
    | 0, hu => simp at hu; subst hu; simp [Addr.add]
  case c2 => intro u hu; simp at hu; subst hu; rfl
  case c3 => unfold maxLen; omega
  case c4 => omega
  case c5 => omega
  intro v' w3 hown hgrow _ hat
  have hk3 : Kept (s.S 0).ownBlock.toList w1 w3 := by rw [He0.out]; exact ((Kept.refl _ _).alloc _).step (Kept.of_grown hgrow) (fun x hx => .inl hx)
  have hl3 : Lies w1 (s.S 0) v' := by
    rw [He0.out]
    rcases hat with h | h
    · exact .inl h
    · exact .inr ⟨_, h, by simp⟩
  have hA3 := hk3.heap H1.out.box (fun hm => own_ne2 H1.out.box (by decide) (H1.out.row 0 (by omega)) (mem_own.1 hm))
  have y0 : w3.cell? ⟨A, 0, none⟩ = some (s.S 0) := by simp [World.cell?, hA3]
  have y1 : w3.frozen? ⟨A, 0, none⟩ = false := by simp [World.frozen?, hA3]
  have h4 := Hh.out.add 0 (by omega) B v' (.slice none 0 0) 0 [] Hk1.out (by show WriterAt w1 _ _ _ _; simp only [Wo.add, upd2_at]; exact HB.out) (by show ∀ x ∈ _ :: _, _; simp only [Wo.add, upd2_at]; intro x hx; simp [Value.ownBlock] at hx; omega) hk3 hl3 hown
  have H4 := Hid.mk h4
  obtain ⟨ao3, cp3, rfl⟩ := row_form hown
  clear hown hgrow hat hk3 hl3 hA3 h4 c0 f0 Hrow He0 HB Hk1 H1 hi hz0 hz1 hz2 Hh
  go_wp2_with fail
  generalize hw4 : w3.setCell ⟨A, 0, none⟩ (.slice ao3 (s.c 0 + 1) cp3) = w4 at H4 ⊢
  have hc1 : (s.add 0 B (.slice ao3 (s.c 0 + 1) cp3) (.slice none 0 0) 0 []).c 1 = s.c 1 := by simp [Wo.add]
  obtain ⟨s1, hs1⟩ : ∃ s1, s1 = s.add 0 B (.slice ao3 (s.c 0 + 1) cp3) (.slice none 0 0) 0 [] := ⟨_, rfl⟩
  have Hs1 := Hid.mk hs1
  rw [← hs1] at H4 hc1
  rw [← hc1] at hn1
  have q0 := H4.out.cells.1 1 (by omega)
  have q1 := H4.out.cells.2 1
  clear hs1 hc1 hw4 y0 y1
  go_region_law (first | (refine step_own _ (by rfl) (.tmp 19) (.tmp 21) 26 (by rfl) 0 75 j0 (.pointer none) 1 8 Tryd.underlying26 gi gz0 gz1 gz2 rfl (by decide) _ _ _ (by rfl) (((H4.out.keep hk5.undrew).row 1 (by omega)).alloc _) ⟨w5.heap.size, 0, none⟩ 1 1 [.pointer (some ⟨B1, 0, none⟩)] (by rfl) rfl (one_cell _ _ _) (one_one _) (by unfold maxLen; omega) (by omega) (by omega) ?_; intro ao6 cp6 w6 ho6 hg6 hat6; have hk6 : Kept (s1.S 1).ownBlock.toList w5 w6 := ((Kept.refl _ _).alloc _).step (Kept.of_grown hg6) (fun x hx => .inl hx); have hb6 := hk6.heap (H4.out.keep hk5.undrew).box (fun hm => own_ne2 (H4.out.keep hk5.undrew).box (by decide) ((H4.out.keep hk5.undrew).row 1 (by omega)) (mem_own.1 hm)); have z0 := box_cell hb6 1 (by omega); have z1 := box_frozen hb6 1) | (go_simp; go_at_call 33; refine (refNewWriter_k _).mono ?_; rintro e w5 ⟨B1, rfl, hB1, hBn1, hk5⟩; have p0 := (H4.out.keep hk5.undrew).cells.1 1 (by omega); have p1 := (H4.out.keep hk5.undrew).cells.2 1; have p2 := ((H4.out.keep hk5.undrew).keep ((Kept.refl _ _).alloc (.cells #[.pointer (some ⟨B1, 0, none⟩)] 75))).cells.1 1 (by omega)))
  all_goals
    have hl6 : Lies w5 (s1.S 1) (.slice ao6 (s1.c 1 + 1) cp6) := by
      rcases hat6 with h | h
      · exact .inl h
      · exact .inr ⟨_, h, by simp⟩
    have h6 := H4.out.add 1 (by omega) B1 (.slice ao6 (s1.c 1 + 1) cp6) (.slice none 0 0) 0 [] hk5.undrew (by show RefW w5 _ _ _; simp only [Wo.add, upd2_at]; exact hB1) (by show ∀ x ∈ _ :: _, _; simp only [Wo.add, upd2_at]; intro x hx; simp [Value.ownBlock] at hx; have : w4.drew.heap.size = w4.heap.size := rfl; omega) hk6 hl6 ho6
    have H6 := Hid.mk h6
    clear h6 hl6 ho6 hk6
  all_goals go_wp2
  all_goals go_ret
  all_goals exact ⟨rfl, B, _, B1, _, by rw [← Hs1.out]; exact H6.out⟩
end Go.Proofs.YthhcihcgefeblaaDoor
