import Derived.Test.YthhcihcgefeblaaDoorF2
namespace Go.Proofs.YthhcihcgefeblaaDoor
open Go.RowKit

set_option maxHeartbeats 4000000 in
set_option maxRecDepth 1000000 in
theorem coder_any (W w : World) (A : Nat) (s : Wo) (h : At W w A s) (hn : s.c 4 ≤ 100000000) (hn1 : s.c 5 ≤ 100000000) :
    Calls Tryd.prog 12 #[.pointer (some ⟨A, 0, none⟩)] w fun e w' => e = .returned (.bool true) ∧ ∃ B0 S0 B1 S1, At W w' A ((s.add 4 B0 S0 (.slice none 0 0) 0 []).add 5 B1 S1 (.slice none 0 0) 0 []) := by
  obtain ⟨i0, hi, hz0, hz1, hz2⟩ := info_parts Tryd.info64
  obtain ⟨j0, gi, gz0, gz1, gz2⟩ := info_parts Tryd.info79
  have Hh := Hid.mk h
  clear h
  go_enter Tryd.func12, Tryd.ntmps12
  go_wp2_with fail
  refine (newRuns_k _).mono ?_
  rintro e w1 ⟨B, rfl, hB, hBn, hk1⟩
  have h1 := Hh.out.keep hk1
  have H1 := Hid.mk h1
  obtain ⟨hc, hf⟩ := h1.cells
  have c0 := hc 4 (by omega)
  have f0 := hf 4
  obtain ⟨ao, cp, e0⟩ := h1.form 4 (by omega)
  rw [e0] at c0
  have hrow := h1.row 4 (by omega)
  rw [e0] at hrow
  have Hrow := Hid.mk hrow
  have He0 := Hid.mk e0
  have HB := Hid.mk hB
  have Hk1 := Hid.mk hk1
  clear hc hf h1 e0 hrow hB hk1
  go_wp2_with (at_builtin; refine wpList_append_own_at _ rfl _ _ 29 rfl 0 64 i0 (.pointer none) 1 8 Tryd.underlying29 hi hz0 hz1 hz2 rfl (by decide) _ _ _ rfl (Hrow.out.alloc _) ⟨w1.heap.size, 0, none⟩ 1 1 [.pointer (some ⟨B, 0, none⟩)] rfl rfl ?c1 ?c2 ?c3 ?c4 ?c5 ?_)
  case c1 =>
    intro i u hu
    match i, hu with
    | 0, hu => simp at hu; subst hu; simp [Addr.add]
  case c2 => intro u hu; simp at hu; subst hu; rfl
  case c3 => unfold maxLen; omega
  case c4 => omega
  case c5 => omega
  intro v' w3 hown hgrow _ hat
  have hk3 : Kept (s.S 4).ownBlock.toList w1 w3 := by rw [He0.out]; exact ((Kept.refl _ _).alloc _).step (Kept.of_grown hgrow) (fun x hx => .inl hx)
  have hl3 : Lies w1 (s.S 4) v' := by
    rw [He0.out]
    rcases hat with h | h
    · exact .inl h
    · exact .inr ⟨_, h, by simp⟩
  have hA3 := hk3.heap H1.out.box (fun hm => own_ne2 H1.out.box (by decide) (H1.out.row 4 (by omega)) (mem_own.1 hm))
  have y0 : w3.cell? ⟨A, 4, none⟩ = some (s.S 4) := by simp [World.cell?, hA3]
  have y1 : w3.frozen? ⟨A, 4, none⟩ = false := by simp [World.frozen?, hA3]
  have h4 := Hh.out.add 4 (by omega) B v' (.slice none 0 0) 0 [] Hk1.out (by show CoderAt w1 _ _; simp only [Wo.add, upd2_at]; exact HB.out) (by show ∀ x ∈ [_], _; simp only [Wo.add, upd2_at]; intro x hx; simp at hx; omega) hk3 hl3 hown
  have H4 := Hid.mk h4
  obtain ⟨ao3, cp3, rfl⟩ := row_form hown
  clear hown hgrow hat hk3 hl3 hA3 h4 c0 f0 Hrow He0 HB Hk1 H1 hi hz0 hz1 hz2 Hh
  go_wp2_with fail
  generalize hw4 : w3.setCell ⟨A, 4, none⟩ (.slice ao3 (s.c 4 + 1) cp3) = w4 at H4 ⊢
  have hc1 : (s.add 4 B (.slice ao3 (s.c 4 + 1) cp3) (.slice none 0 0) 0 []).c 5 = s.c 5 := by simp [Wo.add]
  obtain ⟨s1, hs1⟩ : ∃ s1, s1 = s.add 4 B (.slice ao3 (s.c 4 + 1) cp3) (.slice none 0 0) 0 [] := ⟨_, rfl⟩
  have Hs1 := Hid.mk hs1
  rw [← hs1] at H4 hc1
  rw [← hc1] at hn1
  have q0 := H4.out.cells.1 5 (by omega)
  have q1 := H4.out.cells.2 5
  clear hs1 hc1 hw4 y0 y1
  go_region_law (first | (refine step_own _ (by rfl) (.tmp 19) (.tmp 21) 30 (by rfl) 0 79 j0 (.pointer none) 1 8 Tryd.underlying30 gi gz0 gz1 gz2 rfl (by decide) _ _ _ (by rfl) (((H4.out.keep hk5.undrew).row 5 (by omega)).alloc _) ⟨w5.heap.size, 0, none⟩ 1 1 [.pointer (some ⟨B1, 0, none⟩)] (by rfl) rfl (one_cell _ _ _) (one_one _) (by unfold maxLen; omega) (by omega) (by omega) ?_; intro ao6 cp6 w6 ho6 hg6 hat6; have hk6 : Kept (s1.S 5).ownBlock.toList w5 w6 := ((Kept.refl _ _).alloc _).step (Kept.of_grown hg6) (fun x hx => .inl hx); have hb6 := hk6.heap (H4.out.keep hk5.undrew).box (fun hm => own_ne2 (H4.out.keep hk5.undrew).box (by decide) ((H4.out.keep hk5.undrew).row 5 (by omega)) (mem_own.1 hm)); have z0 := box_cell hb6 5 (by omega); have z1 := box_frozen hb6 5) | (go_simp; go_at_call 35; refine (refNewRuns_k _).mono ?_; rintro e w5 ⟨B1, rfl, hB1, hBn1, hk5⟩; have p0 := (H4.out.keep hk5.undrew).cells.1 5 (by omega); have p1 := (H4.out.keep hk5.undrew).cells.2 5; have p2 := ((H4.out.keep hk5.undrew).keep ((Kept.refl _ _).alloc (.cells #[.pointer (some ⟨B1, 0, none⟩)] 79))).cells.1 5 (by omega)))
  all_goals
    have hl6 : Lies w5 (s1.S 5) (.slice ao6 (s1.c 5 + 1) cp6) := by
      rcases hat6 with h | h
      · exact .inl h
      · exact .inr ⟨_, h, by simp⟩
    have h6 := H4.out.add 5 (by omega) B1 (.slice ao6 (s1.c 5 + 1) cp6) (.slice none 0 0) 0 [] hk5.undrew (by show RefX w5 _ _; simp only [Wo.add, upd2_at]; exact hB1) (by show ∀ x ∈ [_], _; simp only [Wo.add, upd2_at]; intro x hx; simp at hx; have : w4.drew.heap.size = w4.heap.size := rfl; omega) hk6 hl6 ho6
    have H6 := Hid.mk h6
    clear h6 hl6 ho6 hk6
  all_goals go_wp2
  all_goals go_ret
  all_goals exact ⟨rfl, B, _, B1, _, by rw [← Hs1.out]; exact H6.out⟩

theorem new_F {w : World} {B : Nat} {V : Value} (hB : w.drew.heap.size ≤ B) (hL : Lies w.drew (.slice none 0 0) V) : ∀ x ∈ B :: V.ownBlock.toList, w.heap.size ≤ x := by
  intro x hx
  rcases List.mem_cons.1 hx with rfl | hx
  · exact hB
  · rcases hL.mem x hx with h | h
    · simp [Value.ownBlock] at h
    · exact h

/-- Bytes that are read, as a thing. -/
def rdl (ao : Option Addr) (l : List Nat) : Rsc where
  P := fun w => Reads w ao l
  F := if l = [] then [] else (ao.map (·.block)).toList
  lt := fun {w x} h hx => by
    by_cases e : l = []
    · simp [e] at hx
    · rw [if_neg e] at hx
      rcases h with h | ⟨g, off, rfl, hc⟩
      · exact absurd h e
      · simp at hx
        subst hx
        exact World.block_lt_of_cell? w _ (hc 0 (List.length_pos_iff.2 e))
  keep := fun {w w' ks} h hk hF => by
    by_cases e : l = []
    · exact .inl e
    · rw [if_neg e] at hF
      rcases h with h | ⟨g, off, rfl, hc⟩
      · exact absurd h e
      · refine .inr ⟨g, off, rfl, fun i hi => ?_⟩
        have h1 := hc i hi
        exact (World.cell?_of_block (a := ⟨g, off + i, none⟩) (hk.block g (World.block_lt_of_cell? w _ h1) (hF g (by simp)))).trans h1

theorem newReader_k (ao : Option Addr) (cap m : Nat) (l : List Nat) (w : World) (hr : Reads w ao l) (hb : Byts l) (hm : l.length = m) (hl : m ≤ 10000000) :
    Calls Tryd.prog 23 #[.slice ao m cap] w fun e w' => ∃ B, e = .returned (.pointer (some ⟨B, 0, none⟩)) ∧ (∃ g, ReaderAt w' B g l 0 ∧ w.heap.size ≤ g) ∧ w.heap.size ≤ B ∧ Kept [] w w' := by
  refine (newReader_any ao cap m l w hr hb hm (by omega)).mono ?_
  rintro e w' ⟨B, g, rfl, h1, h2, h3, h4⟩
  exact ⟨B, rfl, ⟨g, h3, h2⟩, h1, h4⟩
theorem refNewReader_k (ao : Option Addr) (cap m : Nat) (l : List Nat) (w : World) (hr : Reads w ao l) (hb : Byts l) (hm : l.length = m) (hl : m ≤ 10000000) :
    Calls Tryd.prog 34 #[.slice ao m cap] w fun e w' => ∃ B, e = .returned (.pointer (some ⟨B, 0, none⟩)) ∧ (∃ V, RefR w' B V l 0 ∧ Lies w (.slice none 0 0) V) ∧ w.heap.size ≤ B ∧ Kept [] w w' := by
  refine (refNewReader_any ao cap m l w hr hb hm (by omega)).mono ?_
  rintro e w' ⟨rfl, V, h1, h2, h3⟩
  exact ⟨_, rfl, ⟨V, h1, h2⟩, Nat.le_refl _, h3⟩

set_option maxHeartbeats 4000000 in
set_option maxRecDepth 1000000 in
theorem reader_any (W w : World) (A : Nat) (s : Wo) (ao : Option Addr) (m cap q : Nat) (l : List Nat) (h : At W w A s) (hq : q < s.m) (hX : s.X q = rdl ao l) (hb : Byts l) (hm : l.length = m) (hl : m ≤ 10000000) (hn : s.c 2 ≤ 100000000) (hn1 : s.c 3 ≤ 100000000) :
    Calls Tryd.prog 11 #[.pointer (some ⟨A, 0, none⟩), .slice ao m cap] w fun e w' => e = .returned (.bool true) ∧ ∃ B0 S0 g B1 S1 V1, At W w' A ((s.add 2 B0 S0 (.slice none 0 0) g l).add 3 B1 S1 V1 0 l) := by
  obtain ⟨i0, hi, hz0, hz1, hz2⟩ := info_parts Tryd.info54
  obtain ⟨j0, gi, gz0, gz1, gz2⟩ := info_parts Tryd.info77
  have Hh := Hid.mk h
  have HX := Hid.mk hX
  have Hm := Hid.mk hm
  have Hrd : Hid (∀ w' s', At W w' A s' → q < s'.m → s'.X q = rdl ao l → Reads w' ao l) := Hid.mk (fun w' s' h' hq' hX' => by have := h'.more q hq'; rw [hX'] at this; exact this)
  clear h hX hm
  go_enter Tryd.func11, Tryd.ntmps11
  go_wp2_with fail
  refine (newReader_k ao cap m l _ (Hrd.out _ _ Hh.out hq HX.out) hb Hm.out hl).mono ?_
  rintro e w1 ⟨B, rfl, ⟨g, hB, hgn⟩, hBn, hk1⟩
  have h1 := Hh.out.keep hk1
  have H1 := Hid.mk h1
  obtain ⟨hc, hf⟩ := h1.cells
  have c0 := hc 2 (by omega)
  have f0 := hf 2
  obtain ⟨so, cp, e0⟩ := h1.form 2 (by omega)
  rw [e0] at c0
  have hrow := h1.row 2 (by omega)
  rw [e0] at hrow
  have Hrow := Hid.mk hrow
  have He0 := Hid.mk e0
  have HB := Hid.mk hB
  have Hk1 := Hid.mk hk1
  clear hc hf h1 e0 hrow hB hk1
  go_wp2_with (at_builtin; refine wpList_append_own_at _ rfl _ _ 27 rfl 0 54 i0 (.pointer none) 1 8 Tryd.underlying27 hi hz0 hz1 hz2 rfl (by decide) _ _ _ rfl (Hrow.out.alloc _) ⟨w1.heap.size, 0, none⟩ 1 1 [.pointer (some ⟨B, 0, none⟩)] rfl rfl ?c1 ?c2 ?c3 ?c4 ?c5 ?_)
  case c1 =>
    intro i u hu
    match i, hu with
    | 0, hu => simp at hu; subst hu; simp [Addr.add]
  case c2 => intro u hu; simp at hu; subst hu; rfl
  case c3 => unfold maxLen; omega
  case c4 => omega
  case c5 => omega
  intro v' w3 hown hgrow _ hat
  have hk3 : Kept (s.S 2).ownBlock.toList w1 w3 := by rw [He0.out]; exact ((Kept.refl _ _).alloc _).step (Kept.of_grown hgrow) (fun x hx => .inl hx)
  have hl3 : Lies w1 (s.S 2) v' := by
    rw [He0.out]
    rcases hat with h | h
    · exact .inl h
    · exact .inr ⟨_, h, by simp⟩
  have hA3 := hk3.heap H1.out.box (fun hm => own_ne2 H1.out.box (by decide) (H1.out.row 2 (by omega)) (mem_own.1 hm))
  have y0 : w3.cell? ⟨A, 2, none⟩ = some (s.S 2) := by simp [World.cell?, hA3]
  have y1 : w3.frozen? ⟨A, 2, none⟩ = false := by simp [World.frozen?, hA3]
  have h4 := Hh.out.add 2 (by omega) B v' (.slice none 0 0) g l Hk1.out (by show ReaderAt w1 _ _ _ _; simp only [Wo.add, upd2_at, if_true, updI_at]; exact HB.out) (by show ∀ x ∈ [_, _], _; simp only [Wo.add, upd2_at, if_true, updI_at]; intro x hx; simp at hx; omega) hk3 hl3 hown
  have H4 := Hid.mk h4
  obtain ⟨ao3, cp3, rfl⟩ := row_form hown
  clear hown hgrow hat hk3 hl3 hA3 h4 c0 f0 Hrow He0 HB Hk1 H1 hi hz0 hz1 hz2 Hh
  go_wp2_with fail
  generalize hw4 : w3.setCell ⟨A, 2, none⟩ (.slice ao3 (s.c 2 + 1) cp3) = w4 at H4 ⊢
  have hc1 : (s.add 2 B (.slice ao3 (s.c 2 + 1) cp3) (.slice none 0 0) g l).c 3 = s.c 3 := by simp [Wo.add]
  obtain ⟨s1, hs1⟩ : ∃ s1, s1 = s.add 2 B (.slice ao3 (s.c 2 + 1) cp3) (.slice none 0 0) g l := ⟨_, rfl⟩
  have Hs1 := Hid.mk hs1
  rw [← hs1] at H4 hc1
  rw [← hc1] at hn1
  have hm1 : q < s1.m := by rw [hs1]; exact hq
  have hX1 : s1.X q = rdl ao l := by rw [hs1]; exact HX.out
  have Hrd4 := Hid.mk (Hrd.out _ _ H4.out hm1 hX1)
  have q0 := H4.out.cells.1 3 (by omega)
  have q1 := H4.out.cells.2 3
  clear hs1 hc1 hw4 y0 y1
  go_region_law (first | (refine step_own _ (by rfl) (.tmp 22) (.tmp 25) 28 (by rfl) 0 77 j0 (.pointer none) 1 8 Tryd.underlying28 gi gz0 gz1 gz2 rfl (by decide) _ _ _ (by rfl) (((H4.out.keep hk5.undrew).row 3 (by omega)).alloc _) ⟨w5.heap.size, 0, none⟩ 1 1 [.pointer (some ⟨B1, 0, none⟩)] (by rfl) rfl (one_cell _ _ _) (one_one _) (by unfold maxLen; omega) (by omega) (by omega) ?_; intro ao6 cp6 w6 ho6 hg6 hat6; have hk6 : Kept (s1.S 3).ownBlock.toList w5 w6 := ((Kept.refl _ _).alloc _).step (Kept.of_grown hg6) (fun x hx => .inl hx); have hb6 := hk6.heap (H4.out.keep hk5.undrew).box (fun hm => own_ne2 (H4.out.keep hk5.undrew).box (by decide) ((H4.out.keep hk5.undrew).row 3 (by omega)) (mem_own.1 hm)); have z0 := box_cell hb6 3 (by omega); have z1 := box_frozen hb6 3) | (go_simp; go_at_call 34; refine (refNewReader_k ao cap m l _ (Hrd4.out.keep ((Kept.refl _ _).drew)) hb Hm.out hl).mono ?_; rintro e w5 ⟨B1, rfl, ⟨V1, hB1, hL1⟩, hBn1, hk5⟩; have p0 := (H4.out.keep hk5.undrew).cells.1 3 (by omega); have p1 := (H4.out.keep hk5.undrew).cells.2 3; have p2 := ((H4.out.keep hk5.undrew).keep ((Kept.refl _ _).alloc (.cells #[.pointer (some ⟨B1, 0, none⟩)] 77))).cells.1 3 (by omega)))
  all_goals
    have hl6 : Lies w5 (s1.S 3) (.slice ao6 (s1.c 3 + 1) cp6) := by
      rcases hat6 with h | h
      · exact .inl h
      · exact .inr ⟨_, h, by simp⟩
    have h6 := H4.out.add 3 (by omega) B1 (.slice ao6 (s1.c 3 + 1) cp6) V1 0 l hk5.undrew (by show RefR w5 _ _ _ _ ∧ _; simp only [Wo.add, upd2_at]; exact ⟨hB1, Nat.zero_le _⟩) (by show ∀ x ∈ _ :: _, _; simp only [Wo.add, upd2_at]; exact new_F hBn1 hL1) hk6 hl6 ho6
    have H6 := Hid.mk h6
    clear h6 hl6 ho6 hk6
  all_goals go_wp2
  all_goals go_ret
  all_goals exact ⟨rfl, B, _, g, B1, _, V1, by rw [← Hs1.out]; exact H6.out⟩
end Go.Proofs.YthhcihcgefeblaaDoor
