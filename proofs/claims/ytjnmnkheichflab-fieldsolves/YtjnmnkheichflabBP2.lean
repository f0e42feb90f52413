import Derived.Test.YtjnmnkheichflabBP
namespace Go.Proofs.Ytjnmnkheichflab
open Go.RowKit

/-- append of nothing, as one step of a region that draws. -/
theorem step_none {P : Program} (w : World) {ops : Array Oper} {o : Oper} {a : Act} {K : Act → World → Prop} {Q : Exit → Act → World → Prop} {E : Prop} (hgd : o.guard = none) (s x : Operand) (t : TypeId)
    (ho : o.op = .call { callee := .builtin .append, args := #[s, x], argTypes := #[t, t] })
    (base : Nat) (e : TypeId) (i : TypeInfo) (size : Nat) (ht : P.underlying t = some (.slice e)) (hi : P.info? e = some i)
    (v : Value) (n : Nat) (xs : List Value) (hs : a.eval s = v) (hown : w.ownsRow base e size v n xs) (hx : a.eval x = .slice none 0 0)
    (h : ∀ w', w'.ownsRow base e size v n xs → w.grownBy w' none → K (a.put o.dst v) w') :
    if Region.wanted o (yielded ops a.tmps) = true then Oper.wp P o a w K Q else E := by
  have hw : Region.wanted o (yielded ops a.tmps) = true := by simp [Region.wanted, hgd]
  rw [if_pos hw]
  have hrun := run_append_owned_none (P := P) (w := w) base t o.type e i size ht hi v n xs hown
  unfold Oper.wp
  simp [execOp, ho, resolve, invoke, builtin, hs, hx, hrun, Result.andThen]
  exact h w hown (World.grownBy.refl _ _)

theorem kept_lit2 {W w3 : World} (h : (W.alloc (.cells #[] 5)).drew.grownBy w3 none) : Kept [] W w3 :=
  (((Kept.refl [] W).alloc _).drew).trans (Kept.of_grown h)

set_option maxHeartbeats 2000000 in
set_option maxRecDepth 1000000 in
theorem keep_nil (Bk : Nat) (vl vw : Value) (n : Nat) (xs ys : List Value) (w : World) (hB : w.heap[Bk]? = some (.cells #[vl, vw] 26 (0, 0))) (hl : w.ownsRow 0 31 1 vl n xs) (hw : w.ownsRow 0 31 1 vw n ys)
    (hsep : ∀ g, vl.ownBlock = some g → vw.ownBlock ≠ some g) (hn : n ≤ 1000000000) :
    Calls Try.prog 37 #[.pointer (some ⟨Bk, 0, none⟩), .slice none 0 0] w fun e w' => e = .returned (.tuple #[]) ∧ ∃ vl' vw' u, w'.heap[Bk]? = some (.cells #[vl', vw'] 26 (0, 0)) ∧
      w'.ownsRow 0 31 1 vl' (n + 1) (xs ++ [.slice none 0 0]) ∧ w'.ownsRow 0 31 1 vw' (n + 1) (ys ++ [u]) ∧ w'.ownsRow 0 5 1 u 0 [] ∧ (∀ g, u.ownBlock = some g → w.heap.size ≤ g) ∧
      Lies w vl vl' ∧ Lies w vw vw' ∧ (∀ g, vl'.ownBlock = some g → vw'.ownBlock ≠ some g) ∧ Kept (Bk :: (vl.ownBlock.toList ++ vw.ownBlock.toList)) w w' := by
  obtain ⟨i0, hi, hz0, hz1, hz2⟩ := info_parts Try.infoR
  obtain ⟨j0, hj, _, _, _⟩ := info_parts Try.info5
  obtain ⟨c0, c1, fz⟩ := cells_two hB
  have f0 := fz 0
  have f1 := fz 1
  clear fz
  go_enter Try.func37, Try.ntmps37
  go_wp2_with (at_builtin; refine wpList_append_own_at _ rfl _ _ 22 rfl 0 31 i0 (.slice none 0 0) 1 24 Try.underlying22 hi hz0 hz1 hz2 rfl (by decide) _ _ _ rfl (hl.alloc _) ⟨w.heap.size, 0, none⟩ 1 1 [.slice none 0 0] rfl rfl ?c1 ?c2 ?c3 ?c4 ?c5 ?_)
  case c1 =>
    intro i u hu
    match i, hu with
    | 0, hu => simp at hu; subst hu; simp [Addr.add]
  case c2 => intro u hu; simp at hu; subst hu; rfl
  case c3 => unfold maxLen; omega
  case c4 => omega
  case c5 => omega
  intro vl' w1 hl1 hg1 _ hat1
  obtain ⟨ao, cp, rfl⟩ := row_form hl1
  have hK1 : Kept vl.ownBlock.toList w w1 := ((Kept.refl _ w).alloc _).step (Kept.of_grown hg1) (fun x hx => .inl hx)
  have hL1 : Lies w vl (.slice ao (n + 1) cp) := by
    rcases hat1 with h | h
    · exact .inl h
    · exact .inr ⟨_, h, by simp⟩
  have hnB := own_ne2 hB (by decide) hl
  have hnB1 := hK1.heap hB (by rw [mem_own]; exact hnB)
  have hw1 := hK1.row hw (fun x hx => by rw [mem_own]; exact fun h => hsep x h hx)
  obtain ⟨b0, b1, bz⟩ := cells_two hnB1
  have bz0 := bz 0
  clear bz
  have hsep1 : ∀ x, (Value.slice ao (n + 1) cp).ownBlock = some x → vw.ownBlock ≠ some x := fun x hx hx2 => by
    rcases hL1 with h | ⟨y, h, hy⟩
    · rw [h] at hx; exact hsep x hx hx2
    · rw [h] at hx; have hxy : y = x := by simpa using hx
      have := (hw.lt x hx2).2
      omega
  have Hl1 := Hid.mk hl1
  have Hw1 := Hid.mk hw1
  have HB1 := Hid.mk hnB1
  have HK1 := Hid.mk hK1
  have Hsep1 := Hid.mk hsep1
  have HL1 := Hid.mk hL1
  clear hl1 hw1 hnB1 hK1 hsep1 hL1 hg1 hat1 c0 c1 f0 f1 hB hl hw hsep hnB
  go_wp2
  refine wp_gen (fun W => W.heap[Bk]? = some (.cells #[.slice ao (n + 1) cp, vw] 26 (0, 0)) ∧ W.ownsRow 0 31 1 (.slice ao (n + 1) cp) (n + 1) (xs ++ [.slice none 0 0]) ∧ W.ownsRow 0 31 1 vw n ys ∧
    Kept (Bk :: vl.ownBlock.toList) w W) ⟨?_, ?_, ?_, ?_⟩ ?_
  · rw [heap_setCell_at HB1.out]; simp
  · exact ownsRow_setCell_other Hl1.out (own_ne2 HB1.out (by decide) Hl1.out) _
  · exact ownsRow_setCell_other Hw1.out (own_ne2 HB1.out (by decide) Hw1.out) _
  · exact (HK1.out.mono (fun x hx => .inl (List.mem_cons_of_mem _ hx))).setCell (p := ⟨Bk, 0, none⟩) (by simp) _
  rintro W ⟨hB2, hl2, hw2, hK2⟩
  obtain ⟨d0, d1, dz⟩ := cells_two hB2
  have dz1 := dz 1
  have HB2 := Hid.mk hB2
  have hBW := lt_of_block hB2
  have hBW2 : ¬ Bk = W.heap.size := by omega
  have hBW3 : ¬ W.heap.size = Bk := by omega
  have d1a : (W.alloc (.cells #[] 5)).cell? ⟨Bk, 1, none⟩ = some vw := (cells_two ((((Kept.refl [] W).alloc (.cells #[] 5))).heap hB2 (by simp))).2.1
  have Hl2 := Hid.mk hl2
  have Hw2 := Hid.mk hw2
  have HK2 := Hid.mk hK2
  clear dz hB2 hl2 hw2 hK2 b0 b1 bz0 Hl1 Hw1 HB1 HK1
  go_region_law (first | (refine step_none _ (by rfl) (.tmp 19) (.tmp 20) 31 (by rfl) 0 5 j0 1 Try.underlying31 hj _ 0 [] (by rfl) ((World.ownsRow_made W #[] 0 (Nat.zero_le _) (Nat.zero_le _) (by rfl)).drew) (by rfl) ?_; intro w3 ho3 hg3; have hK3 := kept_lit2 hg3; have hw3 := hK3.row Hw2.out (by simp); have hB3 := hK3.heap HB2.out (by simp); have e1 := (cells_two hB3).2.1; have ez := (cells_two hB3).2.2 1; have h3a := lt_of_block hB3; have h3b : ¬ Bk = w3.heap.size := (by omega); have h3c : ¬ w3.heap.size = Bk := (by omega); have h3d : (w3.alloc (.cells #[.slice (some ⟨W.heap.size, 0, none⟩) 0 0] 31)).cell? ⟨Bk, 1, none⟩ = some vw := (cells_two ((((Kept.refl [] w3).alloc (.cells #[.slice (some ⟨W.heap.size, 0, none⟩) 0 0] 31))).heap hB3 (by simp))).2.1) | (refine step_own _ (by rfl) (.tmp 18) (.tmp 22) 22 (by rfl) 0 31 i0 (.slice none 0 0) 1 24 Try.underlying22 hi hz0 hz1 hz2 rfl (by decide) vw n ys (by rfl) (hw3.alloc _) ⟨w3.heap.size, 0, none⟩ 1 1 [.slice (some ⟨W.heap.size, 0, none⟩) 0 0] (by rfl) (by rfl) (cell_one_new _ _ _) (by intro u hu; simp at hu; subst hu; rfl) (by unfold maxLen; omega) (by omega) (Nat.zero_le _) ?_; intro ao4 cp4 w4 ho4 hg4 ha4; have hK4 := kept_step hg4; have hB4 := hK4.heap hB3 (by rw [mem_own]; exact own_ne2 hB3 (by decide) hw3); have q1 := (cells_two hB4).2.1; have qz := (cells_two hB4).2.2 1))
  all_goals go_wp2
  all_goals go_end0
  all_goals refine ⟨rfl, ?_⟩
  all_goals exact keep_end (l := []) HB2.out Hl2.out Hw2.out HK2.out Hsep1.out HL1.out hK3 ho3 (pa := W.heap.size) (pb := W.heap.size) (.inl rfl) (Nat.le_refl _) (Nat.le_refl _) hK4 ho4 ha4 (by simp)

/-- Book.keep of a list that fills its row. -/
theorem keep_any (Bk : Nat) (vl vw v : Value) (n : Nat) (xs ys : List Value) (l : List Nat) (w : World) (hB : w.heap[Bk]? = some (.cells #[vl, vw] 26 (0, 0))) (hl : w.ownsRow 0 31 1 vl n xs) (hw : w.ownsRow 0 31 1 vw n ys)
    (hsep : ∀ g, vl.ownBlock = some g → vw.ownBlock ≠ some g) (hv : Lst w v l) (hn : n ≤ 1000000000) (hkb : l.length ≤ 140737488355328) :
    Calls Try.prog 37 #[.pointer (some ⟨Bk, 0, none⟩), v] w fun e w' => e = .returned (.tuple #[]) ∧ ∃ vl' vw' u, w'.heap[Bk]? = some (.cells #[vl', vw'] 26 (0, 0)) ∧
      w'.ownsRow 0 31 1 vl' (n + 1) (xs ++ [v]) ∧ w'.ownsRow 0 31 1 vw' (n + 1) (ys ++ [u]) ∧ w'.ownsRow 0 5 1 u l.length (l.map byt) ∧ (∀ g, u.ownBlock = some g → w.heap.size ≤ g) ∧
      Lies w vl vl' ∧ Lies w vw vw' ∧ (∀ g, vl'.ownBlock = some g → vw'.ownBlock ≠ some g) ∧ Kept (Bk :: (vl.ownBlock.toList ++ vw.ownBlock.toList)) w w' := by
  rcases hv with ⟨rfl, rfl⟩ | ⟨g, rfl, hg⟩
  · exact keep_nil Bk vl vw n xs ys w hB hl hw hsep hn
  · exact keep_some Bk g l.length vl vw n xs ys l w hB hl hw hsep hg rfl hn hkb
end Go.Proofs.Ytjnmnkheichflab
