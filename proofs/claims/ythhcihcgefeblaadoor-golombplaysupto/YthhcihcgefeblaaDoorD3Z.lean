import Derived.Test.YthhcihcgefeblaaDoorD2
namespace Go.Proofs.YthhcihcgefeblaaDoor
open Go.RowKit

theorem bin_zero (n : Nat) : bin n 0 = List.replicate n 0 := by
  induction n with
  | zero => rfl
  | succ n ih => rw [bin, Nat.zero_div, ih, List.replicate_succ']

theorem bin_short (v k wide : Nat) (h : v / 2 ^ k < 24) : bin (gw v k wide) (gf v k) = List.replicate (v / 2 ^ k) 0 ++ [1] ++ bin k v := by
  obtain ⟨e1, e2⟩ := gf_short (wide := wide) h
  have hm := Nat.mod_lt v (Nat.two_pow_pos k)
  have hd : (2 ^ k + v % 2 ^ k) / 2 ^ k = 1 := by
    rw [Nat.add_comm, Nat.add_div_right _ (Nat.two_pow_pos _), Nat.div_eq_of_lt hm]
  have hb : bin k (2 ^ k + v % 2 ^ k) = bin k v := by
    rw [← bin_mod k (2 ^ k + v % 2 ^ k), Nat.add_mod_left, Nat.mod_mod, bin_mod]
  rw [e1, e2, bin_add, hd, hb, bin]
  simp [bin_zero]

theorem bin_long (v k wide : Nat) (hv : v < 2 ^ wide) (h : ¬ v / 2 ^ k < 24) : bin (gw v k wide) (gf v k) = List.replicate 24 0 ++ bin wide v := by
  obtain ⟨e1, e2⟩ := gf_long (wide := wide) h
  rw [e1, e2, bin_add, Nat.div_eq_of_lt hv, bin_zero]

set_option maxHeartbeats 2000000 in
set_option maxRecDepth 1000000 in
theorem formD_long (v k wide X u : Int) (w : World) (k0 : 0 ≤ k) (k1 : k ≤ 15) (w0 : 1 ≤ wide) (w1 : wide ≤ 16) (v0 : 0 ≤ v) (v1 : v < 65536) (hX : X = ((2 ^ k.toNat : Nat) : Int)) (hX1 : 1 ≤ X) (hu : v / X = u) (u1 : 24 ≤ u) :
    Calls Tryd.prog 64 #[.int .i64 v, .int .i64 k, .int .i64 wide] w fun e w' => ∃ V, e = .returned V ∧ w'.ownsRow 0 5 1 V (24 + wide.toNat) ((List.replicate 24 0 ++ bin wide.toNat v.toNat).map byt) ∧ Kept [] w w' ∧ Lies w (.slice none 0 0) V := by
  obtain ⟨i0, hi, hz0, hz1, hz2⟩ := info_parts Tryd.info5
  have Hp := Hid.mk (fun w => power_any k X w k0 (by omega) hX)
  clear hX
  go_enter Tryd.func64, Tryd.ntmps64
  go_wp2_with (first
    | (go_at_call 63; refine (Hp.out _).mono ?_; rintro e w2 ⟨rfl, rfl⟩)
    | (at_make; refine wpList_make_full _ rfl _ _ 34 rfl 0 5 i0 (.int .u8 0) 1 Tryd.underlying34 hi hz0 hz1 _ _ _ _ 24 rfl rfl (by omega) (by omega) ?b2 ?b3 (by omega) ?_))
  case b2 => rw [hz2]; omega
  case b3 => unfold maxLen; omega
  intro w3 ho3 hg3
  rw [toList_madeCells_one] at ho3
  have hk3 := Kept.of_grown hg3
  have ho3' : w3.ownsRow 0 5 1 (.slice (some ⟨w2.heap.size, 0, none⟩) 24 24) 24 ((List.replicate 24 0).map byt) := by simpa [byt] using ho3
  have HO3 := Hid.mk ho3'
  have HK3 := Hid.mk hk3
  clear ho3 ho3' hg3 hk3
  go_wp2_with fail
  refine (digits_any v wide _ v0 v1 (by omega) (by omega)).mono ?_
  rintro e w4 ⟨U, rfl, ho4, hk4, hl4⟩
  have HO3' := Hid.mk (hk4.row HO3.out (by simp))
  have HO4 := Hid.mk ho4
  have HK4 := Hid.mk (HK3.out.trans hk4)
  clear ho4 hk4 hl4 HO3
  go_wp2_with (at_builtin; refine wpList_app _ rfl _ _ rfl _ _ _ rfl HO3'.out _ _ _ rfl HO4.out (bytes_one _) (by omega) ?_)
  intro v' w5 ho5 hk5 hl5
  have HO5 := Hid.mk ho5
  have HK5 : Hid (Kept [] w2 w5) := HK4.out.step hk5 (by simp [Value.ownBlock])
  have HL5 : Hid (Lies w2 (.slice none 0 0) v') := by
    rcases hl5 with h | ⟨g, hg, h⟩
    · exact .inr ⟨w2.heap.size, by rw [h]; rfl, Nat.le_refl _⟩
    · exact .inr ⟨g, hg, Nat.le_trans HK4.out.size h⟩
  clear ho5 hk5 hl5
  go_wp2
  go_ret
  refine ⟨_, rfl, ?_, HK5.out, HL5.out⟩
  exact HO5.out

set_option maxHeartbeats 2000000 in
set_option maxRecDepth 1000000 in
theorem formD_short (v k wide X u : Int) (w : World) (k0 : 0 ≤ k) (k1 : k ≤ 15) (v0 : 0 ≤ v) (v1 : v < 65536) (hX : X = ((2 ^ k.toNat : Nat) : Int)) (hX1 : 1 ≤ X) (hu : v / X = u) (u0 : 0 ≤ u) (u1 : u < 24) :
    Calls Tryd.prog 64 #[.int .i64 v, .int .i64 k, .int .i64 wide] w fun e w' => ∃ V, e = .returned V ∧ w'.ownsRow 0 5 1 V (u.toNat + 1 + k.toNat) ((List.replicate u.toNat 0 ++ [1] ++ bin k.toNat v.toNat).map byt) ∧ Kept [] w w' ∧ Lies w (.slice none 0 0) V := by
  obtain ⟨i0, hi, hz0, hz1, hz2⟩ := info_parts Tryd.info5
  have Hp := Hid.mk (fun w => power_any k X w k0 (by omega) hX)
  clear hX
  go_enter Tryd.func64, Tryd.ntmps64
  go_wp2_with (first
    | (go_at_call 63; refine (Hp.out _).mono ?_; rintro e w2 ⟨rfl, rfl⟩)
    | (at_make; refine wpList_make_full _ rfl _ _ 34 rfl 0 5 i0 (.int .u8 0) 1 Tryd.underlying34 hi hz0 hz1 _ _ _ _ u.toNat rfl rfl (by omega) (by omega) ?b2 ?b3 (by omega) ?_))
  case b2 => rw [hz2]; omega
  case b3 => unfold maxLen; omega
  intro w3 ho3 hg3
  rw [toList_madeCells_one] at ho3
  have hk3 := Kept.of_grown hg3
  have ho3' : w3.ownsRow 0 5 1 (.slice (some ⟨w2.heap.size, 0, none⟩) u.toNat u.toNat) u.toNat ((List.replicate u.toNat 0).map byt) := by simpa [byt] using ho3
  have HO3 := Hid.mk ho3'
  have HK3 := Hid.mk hk3
  clear ho3 ho3' hg3 hk3
  go_wp2_with (at_builtin; refine wpList_app _ rfl _ _ rfl _ _ _ rfl (HO3.out.alloc _) _ 1 _ rfl (World.ownsRow_lit w3 #[.int .u8 1] 1 (Nat.zero_le _) (by decide) rfl) (by intro u hu; simp at hu; subst hu; rfl) (by omega) ?_)
  intro v' w5 ho5 hk5 hl5
  have HO5 := Hid.mk ho5
  have HK5 : Hid (Kept [] w2 w5) := (HK3.out.alloc _).step hk5 (by simp [Value.ownBlock])
  have HL5 : Hid (Lies w2 (.slice none 0 0) v') := by
    rcases hl5 with h | ⟨g, hg, h⟩
    · exact .inr ⟨w2.heap.size, by rw [h]; rfl, Nat.le_refl _⟩
    · exact .inr ⟨g, hg, Nat.le_trans (HK3.out.alloc _).size h⟩
  clear ho5 hk5 hl5 HO3
  go_wp2_with fail
  refine (digits_any v k _ v0 v1 (by omega) (by omega)).mono ?_
  rintro e w6 ⟨U, rfl, ho6, hk6, hl6⟩
  have HO5' := Hid.mk (hk6.row HO5.out (by simp))
  have HO6 := Hid.mk ho6
  have HK6 := Hid.mk (HK5.out.trans hk6)
  clear ho6 hk6 hl6 HO5
  go_wp2_with (at_builtin; refine wpList_app _ rfl _ _ rfl _ _ _ rfl HO5'.out _ _ _ rfl HO6.out (bytes_one _) (by omega) ?_)
  intro v7 w7 ho7 hk7 hl7
  have HO7 := Hid.mk ho7
  have HK7 : Hid (Kept [] w2 w7) := HK6.out.step hk7 (fun x hx => by
    rcases HL5.out.mem x hx with h | h
    · simp [Value.ownBlock] at h
    · exact .inr h)
  have HL7 : Hid (Lies w2 (.slice none 0 0) v7) := HL5.out.trans hl7 HK6.out.size
  clear ho7 hk7 hl7
  go_wp2
  go_ret
  refine ⟨_, rfl, ?_, HK7.out, HL7.out⟩
  have h := HO7.out
  simpa [byt] using h

/-- The document's form. -/
theorem formD_any (v k wide : Int) (w : World) (k0 : 0 ≤ k) (k1 : k ≤ 15) (w0 : 1 ≤ wide) (w1 : wide ≤ 16) (v0 : 0 ≤ v) (hv : v.toNat < 2 ^ wide.toNat) :
    Calls Tryd.prog 64 #[.int .i64 v, .int .i64 k, .int .i64 wide] w fun e w' => ∃ V, e = .returned V ∧ w'.ownsRow 0 5 1 V (gw v.toNat k.toNat wide.toNat) ((bin (gw v.toNat k.toNat wide.toNat) (gf v.toNat k.toNat)).map byt) ∧ Kept [] w w' ∧ Lies w (.slice none 0 0) V := by
  have h16 := pow16 wide w1
  have hp := Nat.two_pow_pos k.toNat
  have hdiv : v / ((2 ^ k.toNat : Nat) : Int) = ((v.toNat / 2 ^ k.toNat : Nat) : Int) := by
    obtain ⟨x, rfl⟩ := Int.eq_ofNat_of_zero_le v0
    rw [Int.toNat_natCast, Int.natCast_ediv]
  by_cases hs : v.toNat / 2 ^ k.toNat < 24
  · rw [bin_short _ _ _ hs, (gf_short (wide := wide.toNat) hs).1]
    generalize v.toNat / 2 ^ k.toNat = q at *
    have h := formD_short v k wide _ (q : Int) w k0 k1 v0 (by omega) rfl (by omega) hdiv (by omega) (by omega)
    rw [Int.toNat_natCast] at h
    exact h
  · rw [bin_long _ _ _ hv hs, (gf_long (wide := wide.toNat) hs).1]
    generalize v.toNat / 2 ^ k.toNat = q at *
    exact formD_long v k wide _ (q : Int) w k0 k1 w0 w1 v0 (by omega) rfl (by omega) hdiv (by omega)
end Go.Proofs.YthhcihcgefeblaaDoor

namespace Go.Proofs.YthhcihcgefeblaaDoor
open Go.RowKit

/-- append of a row of bytes, as one step of a region that draws. -/
theorem step_app (w : World) {ops : Array Oper} {o : Oper} {a : Act} {K : Act → World → Prop} {Q : Exit → Act → World → Prop} {E : Prop} (hgd : o.guard = none) (s x : Operand)
    (ho : o.op = .call { callee := .builtin .append, args := #[s, x], argTypes := #[34, 34] })
    (v : Value) (n : Nat) (xs : List Value) (hs : a.eval s = v) (hown : w.ownsRow 0 5 1 v n xs) (U : Value) (m : Nat) (ys : List Value) (hx : a.eval x = U) (hsrc : w.ownsRow 0 5 1 U m ys) (h1 : ∀ u ∈ ys, u.oneCell' = true)
    (hb : n + m ≤ 140737488355328)
    (h : ∀ ao cap w', w'.ownsRow 0 5 1 (.slice ao (n + m) cap) (n + m) (xs ++ ys) → Kept v.ownBlock.toList w w' → Lies w v (.slice ao (n + m) cap) → K (a.put o.dst (.slice ao (n + m) cap)) w') :
    if Region.wanted o (yielded ops a.tmps) = true then Oper.wp Tryd.prog o a w K Q else E := by
  have hw : Region.wanted o (yielded ops a.tmps) = true := by simp [Region.wanted, hgd]
  rw [if_pos hw]
  obtain ⟨i0, hi, hz0, hz1, hz2⟩ := info_parts Tryd.info5
  rcases hsrc.2 with ⟨hU, hm⟩ | ⟨g, cap, cur, hU, _⟩
  · subst hU
    subst hm
    have hys : ys = [] := by
      have := hsrc.1
      apply List.eq_nil_of_length_eq_zero
      omega
    subst hys
    have hrun := run_append_owned_none (P := Tryd.prog) (w := w) 0 34 o.type 5 i0 1 Tryd.underlying34 hi v n xs hown
    obtain ⟨ao, cp, rfl⟩ := row_form hown
    unfold Oper.wp execOp
    simp only [ho, resolve, invoke, builtin, Sem.run_bind, Sem.run_pure, Result.andThen_ok, List.map_toArray, List.map_cons, List.map_nil, hs, hx, hrun]
    exact h ao cp w (by simpa using hown) (Kept.refl _ _) (Lies.refl _ _)
  · subst hU
    have hl : ys.length = m * 1 := hsrc.1
    obtain ⟨v', w', hr, h2, h3, _, h5⟩ := run_append_own_at (P := Tryd.prog) w 0 34 o.type 5 i0 (.int .u8 0) 1 1 Tryd.underlying34 hi hz0 hz1 hz2 rfl (by decide) v n xs hown ⟨g, 0, none⟩ m cap ys hl (hsrc.cells rfl) h1 (by unfold maxLen; omega) (by omega) (by omega)
    obtain ⟨ao, cp, rfl⟩ := row_form h2
    unfold Oper.wp execOp
    simp only [ho, resolve, invoke, builtin, Sem.run_bind, Sem.run_pure, Result.andThen_ok, List.map_toArray, List.map_cons, List.map_nil, hs, hx, hr]
    refine h ao cp w' h2 (Kept.of_grown h3) ?_
    rcases h5 with h | h
    · exact .inl h
    · exact .inr ⟨_, h, Nat.le_refl _⟩

theorem putD_meet {w w4 w5 : World} {B len c N f : Nat} {V V5 : Value} (hB : w.heap[B]? = some (.cells #[V] 101 (0, 0))) (hne : V.ownBlock ≠ some B) (hk4 : Kept [] w w4) (ho5 : w5.ownsRow 0 5 1 V5 (len + c) ((bin len N).map byt ++ (bin c f).map byt))
    (hk5 : Kept V.ownBlock.toList w4 w5) (hl5 : Lies w4 V V5) (hf : f < 2 ^ c) :
    RefW (w5.setCell ⟨B, 0, none⟩ V5) B V5 (bin (len + c) (N * 2 ^ c + f)) ∧ Kept (B :: V.ownBlock.toList) w (w5.setCell ⟨B, 0, none⟩ V5) ∧ Lies w V V5 := by
  have hB5 := hk5.heap (hk4.heap hB (by simp)) (by rw [mem_own]; exact hne)
  have hn5 := own_ne2 hB5 (by decide) ho5
  refine ⟨⟨by rw [heap_setCell_at hB5]; simp, ?_⟩, ?_, (Lies.refl w V).trans (w1 := w4) ?_ hk4.size⟩
  · rw [bin_put len c N f hf, List.length_append, bin_length, bin_length, List.map_append]
    exact ownsRow_setCell_other ho5 hn5 _
  · exact ((hk4.mono (l2 := B :: V.ownBlock.toList) (by simp)).step hk5 (fun x hx => .inl (List.mem_cons_of_mem _ hx))).setCell (by simp) _
  · exact hl5

set_option maxHeartbeats 2000000 in
set_option maxRecDepth 1000000 in
/-- The document's Put of a number. -/
theorem putD_any (B : Nat) (V : Value) (N len : Nat) (v k wide : Int) (w : World) (h : RefW w B V (bin len N)) (k0 : 0 ≤ k) (k1 : k ≤ 15) (w0 : 1 ≤ wide) (w1 : wide ≤ 16) (v0 : 0 ≤ v) (hv : v.toNat < 2 ^ wide.toNat) (hl : len ≤ 100000000000000) :
    Calls Tryd.prog 39 #[.pointer (some ⟨B, 0, none⟩), .int .i64 v, .int .i64 k, .int .i64 wide] w fun e w' => e = .returned (.int .i64 0) ∧
      ∃ V', RefW w' B V' (bin (len + gw v.toNat k.toNat wide.toNat) (N * 2 ^ gw v.toNat k.toNat wide.toNat + gf v.toNat k.toNat)) ∧ Kept (B :: V.ownBlock.toList) w w' ∧ Lies w V V' := by
  have hrow : w.ownsRow 0 5 1 V len ((bin len N).map byt) := by have := h.2; rwa [bin_length] at this
  have hne := own_ne2 h.1 (by decide) hrow
  obtain ⟨ao, cap, rfl⟩ := row_form hrow
  obtain ⟨c0, f0⟩ := cells_one h.1
  have HB := Hid.mk h.1
  have HR := Hid.mk hrow
  obtain ⟨X, hX⟩ : ∃ X : Int, X = ((2 ^ wide.toNat : Nat) : Int) := ⟨_, rfl⟩
  have hX2 : v < X := by omega
  have Hp := Hid.mk (fun w => power_any wide X w (by omega) (by omega) hX)
  have Hf := Hid.mk (fun w => formD_any v k wide w k0 k1 w0 w1 v0 hv)
  have Hgf := Hid.mk (gf_lt v.toNat k.toNat wide.toNat hv)
  have v0' : decide (v < 0) = false := by simp; omega
  clear h hX hv hrow
  go_enter Tryd.func39, Tryd.ntmps39
  go_wp2_with (first
    | (go_at_call 62; refine (params_ok k wide _ k0 k1 w0 w1).mono ?_; rintro e w2 ⟨rfl, rfl⟩)
    | (go_at_call 63; refine (Hp.out _).mono ?_; rintro e w3 ⟨rfl, rfl⟩))
  obtain ⟨c, hc⟩ : ∃ c, c = gw v.toNat k.toNat wide.toNat := ⟨_, rfl⟩
  have hc40 : c ≤ 40 := by rw [hc]; exact (gw_le _ _ _ (by omega) (by omega)).2
  rw [← hc] at Hf
  have Hc := Hid.mk hc
  clear hc
  go_region_law (first | (refine step_app _ (by rfl) (.tmp 27) (.tmp 31) (by rfl) _ _ _ (by rfl) (hk4.undrew.row HR.out (by simp)) _ _ _ (by rfl) ho4 (bytes_one _) (by omega) ?_; intro ao5 cp5 w5 ho5 hk5 hl5; have hB5 := hk5.heap (hk4.undrew.heap HB.out (by simp)) (by rw [mem_own]; exact hne); have q0 := (cells_one hB5).1; have q1 := (cells_one hB5).2) | (go_simp; go_at_call 64; refine (Hf.out _).mono ?_; rintro e w4 ⟨U, rfl, ho4, hk4, hl4⟩; have q4 := (cells_one (hk4.undrew.heap HB.out (by simp))).1; have z4 := (cells_one (hk4.undrew.heap HB.out (by simp))).2))
  all_goals go_wp2
  all_goals go_ret
  all_goals
    refine ⟨rfl, .slice ao5 (len + c) cp5, ?_⟩
    rw [← Hc.out]
    exact putD_meet (w := w3) (w4 := w4) HB.out hne hk4.undrew ho5 hk5 hl5 (by rw [Hc.out]; exact Hgf.out)
end Go.Proofs.YthhcihcgefeblaaDoor
