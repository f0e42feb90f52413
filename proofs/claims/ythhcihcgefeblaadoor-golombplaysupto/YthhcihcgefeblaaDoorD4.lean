import Derived.Test.YthhcihcgefeblaaDoorD3
namespace Go.Proofs.YthhcihcgefeblaaDoor
open Go.RowKit

/-- append of a row of bytes, as one step of a region that draws. -/
theorem step_app (w : World) {ops : Array Oper} {o : Oper} {a : Act} {K : Act → World → Prop} {Q : Exit → Act → World → Prop} {E : Prop} (hgd : o.guard = none) (s x : Operand)
    (ho : o.op = .call { callee := .builtin .append, args := #[s, x], argTypes := #[34, 34] })
    (v : Value) (n : Nat) (xs : List Value) (hs : a.eval s = v) (hown : w.ownsRow 0 5 1 v n xs) (U : Value) (m : Nat) (ys : List Value) (hx : a.eval x = U) (hsrc : w.ownsRow 0 5 1 U m ys) (h1 : ∀ u ∈ ys, u.oneCell' = true)
    (hb : n + m ≤ 140737488355328)
    (h : ∀ ao cap w', w'.ownsRow 0 5 1 (.slice ao (n + m) cap) (n + m) (xs ++ ys) → Kept v.ownBlock.toList w w' → Lies w v (.slice ao (n + m) cap) → K (a.put o.dst (.slice ao (n + m) cap)) w') :
    if Region.wanted o (yielded ops a.tmps) = true then Oper.wp Tryd.prog o a w K Q else E := by
  have hw : Region.wanted o (yielded ops a.tmps) = true := by simp [Region.wanted, hgd]
  rw [if_pos hw]
  obtain ⟨i0, hi, hz0, hz1, hz2⟩ := info_parts Tryd.info5
  rcases hsrc.2 with ⟨hU, hm⟩ | ⟨g, cap, cur, hU, _⟩
  · subst hU
    subst hm
    have hys : ys = [] := by
      have := hsrc.1
      apply List.eq_nil_of_length_eq_zero
      omega
    subst hys
    have hrun := run_append_owned_none (P := Tryd.prog) (w := w) 0 34 o.type 5 i0 1 Tryd.underlying34 hi v n xs hown
    obtain ⟨ao, cp, rfl⟩ := row_form hown
    unfold Oper.wp execOp
    simp only [ho, resolve, invoke, builtin, Sem.run_bind, Sem.run_pure, Result.andThen_ok, List.map_toArray, List.map_cons, List.map_nil, hs, hx, hrun]
    exact h ao cp w (by simpa using hown) (Kept.refl _ _) (Lies.refl _ _)
  · subst hU
    have hl : ys.length = m * 1 := hsrc.1
    obtain ⟨v', w', hr, h2, h3, _, h5⟩ := run_append_own_at (P := Tryd.prog) w 0 34 o.type 5 i0 (.int .u8 0) 1 1 Tryd.underlying34 hi hz0 hz1 hz2 rfl (by decide) v n xs hown ⟨g, 0, none⟩ m cap ys hl (hsrc.cells rfl) h1 (by unfold maxLen; omega) (by omega) (by omega)
    obtain ⟨ao, cp, rfl⟩ := row_form h2
    unfold Oper.wp execOp
    simp only [ho, resolve, invoke, builtin, Sem.run_bind, Sem.run_pure, Result.andThen_ok, List.map_toArray, List.map_cons, List.map_nil, hs, hx, hr]
    refine h ao cp w' h2 (Kept.of_grown h3) ?_
    rcases h5 with h | h
    · exact .inl h
    · exact .inr ⟨_, h, Nat.le_refl _⟩

theorem putD_meet {w w4 w5 : World} {B len c N f : Nat} {V V5 : Value} (hB : w.heap[B]? = some (.cells #[V] 101 (0, 0))) (hne : V.ownBlock ≠ some B) (hk4 : Kept [] w w4) (ho5 : w5.ownsRow 0 5 1 V5 (len + c) ((bin len N).map byt ++ (bin c f).map byt))
    (hk5 : Kept V.ownBlock.toList w4 w5) (hl5 : Lies w4 V V5) (hf : f < 2 ^ c) :
    RefW (w5.setCell ⟨B, 0, none⟩ V5) B V5 (bin (len + c) (N * 2 ^ c + f)) ∧ Kept (B :: V.ownBlock.toList) w (w5.setCell ⟨B, 0, none⟩ V5) ∧ Lies w V V5 := by
  have hB5 := hk5.heap (hk4.heap hB (by simp)) (by rw [mem_own]; exact hne)
  have hn5 := own_ne2 hB5 (by decide) ho5
  refine ⟨⟨by rw [heap_setCell_at hB5]; simp, ?_⟩, ?_, (Lies.refl w V).trans (w1 := w4) ?_ hk4.size⟩
  · rw [bin_put len c N f hf, List.length_append, bin_length, bin_length, List.map_append]
    exact ownsRow_setCell_other ho5 hn5 _
  · exact ((hk4.mono (l2 := B :: V.ownBlock.toList) (by simp)).step hk5 (fun x hx => .inl (List.mem_cons_of_mem _ hx))).setCell (by simp) _
  · exact hl5

set_option maxHeartbeats 2000000 in
set_option maxRecDepth 1000000 in
/-- The document's Put of a number. -/
theorem putD_any (B : Nat) (V : Value) (N len : Nat) (v k wide : Int) (w : World) (h : RefW w B V (bin len N)) (k0 : 0 ≤ k) (k1 : k ≤ 15) (w0 : 1 ≤ wide) (w1 : wide ≤ 16) (v0 : 0 ≤ v) (hv : v.toNat < 2 ^ wide.toNat) (hl : len ≤ 100000000000000) :
    Calls Tryd.prog 39 #[.pointer (some ⟨B, 0, none⟩), .int .i64 v, .int .i64 k, .int .i64 wide] w fun e w' => e = .returned (.int .i64 0) ∧
      ∃ V', RefW w' B V' (bin (len + gw v.toNat k.toNat wide.toNat) (N * 2 ^ gw v.toNat k.toNat wide.toNat + gf v.toNat k.toNat)) ∧ Kept (B :: V.ownBlock.toList) w w' ∧ Lies w V V' := by
  have hrow : w.ownsRow 0 5 1 V len ((bin len N).map byt) := by have := h.2; rwa [bin_length] at this
  have hne := own_ne2 h.1 (by decide) hrow
  obtain ⟨ao, cap, rfl⟩ := row_form hrow
  obtain ⟨c0, f0⟩ := cells_one h.1
  have HB := Hid.mk h.1
  have HR := Hid.mk hrow
  obtain ⟨X, hX⟩ : ∃ X : Int, X = ((2 ^ wide.toNat : Nat) : Int) := ⟨_, rfl⟩
  have hX2 : v < X := by omega
  have Hp := Hid.mk (fun w => power_any wide X w (by omega) (by omega) hX)
  have Hf := Hid.mk (fun w => formD_any v k wide w k0 k1 w0 w1 v0 hv)
  have Hgf := Hid.mk (gf_lt v.toNat k.toNat wide.toNat hv)
  have v0' : decide (v < 0) = false := by simp; omega
  clear h hX hv hrow
  go_enter Tryd.func39, Tryd.ntmps39
  go_wp2_with (first
    | (go_at_call 62; refine (params_ok k wide _ k0 k1 w0 w1).mono ?_; rintro e w2 ⟨rfl, rfl⟩)
    | (go_at_call 63; refine (Hp.out _).mono ?_; rintro e w3 ⟨rfl, rfl⟩))
  obtain ⟨c, hc⟩ : ∃ c, c = gw v.toNat k.toNat wide.toNat := ⟨_, rfl⟩
  have hc40 : c ≤ 40 := by rw [hc]; exact (gw_le _ _ _ (by omega) (by omega)).2
  rw [← hc] at Hf
  have Hc := Hid.mk hc
  clear hc
  go_region_law (first | (refine step_app _ (by rfl) (.tmp 27) (.tmp 31) (by rfl) _ _ _ (by rfl) (hk4.undrew.row HR.out (by simp)) _ _ _ (by rfl) ho4 (bytes_one _) (by omega) ?_; intro ao5 cp5 w5 ho5 hk5 hl5; have hB5 := hk5.heap (hk4.undrew.heap HB.out (by simp)) (by rw [mem_own]; exact hne); have q0 := (cells_one hB5).1; have q1 := (cells_one hB5).2) | (go_simp; go_at_call 64; refine (Hf.out _).mono ?_; rintro e w4 ⟨U, rfl, ho4, hk4, hl4⟩; have q4 := (cells_one (hk4.undrew.heap HB.out (by simp))).1; have z4 := (cells_one (hk4.undrew.heap HB.out (by simp))).2))
  all_goals go_wp2
  all_goals go_ret
  all_goals
    refine ⟨rfl, .slice ao5 (len + c) cp5, ?_⟩
    rw [← Hc.out]
    exact putD_meet (w := w3) (w4 := w4) HB.out hne hk4.undrew ho5 hk5 hl5 (by rw [Hc.out]; exact Hgf.out)
end Go.Proofs.YthhcihcgefeblaaDoor
