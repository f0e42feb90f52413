import Derived.Test.YtlkbpimlofgflaaDooreD
namespace Go.Proofs.YtlkbpimlofgflaaDoor
open Go.RowKit

def tb (s : ByteArray) : List Nat := s.data.toList.map (·.toNat)
theorem tb_cells (s : ByteArray) : Lib.strCells s = (tb s).map byt := by
  unfold Lib.strCells tb
  rw [List.map_map]
  rfl
theorem tb_len (s : ByteArray) : (tb s).length = s.size := by
  unfold tb
  rw [List.length_map, Array.length_toList]
  rfl
theorem tb_byts (s : ByteArray) : Byts (tb s) := fun b hb => by
  obtain ⟨x, _, rfl⟩ := List.mem_map.1 hb
  exact x.toNat_lt
/-- A label's bytes but for the sum. -/
def lb0 (s : ByteArray) (r st : Nat) : List Nat := ((([82, 69, 69, 76] ++ [1, r, s.size]) ++ tb s) ++ wds [st])
def lbl (s : ByteArray) (r st : Nat) : List Nat := smd (lb0 s r st)
theorem lb0_len (s : ByteArray) (r st : Nat) : (lb0 s r st).length = 11 + s.size := by simp [lb0, tb_len, wds_len]; omega
theorem lbl_len (s : ByteArray) (r st : Nat) : (lbl s r st).length = 15 + s.size := by rw [lbl, smd_len, lb0_len]; omega

theorem step_app2 {ops : Array Oper} {o : Oper} {a : Act} {w : World} {K : Act → World → Prop} {Q : Exit → Act → World → Prop} {E : Prop} (hg : o.guard = none) (s x : Operand) (t t2 : Nat)
    (hop : o.op = Op.call { callee := Callee.builtin Builtin.append, args := #[s, x], argTypes := #[t, t2] }) (v1 v2 v' : Value) (w' : World) (hs : a.eval s = v1) (hx : a.eval x = v2)
    (hr : Sem.run Tryd.prog (Builtin.append_ #[t, t2] o.type #[v1, v2]) w = .ok v' w') (hK : K (a.put o.dst v') w') :
    if Region.wanted o (yielded ops a.tmps) = true then Oper.wp Tryd.prog o a w K Q else E := by
  have hw : Region.wanted o (yielded ops a.tmps) = true := by simp [Region.wanted, hg]
  rw [if_pos hw]
  unfold Oper.wp
  simp [execOp, hop, resolve, invoke, builtin, hs, hx, hr, Result.andThen]
  exact hK
theorem app_str (u : World) (ty B : Nat) (v : Value) (n : Nat) (xs : List Value) (ho : u.ownsRow B 5 1 v n xs) (hB : B ≤ u.heap.size) (s : ByteArray) (hs : n + s.size ≤ 140737488355200) :
    ∃ bo bc u', Sem.run Tryd.prog (Builtin.append_ #[44, 9] ty #[v, .string s]) u = .ok (.slice bo (n + s.size) bc) u' ∧ u'.ownsRow B 5 1 (.slice bo (n + s.size) bc) (n + s.size) (xs ++ (tb s).map byt) ∧ Kept v.ownBlock.toList u u' := by
  obtain ⟨i0, hi, hz0, hz1, hz2⟩ := info_parts Tryd.info5
  obtain ⟨v', u', h1, h2, h3, -⟩ := Lib.run_append_own_string (P := Tryd.prog) u B 44 9 ty 5 i0 Tryd.underlying44 Tryd.underlying9 hi hz0 hz1 hz2 v n xs ho s (by unfold maxLen; omega) (by omega) hB
  obtain ⟨bo, bc, rfl, -⟩ := row_none h2
  rw [tb_cells] at h2
  exact ⟨bo, bc, u', h1, h2, Kept.of_grown h3⟩

set_option maxHeartbeats 4000000 in
set_option maxRecDepth 1000000 in
theorem label_any (w : World) (s : ByteArray) (r st : Nat) (hs : s.size ≤ 100) (hr : r ≤ 7) (hst : st < 4294967296) :
    Calls Tryd.prog 16 #[.agg #[.string s, .int .i64 (r : Int), .int .i64 (st : Int)]] w fun e w' => ∃ v', e = .returned v' ∧ w'.ownsRow 0 5 1 v' (lbl s r st).length ((lbl s r st).map byt) ∧ Kept [] w w' ∧ (∃ g, v'.ownBlock = some g ∧ w.heap.size ≤ g) := by
  obtain ⟨n, en⟩ : ∃ n, s.size = n := ⟨_, rfl⟩
  have ns : ((s.size : Nat) : Int) = (n : Int) := by rw [en]
  have kc := Lib.run_convert_bytes_const (P := Tryd.prog) (w.alloc (.cells #[.string s, .int .i64 (r : Int), .int .i64 (st : Int)] 25)) 44 5 #[.int .u8 82, .int .u8 69, .int .u8 69, .int .u8 76] 4 4 Tryd.underlying44 Tryd.underlying5
  rw [World.size_alloc] at kc
  have r1 : IntKind.u8.wrap (r : Int) = (r : Int) := by rw [IntKind.wrap_u8']; omega
  have n1 : IntKind.u8.wrap (n : Int) = (n : Int) := by rw [IntKind.wrap_u8']; omega
  obtain ⟨w2, ew2⟩ : ∃ w2, (w.alloc (.cells #[.string s, .int .i64 (r : Int), .int .i64 (st : Int)] 25)).alloc (.cells #[.int .u8 82, .int .u8 69, .int .u8 69, .int .u8 76] 5 (4, 5)) = w2 := ⟨_, rfl⟩
  have k2 : Kept [] w w2 := by rw [← ew2]; exact ((Kept.refl [] w).alloc _).alloc _
  have s2 : w2.heap.size = w.heap.size + 2 := by rw [← ew2, World.size_alloc, World.size_alloc]
  have b1 : w2.heap[w.heap.size]? = some (.cells #[.string s, .int .i64 (r : Int), .int .i64 (st : Int)] 25 (0, 0)) := by
    rw [← ew2]; exact ((Kept.refl [] _).alloc _).heap (heap_alloc_new _ _) (by simp)
  have b2 : w2.heap[w.heap.size + 1]? = some (.cells (([82, 69, 69, 76] : List Nat).map byt).toArray 5 (4, 5)) := by
    rw [← ew2]; have := heap_alloc_new (w.alloc (.cells #[.string s, .int .i64 (r : Int), .int .i64 (st : Int)] 25)) (.cells #[.int .u8 82, .int .u8 69, .int .u8 69, .int .u8 76] 5 (4, 5)); rw [World.size_alloc] at this; exact this
  have ka : Kept [] w2 (w2.alloc (.cells #[.int .u8 1, .int .u8 (r : Int), .int .u8 (n : Int)] 5)) := (Kept.refl [] _).alloc _
  have hR3 : Reads (w2.alloc (.cells #[.int .u8 1, .int .u8 (r : Int), .int .u8 (n : Int)] 5)) (some ⟨w2.heap.size, 0, none⟩) [1, r, n] := lit_read (f := (0, 0)) (heap_alloc_new w2 _)
  obtain ⟨bo, bc, w4, hrun, h4, k4, l4⟩ := app_bl (w2.alloc (.cells #[.int .u8 1, .int .u8 (r : Int), .int .u8 (n : Int)] 5)) 44 (.slice (some ⟨w.heap.size + 1, 0, none⟩) 4 4) [82, 69, 69, 76] (.inr ⟨_, rfl, (lit_read b2).keep ka⟩) (some ⟨w2.heap.size, 0, none⟩) 3 3 [1, r, n] hR3 rfl (by simp) (by decide) (by decide)
  rw [s2] at hrun
  have K4 : Hid (Kept [] w w4) := Hid.mk ((k2.trans ka).step k4 (fun x hx => by simp [Value.ownBlock] at hx; subst hx; exact .inr (by omega)))
  have B4 : Hid (w4.heap[w.heap.size]? = some (.cells #[.string s, .int .i64 (r : Int), .int .i64 (st : Int)] 25 (0, 0))) := Hid.mk (k4.heap (ka.heap b1 (by simp)) (by simp [Value.ownBlock]))
  have O4 : Hid (w4.ownsRow w.heap.size 5 1 (.slice bo 7 bc) 7 ((([82, 69, 69, 76] : List Nat) ++ [1, r, n]).map byt)) := Hid.mk (by
    have h5 : w4.ownsRow 0 5 1 (.slice bo 7 bc) 7 ((([82, 69, 69, 76] : List Nat) ++ [1, r, n]).map byt) := h4
    have hn : ∀ x ∈ (Value.slice bo 7 bc).ownBlock.toList, w.heap.size ≤ x := fun x hx => by
      rcases Lies.mem l4 x hx with h | h
      · simp [Value.ownBlock] at h; subst h; omega
      · rw [World.size_alloc, s2] at h; omega
    refine ⟨h5.1, ?_⟩
    rcases h5.2 with ⟨h, _⟩ | ⟨g, cap, cur, hx, _, h⟩
    · cases h
    · exact .inr ⟨g, cap, cur, hx, hn g (by rw [hx]; simp [Value.ownBlock]), h⟩)
  clear k2 b1 b2 ka hR3 h4 k4 l4 s2
  subst ew2
  go_enter Tryd.func16, Tryd.ntmps16
  go_wp2_with (at_builtin; refine wpList_app_eq' rfl _ _ 44 rfl _ _ _ _ rfl rfl hrun ?_)
  clear kc hrun r1 n1
  have BY : Byts (lb0 s r st) := by
    unfold lb0
    refine Byts.append (Byts.append (Byts.append (by unfold Byts; decide) ?_) (tb_byts s)) (wds_byts _)
    intro b hb
    simp at hb
    omega
  have cel : ∀ u : World, u.heap[w.heap.size]? = some (.cells #[.string s, .int .i64 (r : Int), .int .i64 (st : Int)] 25 (0, 0)) → u.cell? ⟨w.heap.size, 0, none⟩ = some (.string s) ∧ u.cell? ⟨w.heap.size, 2, none⟩ = some (.int .i64 (st : Int)) := fun u hu => by
    refine ⟨?_, ?_⟩ <;> simp [World.cell?, hu]
  have post : ∀ (u : World) (v : Value) (zg : Nat), Kept [] w u → u.ownsRow 0 5 1 v (7 + n) (((([82, 69, 69, 76] : List Nat) ++ [1, r, n]) ++ tb s).map byt) → (∃ g, v.ownBlock = some g ∧ w.heap.size ≤ g) → Nms u (some ⟨zg, 0, none⟩) [st] → (∀ g, v.ownBlock = some g → zg ≠ g) → u.heap[w.heap.size]? = some (.cells #[.string s, .int .i64 (r : Int), .int .i64 (st : Int)] 25 (0, 0)) →
      Calls Tryd.prog 32 #[v, .slice (some ⟨zg, 0, none⟩) 1 1] u fun e w' => ∃ v', e = .returned v' ∧ (w'.cell? ⟨w.heap.size, 0, none⟩ = some (.string s) ∧ w'.cell? ⟨w.heap.size, 2, none⟩ = some (.int .i64 (st : Int))) ∧ Hid (Calls Tryd.prog 31 #[v'] w' fun e w'' => ∃ v2, e = .returned v2 ∧ (w''.cell? ⟨w.heap.size, 0, none⟩ = some (.string s) ∧ w''.cell? ⟨w.heap.size, 2, none⟩ = some (.int .i64 (st : Int))) ∧ Hid (w''.ownsRow 0 5 1 v2 (lbl s r st).length ((lbl s r st).map byt) ∧ Kept [] w w'' ∧ (∃ g, v2.ownBlock = some g ∧ w.heap.size ≤ g))) := by
    rintro u v zg hk ho ⟨g, hg, hgs⟩ hz hne hbx
    have e7 : (((([82, 69, 69, 76] : List Nat) ++ [1, r, n]) ++ tb s)).length = 7 + n := by simp [tb_len, en]; omega
    have ho2 := ho
    rw [← e7] at ho2
    refine (words_any u v _ (some ⟨zg, 0, none⟩) 1 1 [st] (.inl ho2) (by simp) hz rfl (by simp; omega) (fun _ g' off e hm => ?_) (by omega)).mono ?_
    · cases e
      rw [hg] at hm
      simp at hm
      exact hne g hg hm
    · rintro e w' ⟨v', rfl, h1, h2, h3⟩
      have hb1 := h2.heap hbx (own_ty hbx (by decide) ho)
      have k1 : Kept [] w w' := hk.step h2 (fun x hx => by rw [hg] at hx; simp at hx; subst hx; exact .inr hgs)
      have g1 : ∃ g, v'.ownBlock = some g ∧ w.heap.size ≤ g := by
        rcases h3 with h | ⟨g2, h, hg2⟩
        · exact ⟨g, h.trans hg, hgs⟩
        · exact ⟨g2, h, by have := hk.size; omega⟩
      have o1 : w'.ownsRow 0 5 1 v' (lb0 s r st).length ((lb0 s r st).map byt) := by
        have e9 : (lb0 s r st).length = (((([82, 69, 69, 76] : List Nat) ++ [1, r, n]) ++ tb s)).length + 4 * 1 := by rw [lb0_len, e7]; omega
        rw [e9, lb0, en]
        exact h1
      refine ⟨v', rfl, cel _ hb1, Hid.mk ((summed_any w' v' _ o1 BY (by rw [lb0_len]; omega)).mono ?_)⟩
      rintro e w'' ⟨v2, rfl, h4, h5, h6⟩
      obtain ⟨g, hg, hgs⟩ := g1
      refine ⟨v2, rfl, cel _ (h5.heap hb1 (own_ty hb1 (by decide) o1)), Hid.mk ⟨h4, k1.step h5 (fun x hx => ?_), ?_⟩⟩
      · rw [hg] at hx; simp at hx; subst hx; exact .inr hgs
      · rcases h6 with h | ⟨g2, h, hg2⟩
        · exact ⟨g, h.trans hg, hgs⟩
        · exact ⟨g2, h, by have := k1.size; omega⟩
  have P1 := Hid.mk post
  have hB : w4.heap[w.heap.size]? = some (.cells #[.string s, .int .i64 (r : Int), .int .i64 (st : Int)] 25 (0, 0)) := B4.out
  have lt4 : w.heap.size ≤ w4.heap.size := K4.out.size
  have nB : w.heap.size ∉ (Value.slice bo 7 bc).ownBlock.toList := own_ty hB (by decide) (own_zero O4.out)
  have c0 : w4.cell? ⟨w.heap.size, 0, none⟩ = some (.string s) := by simp [World.cell?, hB]
  have c2 : w4.cell? ⟨w.heap.size, 2, none⟩ = some (.int .i64 (st : Int)) := by simp [World.cell?, hB]
  have kb : Kept [] w4 (w4.drew.alloc (.cells #[.int .i64 (st : Int)] 3)) := ((Kept.refl [] w4).drew).alloc _
  obtain ⟨ao, ac, uA, hA, oA, kA⟩ := app_str w4.drew 44 w.heap.size (.slice bo 7 bc) 7 _ (((Kept.refl [] w4).drew).row O4.out (by simp)) lt4 s (by omega)
  obtain ⟨bo2, bc2, uB, hB2, oB, kB⟩ := app_str (w4.drew.alloc (.cells #[.int .i64 (st : Int)] 3)) 44 w.heap.size (.slice bo 7 bc) 7 _ (kb.row O4.out (by simp)) (by have := kb.size; omega) s (by omega)
  rw [← List.map_append, en] at oA oB
  rw [en] at hA hB2
  have hBA : uA.heap[w.heap.size]? = some (.cells #[.string s, .int .i64 (r : Int), .int .i64 (st : Int)] 25 (0, 0)) := kA.heap hB nB
  have hBB : uB.heap[w.heap.size]? = some (.cells #[.string s, .int .i64 (r : Int), .int .i64 (st : Int)] 25 (0, 0)) := kB.heap (kb.heap hB (by simp)) nB
  have c2B : uB.cell? ⟨w.heap.size, 2, none⟩ = some (.int .i64 (st : Int)) := by simp [World.cell?, hBB]
  have c0B : uB.cell? ⟨w.heap.size, 0, none⟩ = some (.string s) := by simp [World.cell?, hBB]
  have c0A : uA.cell? ⟨w.heap.size, 0, none⟩ = some (.string s) := by simp [World.cell?, hBA]
  have c2A : uA.cell? ⟨w.heap.size, 2, none⟩ = some (.int .i64 (st : Int)) := by simp [World.cell?, hBA]
  have KA : Kept [] w uA := (K4.out.drew).step kA (fun x hx => .inr (own_new O4.out x hx))
  have KB : Kept [] w uB := (K4.out.trans kb).step kB (fun x hx => .inr (own_new O4.out x hx))
  have CA := Hid.mk (P1.out (uA.alloc (.cells #[.int .i64 (st : Int)] 3)) (.slice ao (7 + n) ac) uA.heap.size (KA.alloc _) (((Kept.refl [] uA).alloc _).row (own_zero oA) (by simp)) (by
      rcases oA.2 with ⟨h, _⟩ | ⟨g, cap, cur, hx, hg, h⟩
      · simp only [Value.slice.injEq] at h; omega
      · exact ⟨g, by rw [hx]; rfl, hg⟩) (nms_new uA [st]) (fun g hg e => by
      have := own_lt oA g (by rw [hg]; simp)
      omega) (((Kept.refl [] uA).alloc (.cells #[.int .i64 (st : Int)] 3)).heap hBA (by simp)))
  have CB := Hid.mk (P1.out uB (.slice bo2 (7 + n) bc2) w4.heap.size KB (own_zero oB) (by
      rcases oB.2 with ⟨h, _⟩ | ⟨g, cap, cur, hx, hg, h⟩
      · simp only [Value.slice.injEq] at h; omega
      · exact ⟨g, by rw [hx]; rfl, hg⟩) ((nms_new w4.drew [st]).kept kB (fun g off e hm => by
      cases e
      have := own_lt O4.out _ hm
      exact Nat.lt_irrefl _ this)) (fun g hg e => by
      subst e
      have hz : uB.heap[w4.heap.size]? = some (.cells #[.int .i64 (st : Int)] 3 (0, 0)) := kB.heap (heap_alloc_new w4.drew _) (fun hm => by
        have := own_lt O4.out _ hm
        exact Nat.lt_irrefl _ this)
      exact own_ty hz (by decide) (own_zero oB) (by rw [hg]; simp)) hBB)
  clear P1 post KA KB kA kB oA oB kb hB hBA hBB nB
  clear cel BY
  go_region_held_law (fun u => u.cell? ⟨w.heap.size, 0, none⟩ = some (.string s) ∧ u.cell? ⟨w.heap.size, 2, none⟩ = some (.int .i64 (st : Int))) (first | exact ⟨c0, c2⟩ | exact ⟨c0A, c2A⟩ | exact ⟨c0B, c2B⟩ | exact y0 | exact z0 | go_keep) (first
    | (go_at_call 31; with_reducible refine C3.out.mono ?_; rintro e x2 ⟨v2, rfl, z0, HF⟩)
    | (go_at_call 32; with_reducible refine CA.out.mono ?_; rintro e x1 ⟨v1, rfl, y0, C3⟩)
    | (go_at_call 32; with_reducible refine CB.out.mono ?_; rintro e x1 ⟨v1, rfl, y0, C3⟩)
    | refine step_app2 rfl _ _ 44 9 rfl _ _ _ _ rfl rfl hA ?_
    | refine step_app2 rfl _ _ 44 9 rfl _ _ _ _ rfl rfl hB2 ?_)
  all_goals focus
    go_wp2
    go_ret
    exact ⟨v2, rfl, HF.out⟩
end Go.Proofs.YtlkbpimlofgflaaDoor
