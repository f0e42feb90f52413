import Derived.Test.YtplpjpijmnglfaaP6
namespace Go.Proofs.Ytplpjpijmnglfaa
open Go.RowKit

theorem nrw_form {V : Value} {l : List Int} {w : World} (h : (nrw V l).P w) (hl : 0 < l.length) : ∃ M pm, V = .slice (some ⟨M, 0, none⟩) l.length pm := by
  have h' : w.ownsRow 0 3 1 V l.length (l.map (.int .i64)) := h
  rcases h'.2 with ⟨_, h1⟩ | ⟨g', cap', cur, h1, _⟩
  · omega
  · exact ⟨g', cap', h1⟩
theorem step_app {ops : Array Oper} {o : Oper} {a : Act} {w : World} {K : Act → World → Prop} {Q : Exit → Act → World → Prop} {E : Prop} (hg : o.guard = none) (s x : Operand) (t : Nat)
    (hop : o.op = Op.call { callee := Callee.builtin Builtin.append, args := #[s, x], argTypes := #[t, t] }) (v1 v2 v' : Value) (w' : World) (hs : a.eval s = v1) (hx : a.eval x = v2)
    (hr : Sem.run Try.prog (Builtin.append_ #[t, t] o.type #[v1, v2]) w = .ok v' w') (hK : K (a.put o.dst v') w') :
    if Region.wanted o (yielded ops a.tmps) = true then Oper.wp Try.prog o a w K Q else E := by
  have hw : Region.wanted o (yielded ops a.tmps) = true := by simp [Region.wanted, hg]
  rw [if_pos hw]
  unfold Oper.wp
  simp [execOp, hop, resolve, invoke, builtin, hs, hx, hr, Result.andThen]
  exact hK

set_option maxHeartbeats 8000000 in
set_option maxRecDepth 100000 in
theorem step5 (W w : World) (A : Nat) (on n : Int) (s : Wo) (b : Nat) (h : At W w A s) (hw : Wk s b) (hp : 0 < s.c 0) (_hb : b ≤ 5864062014700) (on0 : -9223372036854775808 ≤ on) (on1 : on ≤ 9223372036854775807) (n0 : -9223372036854775808 ≤ n) (n1 : n ≤ 9223372036854775807) :
    Calls Try.prog 7 #[.pointer (some ⟨A, 0, none⟩), .agg #[.int .i64 5, .int .i64 on, .int .i64 n]] w fun e w' => SPost W A (b + 1) e w' := by
  have HH := Hid.mk h
  have HW := Hid.mk hw
  have hc0 := hw.le0
  have hc : (0 : Int) < (s.c 0 : Int) := by omega
  obtain ⟨k, hpk, hk⟩ := nat_of (pick_lo on (s.c 0) hc) (pick_hi on (s.c 0) hc)
  have CP := Hid.mk (fun w => pick_any on (s.c 0) w on0 on1 hc)
  rw [hpk] at CP
  clear h hw hpk on0 on1
  go_enter Try.func7, Try.ntmps7
  go_wp2_with (fail)
  obtain ⟨w1, hw1, k1, hb1⟩ := three_new w (.int .i64 5) (.int .i64 on) (.int .i64 n) 35
  rw [hw1]
  clear hw1
  obtain ⟨B, hB⟩ : ∃ B, B = w.heap.size := ⟨_, rfl⟩
  rw [← hB] at hb1 ⊢
  clear hB
  have H1 := Hid.mk (HH.out.keep k1)
  have HB := Hid.mk hb1
  have HK1 := Hid.mk k1
  obtain ⟨⟨d0, d1, d2⟩, -⟩ := three hb1
  have c0 := H1.out.cells.1 0 (by omega)
  obtain ⟨G0, p0, e0, y0, -⟩ := H1.out.val 0 k (by omega) (by rw [HW.out.r]; exact hk)
  rw [HW.out.r 0] at e0
  rw [e0] at c0
  have HE0 := Hid.mk e0
  clear k1 hb1 e0 hc
  go_wp2_with (fail)
  go_quiet ((go_at_call 8; exact Calls.quiet_of_same (CP.out _)))
  obtain ⟨w2, hw2, k2⟩ : ∃ w2, w1.drewN nq = w2 ∧ Kept [] w1 w2 := ⟨_, rfl, (Kept.refl _ _).drewN _⟩
  rw [hw2]
  have H2 := Hid.mk (H1.out.keep k2)
  have HB2 := Hid.mk (k2.heap HB.out (by simp))
  have HK2 := Hid.mk k2
  clear hw2 c0 y0 d0 d1 d2 k2
  obtain ⟨⟨d0, d1, d2⟩, -⟩ := three HB2.out
  obtain ⟨P, Q, m, g, t, l, hG, v0, x0, v1, x1, x2, hl, hlb, hli⟩ := HW.out.ar k hk
  have HV := Hid.mk (And.intro v0 (And.intro x0 (And.intro v1 (And.intro x1 (And.intro x2 (And.intro hl (And.intro hlb (And.intro hli hG))))))))
  have c0 := H2.out.cells.1 0 (by omega)
  rw [HE0.out] at c0
  obtain ⟨G0', p0', e0', y0, -⟩ := H2.out.val 0 k (by omega) (by rw [HW.out.r]; exact hk)
  obtain rfl : G0' = G0 := by have := e0'.symm.trans HE0.out; simp at this; exact this.1
  rw [v0] at y0
  have c1 := H2.out.cells.1 1 (by omega)
  obtain ⟨G1, p1, e1, y1, -⟩ := H2.out.val 1 k (by omega) (by rw [HW.out.r, HW.out.c1]; exact hk)
  rw [HW.out.r, HW.out.c1] at e1
  rw [e1] at c1
  rw [v1] at y1
  have HE1 := Hid.mk e1
  have HA : Hid (Ar 62 w2 P m g t) := Hid.mk (by have := H2.out.thing 0 k (by omega) hk; rw [x0] at this; exact this)
  have HQ : Hid (Ar 60 w2 Q m g t) := Hid.mk (by have := H2.out.thing 1 k (by omega) (by rw [HW.out.c1]; exact hk); rw [x1] at this; exact this)
  have ix : (k : Int) < (s.c 0 : Int) := by omega
  clear v0 x0 v1 x1 x2 hl hlb hli hG e0' e1
  have HNE : Hid (A ∉ [P, Q] ∧ G0' ∉ [P, Q] ∧ G1 ∉ [P, Q] ∧ B ∉ [P, Q]) := Hid.mk (by
    have tA := H2.out.box
    have r0 := H2.out.row 0 (by omega)
    rw [HE0.out, HW.out.r] at r0
    have r1 := H2.out.row 1 (by omega)
    rw [HE1.out, HW.out.r, HW.out.c1] at r1
    obtain ⟨cu0, t0⟩ := row_ty r0
    obtain ⟨cu1, t1⟩ := row_ty r1
    exact ⟨not_pq tA HA.out HQ.out (by decide) (by decide), not_pq t0 HA.out HQ.out (by decide) (by decide), not_pq t1 HA.out HQ.out (by decide) (by decide), not_pq HB2.out HA.out HQ.out (by decide) (by decide)⟩)
  have hlpos := HV.out.2.2.2.2.2.1
  have hlb := HV.out.2.2.2.2.2.2.1
  have HM : Hid ((nrw (s.V 2 k) l).P w2) := Hid.mk (by have := H2.out.thing 2 k (by omega) (by rw [HW.out.c2]; exact hk); rw [HV.out.2.2.2.2.1] at this; exact this)
  have c2 := H2.out.cells.1 2 (by omega)
  obtain ⟨G2, p2, e2, y2, f2⟩ := H2.out.val 2 k (by omega) (by rw [HW.out.r, HW.out.c2]; exact hk)
  rw [HW.out.r, HW.out.c2] at e2
  rw [e2] at c2
  obtain ⟨M, pm, eM⟩ := nrw_form HM.out hlpos
  rw [eM] at y2
  have HE2 := Hid.mk e2
  have HEM := Hid.mk eM
  have hown : w2.ownsRow 0 3 1 (.slice (some ⟨M, 0, none⟩) l.length pm) l.length (l.map (.int .i64)) := by have := HM.out; rw [eM] at this; exact this
  have HOwn := Hid.mk hown
  clear e2 eM hown
  have hlc : (0 : Int) < (l.length : Int) := by omega
  obtain ⟨j, hj, hjl⟩ := nat_of (pick_lo n l.length hlc) (pick_hi n l.length hlc)
  have CN := Hid.mk (fun w => pick_any n l.length w n0 n1 hlc)
  rw [hj] at CN
  have yj := HOwn.out.cellAt j (by omega)
  obtain ⟨x, hx⟩ : ∃ x, l[j]? = some x := ⟨l[j], by simp [hjl]⟩
  have yj2 : w2.cell? ⟨M, j, none⟩ = some (.int .i64 x) := by rw [yj]; simp [hx]
  have jx : (j : Int) < (l.length : Int) := by omega
  clear yj hj hx n0 n1 f2 hlc
  generalize hL : l.length = L at *
  have HLL := Hid.mk hL
  clear hL
  go_upto_region 20 with (fail)
  go_quiet ((go_at_call 8; exact Calls.quiet_of_same (CN.out _)))
  obtain ⟨w3, hw3, k3⟩ : ∃ w3, w2.drewN nq = w3 ∧ Kept [] w2 w3 := ⟨_, rfl, (Kept.refl _ _).drewN _⟩
  rw [hw3]
  rw [← HLL.out] at HV
  replace HA := Hid.mk (HA.out.keep k3 (by simp))
  replace HQ := Hid.mk (HQ.out.keep k3 (by simp))
  replace H2 := Hid.mk (H2.out.keep k3)
  replace c0 := cell_keep k3 c0 (by simp)
  replace c1 := cell_keep k3 c1 (by simp)
  replace y0 := cell_keep k3 y0 (by simp)
  replace y1 := cell_keep k3 y1 (by simp)
  replace d2 := cell_keep k3 d2 (by simp)
  clear hw3 k3 c2 y2 yj2 d0 d1 hlb hlpos jx
  go_wp2_with (fail)
  have HE : Hid (∀ u, Kept [P, Q] w3 u → u.cell? ⟨A, 0, none⟩ = some (.slice (some ⟨G0', 0, none⟩) (s.c 0) p0) ∧ u.cell? ⟨A, 1, none⟩ = some (.slice (some ⟨G1, 0, none⟩) (s.c 0) p1) ∧ u.cell? ⟨G0', k, none⟩ = some (.pointer (some ⟨P, 0, none⟩)) ∧ u.cell? ⟨G1, k, none⟩ = some (.pointer (some ⟨Q, 0, none⟩)) ∧ u.cell? ⟨B, 2, none⟩ = some (.int .i64 n)) :=
    Hid.mk (fun u hu => ⟨cell_keep hu c0 HNE.out.1, cell_keep hu c1 HNE.out.1, cell_keep hu y0 HNE.out.2.1, cell_keep hu y1 HNE.out.2.2.1, cell_keep hu d2 HNE.out.2.2.2⟩)
  have HPQ : Hid (Q ∉ [P]) := Hid.mk (by
    have hq : Q ≠ P := ne_ty HQ.out HA.out (by decide)
    simpa using hq)
  have z := HE.out w3.drew ((Kept.refl _ _).drew)
  obtain ⟨z0, z1, z2, z3, z4⟩ := z
  go_region_held_law (fun u => u.cell? ⟨A, 0, none⟩ = some (.slice (some ⟨G0', 0, none⟩) (s.c 0) p0) ∧ u.cell? ⟨A, 1, none⟩ = some (.slice (some ⟨G1, 0, none⟩) (s.c 0) p1) ∧ u.cell? ⟨G0', k, none⟩ = some (.pointer (some ⟨P, 0, none⟩)) ∧ u.cell? ⟨G1, k, none⟩ = some (.pointer (some ⟨Q, 0, none⟩)) ∧ u.cell? ⟨B, 2, none⟩ = some (.int .i64 n))
      (first | exact ⟨z0, z1, z2, z3, z4⟩ | exact HE.out _ K6.out | exact HE.out _ K5.out | assumption)
      (first
        | (go_at_call 13; refine (release_any P m g t x _ (HA.out.keep ((Kept.refl [] w3).drew) (by simp))).mono ?_; rintro e w5 ⟨rfl, A5, k5⟩; have HA5 := Hid.mk A5; have K5 : Hid (Kept [P, Q] w3 w5) := Hid.mk (k5.undrew.mono (by simp)); have KP5 := Hid.mk k5.undrew; clear A5 k5)
        | (go_at_call 22; refine (releaseD_any Q m g t x _ (HQ.out.keep KP5.out HPQ.out)).mono ?_; rintro e w6 ⟨rfl, A6, k6⟩; have HA6 := Hid.mk A6; have K6 : Hid (Kept [P, Q] w3 w6) := Hid.mk (K5.out.trans (k6.mono (by simp))); have KQ6 := Hid.mk k6; clear A6 k6))
  all_goals go_wp2
  all_goals go_ret
  all_goals
    refine ⟨ret_bool (by simp), _, ((H2.out.one 0 k (by omega) hk (arr 62 P m (rlG g x) t) KP5.out (by rw [HV.out.2.1]; exact fun x hx => .inl hx) HA5.out (by rw [HV.out.2.1]; exact fun x hx => .inl hx)).one 1 k (by omega) (by show k < s.c 1; rw [HW.out.c1]; exact hk) (arr 60 Q m (rlG g x) t) KQ6.out (by simp only [Wo.one, upd2]; rw [if_neg (by omega), HV.out.2.2.2.1]; exact fun x hx => .inl hx) HA6.out (by simp only [Wo.one, upd2]; rw [if_neg (by omega), HV.out.2.2.2.1]; exact fun x hx => .inl hx)), (HW.out.give P Q m _ _ (gm_rl HV.out.2.2.2.2.2.2.2.2) l HV.out.1 HV.out.2.2.1 HV.out.2.2.2.2.1 HV.out.2.2.2.2.2.1 HV.out.2.2.2.2.2.2.1 HV.out.2.2.2.2.2.2.2.1).mono (Nat.le_succ _), hp⟩

set_option maxHeartbeats 8000000 in
set_option maxRecDepth 100000 in
theorem step4 (W w : World) (A : Nat) (on n : Int) (s : Wo) (b : Nat) (h : At W w A s) (hw : Wk s b) (hp : 0 < s.c 0) (hb : b ≤ 5864062014700) (on0 : -9223372036854775808 ≤ on) (on1 : on ≤ 9223372036854775807) :
    Calls Try.prog 7 #[.pointer (some ⟨A, 0, none⟩), .agg #[.int .i64 4, .int .i64 on, .int .i64 n]] w fun e w' => SPost W A (b + 1) e w' := by
  have HH := Hid.mk h
  have HW := Hid.mk hw
  have hc0 := hw.le0
  have hc : (0 : Int) < (s.c 0 : Int) := by omega
  obtain ⟨k, hpk, hk⟩ := nat_of (pick_lo on (s.c 0) hc) (pick_hi on (s.c 0) hc)
  have CP := Hid.mk (fun w => pick_any on (s.c 0) w on0 on1 hc)
  rw [hpk] at CP
  clear h hw hpk on0 on1
  go_enter Try.func7, Try.ntmps7
  go_wp2_with (fail)
  obtain ⟨w1, hw1, k1, hb1⟩ := three_new w (.int .i64 4) (.int .i64 on) (.int .i64 n) 35
  rw [hw1]
  clear hw1
  obtain ⟨B, hB⟩ : ∃ B, B = w.heap.size := ⟨_, rfl⟩
  rw [← hB] at hb1 ⊢
  clear hB
  have H1 := Hid.mk (HH.out.keep k1)
  have HB := Hid.mk hb1
  have HK1 := Hid.mk k1
  obtain ⟨⟨d0, d1, d2⟩, -⟩ := three hb1
  have c0 := H1.out.cells.1 0 (by omega)
  obtain ⟨G0, p0, e0, y0, -⟩ := H1.out.val 0 k (by omega) (by rw [HW.out.r]; exact hk)
  rw [HW.out.r 0] at e0
  rw [e0] at c0
  have HE0 := Hid.mk e0
  clear k1 hb1 e0 hc
  go_wp2_with (fail)
  go_quiet ((go_at_call 8; exact Calls.quiet_of_same (CP.out _)))
  obtain ⟨w2, hw2, k2⟩ : ∃ w2, w1.drewN nq = w2 ∧ Kept [] w1 w2 := ⟨_, rfl, (Kept.refl _ _).drewN _⟩
  rw [hw2]
  have H2 := Hid.mk (H1.out.keep k2)
  have HB2 := Hid.mk (k2.heap HB.out (by simp))
  have HK2 := Hid.mk k2
  clear hw2 c0 y0 d0 d1 d2 k2
  obtain ⟨⟨d0, d1, d2⟩, -⟩ := three HB2.out
  obtain ⟨P, Q, m, g, t, l, hG, v0, x0, v1, x1, x2, hl, hlb, hli⟩ := HW.out.ar k hk
  have HV := Hid.mk (And.intro v0 (And.intro x0 (And.intro v1 (And.intro x1 (And.intro x2 (And.intro hl (And.intro hlb (And.intro hli hG))))))))
  have c0 := H2.out.cells.1 0 (by omega)
  rw [HE0.out] at c0
  obtain ⟨G0', p0', e0', y0, -⟩ := H2.out.val 0 k (by omega) (by rw [HW.out.r]; exact hk)
  obtain rfl : G0' = G0 := by have := e0'.symm.trans HE0.out; simp at this; exact this.1
  rw [v0] at y0
  have c1 := H2.out.cells.1 1 (by omega)
  obtain ⟨G1, p1, e1, y1, -⟩ := H2.out.val 1 k (by omega) (by rw [HW.out.r, HW.out.c1]; exact hk)
  rw [HW.out.r, HW.out.c1] at e1
  rw [e1] at c1
  rw [v1] at y1
  have HE1 := Hid.mk e1
  have HA : Hid (Ar 62 w2 P m g t) := Hid.mk (by have := H2.out.thing 0 k (by omega) hk; rw [x0] at this; exact this)
  have HQ : Hid (Ar 60 w2 Q m g t) := Hid.mk (by have := H2.out.thing 1 k (by omega) (by rw [HW.out.c1]; exact hk); rw [x1] at this; exact this)
  have ix : (k : Int) < (s.c 0 : Int) := by omega
  clear v0 x0 v1 x1 x2 hl hlb hli hG e0' e1
  have HNE : Hid (A ∉ [P, Q] ∧ G0' ∉ [P, Q] ∧ G1 ∉ [P, Q] ∧ B ∉ [P, Q]) := Hid.mk (by
    have tA := H2.out.box
    have r0 := H2.out.row 0 (by omega)
    rw [HE0.out, HW.out.r] at r0
    have r1 := H2.out.row 1 (by omega)
    rw [HE1.out, HW.out.r, HW.out.c1] at r1
    obtain ⟨cu0, t0⟩ := row_ty r0
    obtain ⟨cu1, t1⟩ := row_ty r1
    exact ⟨not_pq tA HA.out HQ.out (by decide) (by decide), not_pq t0 HA.out HQ.out (by decide) (by decide), not_pq t1 HA.out HQ.out (by decide) (by decide), not_pq HB2.out HA.out HQ.out (by decide) (by decide)⟩)
  have hlpos := HV.out.2.2.2.2.2.1
  have hlb := HV.out.2.2.2.2.2.2.1
  have HM : Hid ((nrw (s.V 2 k) l).P w2) := Hid.mk (by have := H2.out.thing 2 k (by omega) (by rw [HW.out.c2]; exact hk); rw [HV.out.2.2.2.2.1] at this; exact this)
  have c2 := H2.out.cells.1 2 (by omega)
  obtain ⟨G2, p2, e2, y2, f2⟩ := H2.out.val 2 k (by omega) (by rw [HW.out.r, HW.out.c2]; exact hk)
  rw [HW.out.r, HW.out.c2] at e2
  rw [e2] at c2
  obtain ⟨M, pm, eM⟩ := nrw_form HM.out hlpos
  rw [eM] at y2
  have HE2 := Hid.mk e2
  have HEM := Hid.mk eM
  have hown : w2.ownsRow 0 3 1 (.slice (some ⟨M, 0, none⟩) l.length pm) l.length (l.map (.int .i64)) := by have := HM.out; rw [eM] at this; exact this
  have HOwn := Hid.mk hown
  clear e2 eM hown
  obtain ⟨k0, kh, kz0, kz1, kz2⟩ := info_parts Try.info3
  obtain ⟨w3, hw3, hk3, hc3⟩ : ∃ w3, w2.drew.alloc (.cells #[.int .i64 g] 3) = w3 ∧ Kept [] w2 w3 ∧ ∀ j u, [Value.int .i64 g][j]? = some u → w3.cell? ((⟨w2.drew.heap.size, 0, none⟩ : Addr).add j) = some u := ⟨_, rfl, (((Kept.refl [] w2).drew).alloc _), cell_one_new _ _ _⟩
  obtain ⟨v', w7, hrun, ho, hg7, -, hat⟩ := run_append_own_at (P := Try.prog) w3 0 53 53 3 k0 (.int .i64 0) 1 8 Try.underlying53 kh kz0 kz1 kz2 rfl (by decide) (.slice (some ⟨M, 0, none⟩) l.length pm) l.length (l.map (.int .i64)) (hk3.row HOwn.out (by simp)) ⟨w2.drew.heap.size, 0, none⟩ 1 1 [.int .i64 g] rfl hc3 (fun u hu => by simp at hu; subst hu; rfl) (by unfold maxLen; omega) (by omega) (by omega)
  obtain ⟨aoN, cpN, rfl⟩ := row_form ho
  have hk7 : Kept [M] w3 w7 := Kept.of_grown hg7
  have HNM : Hid (A ∉ [M] ∧ G0' ∉ [M] ∧ G2 ∉ [M]) := Hid.mk (by
    have tA := H2.out.box
    have r0 := H2.out.row 0 (by omega)
    rw [HE0.out, HW.out.r] at r0
    have r2 := H2.out.row 2 (by omega)
    rw [HE2.out, HW.out.r, HW.out.c2] at r2
    obtain ⟨cu0, t0⟩ := row_ty r0
    obtain ⟨cu2, t2⟩ := row_ty r2
    obtain ⟨cuM, tM⟩ := row_ty HOwn.out
    have a1 := ne_ty tA tM (by decide)
    have a2 := ne_ty t0 tM (by decide)
    have a3 := ne_ty t2 tM (by decide)
    simp
    exact ⟨a1, a2, a3⟩)
  have HL : Hid (Lies w3 (s.V 2 k) (.slice aoN (l.length + 1) cpN)) := Hid.mk (by
    rw [HEM.out]
    rcases hat with h | h
    · exact .inl h
    · exact .inr ⟨_, h, Nat.le_refl _⟩)
  have HO := Hid.mk ho
  have HK7 := Hid.mk hk7
  have HK3 := Hid.mk hk3
  have g2f : w7.frozen? ⟨G2, k, none⟩ = false := by
    have r2 := H2.out.row 2 (by omega)
    rw [HE2.out, HW.out.r, HW.out.c2] at r2
    obtain ⟨cu2, t2⟩ := row_ty r2
    have := hk7.heap (hk3.heap t2 (by simp)) HNM.out.2.2
    simp [World.frozen?, this]
  have E7 := Hid.mk (And.intro (cell_keep hk7 (cell_keep hk3 c2 (by simp)) HNM.out.1) (And.intro (cell_keep hk7 (cell_keep hk3 c0 (by simp)) HNM.out.1) (cell_keep hk7 (cell_keep hk3 y0 (by simp)) HNM.out.2.1)))
  have Z7 := Hid.mk (cell_keep hk7 (cell_keep hk3 y2 (by simp)) HNM.out.2.2)
  have E3 := Hid.mk (And.intro (cell_keep hk3 c2 (by simp)) (And.intro (cell_keep hk3 c0 (by simp)) (cell_keep hk3 y0 (by simp))))
  have HN2 : Hid (A ∉ [G2] ∧ G0' ∉ [G2]) := Hid.mk (by
    have tA := H2.out.box
    have r0 := H2.out.row 0 (by omega)
    rw [HE0.out, HW.out.r] at r0
    have r2 := H2.out.row 2 (by omega)
    rw [HE2.out, HW.out.r, HW.out.c2] at r2
    obtain ⟨cu0, t0⟩ := row_ty r0
    obtain ⟨cu2, t2⟩ := row_ty r2
    have a1 := ne_ty tA t2 (by decide)
    have a2 := ne_ty t0 t2 (by decide)
    simp
    exact ⟨a1, a2⟩)
  have C18 := Hid.mk (fun u (hu : Kept [] w2 u) => mark_any P m g t u (HA.out.keep hu (by simp)))
  clear ho hk7 hk3 hc3 hg7 hat f2 d1 d2
  generalize hL : l.length = L at *
  have HLL := Hid.mk hL
  clear hL
  go_upto_region 17 with (fail)
  clear d0
  have z7 := Z7.out
  have ED : Hid (w2.drew.cell? ⟨A, 2, none⟩ = some (.slice (some ⟨G2, 0, none⟩) (s.c 0) p2) ∧ w2.drew.cell? ⟨A, 0, none⟩ = some (.slice (some ⟨G0', 0, none⟩) (s.c 0) p0) ∧ w2.drew.cell? ⟨G0', k, none⟩ = some (.pointer (some ⟨P, 0, none⟩))) := Hid.mk ⟨c2, c0, y0⟩
  have y3 : w3.cell? ⟨G2, k, none⟩ = some (.slice (some ⟨M, 0, none⟩) L pm) := cell_keep HK3.out y2 (by simp)
  have ES : Hid ((w7.setCell ⟨G2, k, none⟩ (.slice aoN (L + 1) cpN)).cell? ⟨A, 2, none⟩ = some (.slice (some ⟨G2, 0, none⟩) (s.c 0) p2) ∧ (w7.setCell ⟨G2, k, none⟩ (.slice aoN (L + 1) cpN)).cell? ⟨A, 0, none⟩ = some (.slice (some ⟨G0', 0, none⟩) (s.c 0) p0) ∧ (w7.setCell ⟨G2, k, none⟩ (.slice aoN (L + 1) cpN)).cell? ⟨G0', k, none⟩ = some (.pointer (some ⟨P, 0, none⟩))) := Hid.mk (by
    have kk := (Kept.refl [G2] w7).setCell (p := ⟨G2, k, none⟩) (.inl (by simp)) (.slice aoN (L + 1) cpN)
    exact ⟨cell_keep kk E7.out.1 HN2.out.1, cell_keep kk E7.out.2.1 HN2.out.1, cell_keep kk E7.out.2.2 HN2.out.2⟩)
  have FN : Hid (∃ s8, At W (w7.setCell ⟨G2, k, none⟩ (.slice aoN (L + 1) cpN)) A s8 ∧ Wk s8 (b + 1) ∧ 0 < s8.c 0) := Hid.mk (by
    rw [← HLL.out] at HV HL HO HEM ⊢
    refine ⟨_, (((H2.out.keep HK3.out).one 2 k (by omega) (by rw [HW.out.c2]; exact hk) (nrw (.slice aoN (l.length + 1) cpN) (l ++ [g])) HK7.out (by rw [HV.out.2.2.2.2.1]; show ∀ x ∈ [M], x ∈ (s.V 2 k).ownBlock.toList ∨ _; rw [HEM.out]; exact fun x hx => .inl hx) (by show w7.ownsRow 0 3 1 _ (l ++ [g]).length ((l ++ [g]).map _); rw [List.length_append, List.map_append]; exact HO.out) (by rw [HV.out.2.2.2.2.1]; exact HL.out.mem)).setv 2 k (by omega) (by show k < s.r 2; rw [HW.out.r, HW.out.c2]; exact hk) (.slice aoN (l.length + 1) cpN) G2 p2 (by show s.S 2 = _; rw [HE2.out]; show _ = Value.slice _ (s.r 2) _; rw [HW.out.r, HW.out.c2])), HW.out.mark P Q m g t HV.out.2.2.2.2.2.2.2.2 l HV.out.1 HV.out.2.1 HV.out.2.2.1 HV.out.2.2.2.1 _ HV.out.2.2.2.2.2.2.1 HV.out.2.2.2.2.2.2.2.1, by show 0 < s.c 0; exact hp⟩)
  have kk := (Kept.refl [G2] w7).setCell (p := ⟨G2, k, none⟩) (.inl (by simp)) (.slice aoN (L + 1) cpN)
  have FC : Hid ((w7.setCell ⟨G2, k, none⟩ (.slice aoN (L + 1) cpN)).cell? ⟨A, 0, none⟩ = some (.slice (some ⟨G0', 0, none⟩) (s.c 0) p0) ∧ (w7.setCell ⟨G2, k, none⟩ (.slice aoN (L + 1) cpN)).cell? ⟨A, 1, none⟩ = some (.slice (some ⟨G1, 0, none⟩) (s.c 0) p1) ∧ (w7.setCell ⟨G2, k, none⟩ (.slice aoN (L + 1) cpN)).cell? ⟨G0', k, none⟩ = some (.pointer (some ⟨P, 0, none⟩)) ∧ (w7.setCell ⟨G2, k, none⟩ (.slice aoN (L + 1) cpN)).cell? ⟨G1, k, none⟩ = some (.pointer (some ⟨Q, 0, none⟩)) ∧ Ar 62 (w7.setCell ⟨G2, k, none⟩ (.slice aoN (L + 1) cpN)) P m g t ∧ Ar 60 (w7.setCell ⟨G2, k, none⟩ (.slice aoN (L + 1) cpN)) Q m g t) := Hid.mk (by
    have r1 := H2.out.row 1 (by omega)
    rw [HE1.out, HW.out.r, HW.out.c1] at r1
    have r2 := H2.out.row 2 (by omega)
    rw [HE2.out, HW.out.r, HW.out.c2] at r2
    obtain ⟨cu1, t1⟩ := row_ty r1
    obtain ⟨cu2, t2⟩ := row_ty r2
    obtain ⟨cuM, tM⟩ := row_ty HOwn.out
    have n1 : G1 ∉ [M] := by have := ne_ty t1 tM (by decide); simpa using this
    have n2 : G1 ∉ [G2] := by have := ne_ty t1 t2 (by decide); simpa using this
    have n3 : P ∉ [M] := by have := ne_ty HA.out tM (by decide); simpa using this
    have n4 : P ∉ [G2] := by have := ne_ty HA.out t2 (by decide); simpa using this
    have n5 : Q ∉ [M] := by have := ne_ty HQ.out tM (by decide); simpa using this
    have n6 : Q ∉ [G2] := by have := ne_ty HQ.out t2 (by decide); simpa using this
    exact ⟨ES.out.2.1, cell_keep kk (cell_keep HK7.out (cell_keep HK3.out c1 (by simp)) HNM.out.1) HN2.out.1, ES.out.2.2, cell_keep kk (cell_keep HK7.out (cell_keep HK3.out y1 (by simp)) n1) n2, ((HA.out.keep HK3.out (by simp)).keep HK7.out n3).keep kk n4, ((HQ.out.keep HK3.out (by simp)).keep HK7.out n5).keep kk n6⟩)
  clear kk
  refine wp_region_held_drew (S := fun u => u.cell? ⟨A, 2, none⟩ = some (.slice (some ⟨G2, 0, none⟩) (s.c 0) p2) ∧ u.cell? ⟨A, 0, none⟩ = some (.slice (some ⟨G0', 0, none⟩) (s.c 0) p0) ∧ u.cell? ⟨G0', k, none⟩ = some (.pointer (some ⟨P, 0, none⟩))) (by kernel_rfl) ED.out (fun hHeld => ?_)
  refine wpAnyH_take (i := 0) (v := ?_) rfl (by kernel_rfl) (by kernel_rfl) (by kernel_rfl) (fun _ _ _ h => h) (Or.inl ⟨by rfl, ?_⟩) (by assumption) ?_
  rotate_left
  · intro w hSw
    try dsimp only at hSw
    go_simp
    all_goals with_reducible rfl
  simp only [Act.put, List.getElem_toArray, List.getElem_cons_zero, List.setIfInBounds_toArray, List.set_cons_zero, List.set_cons_succ]
  refine wpAnyH_take (i := 1) (v := ?_) rfl (by kernel_rfl) (by kernel_rfl) (by kernel_rfl) (fun _ _ _ h => h) (Or.inl ⟨by rfl, ?_⟩) (by assumption) ?_
  rotate_left
  · intro w hSw
    try dsimp only at hSw
    go_simp
    all_goals with_reducible rfl
  simp only [Act.put, List.getElem_toArray, List.getElem_cons_zero, List.getElem_cons_succ, List.setIfInBounds_toArray, List.set_cons_zero, List.set_cons_succ]
  refine wpAnyH_take (i := 2) (v := ?_) rfl (by kernel_rfl) (by kernel_rfl) (by kernel_rfl) (fun _ _ _ h => h) (Or.inl ⟨by rfl, ?_⟩) (by assumption) ?_
  rotate_left
  · intro w hSw
    try dsimp only at hSw
    go_simp
    all_goals with_reducible rfl
  simp only [Act.put, List.getElem_toArray, List.getElem_cons_zero, List.getElem_cons_succ, List.setIfInBounds_toArray, List.set_cons_zero, List.set_cons_succ]
  refine wpAnyH_take (i := 3) (v := ?_) rfl (by kernel_rfl) (by kernel_rfl) (by kernel_rfl) (fun _ _ _ h => h) (Or.inl ⟨by rfl, ?_⟩) (by assumption) ?_
  rotate_left
  · intro w hSw
    try dsimp only at hSw
    go_simp
    all_goals with_reducible rfl
  simp only [Act.put, List.getElem_toArray, List.getElem_cons_zero, List.getElem_cons_succ, List.setIfInBounds_toArray, List.set_cons_zero, List.set_cons_succ]
  refine wpAnyH_take (i := 4) (v := ?_) rfl (by kernel_rfl) (by kernel_rfl) (by kernel_rfl) (fun _ _ _ h => h) (Or.inl ⟨by rfl, ?_⟩) (by assumption) ?_
  rotate_left
  · intro w hSw
    try dsimp only at hSw
    go_simp
    all_goals with_reducible rfl
  simp only [Act.put, List.getElem_toArray, List.getElem_cons_zero, List.getElem_cons_succ, List.setIfInBounds_toArray, List.set_cons_zero, List.set_cons_succ]
  refine wpAnyH_take (i := 5) (v := ?_) rfl (by kernel_rfl) (by kernel_rfl) (by kernel_rfl) (fun _ _ _ h => h) (Or.inl ⟨by rfl, ?_⟩) (by assumption) ?_
  rotate_left
  · intro w hSw
    try dsimp only at hSw
    go_simp
    all_goals with_reducible rfl
  simp only [Act.put, List.getElem_toArray, List.getElem_cons_zero, List.getElem_cons_succ, List.setIfInBounds_toArray, List.set_cons_zero, List.set_cons_succ]
  refine wpAnyH_take (i := 6) (v := ?_) rfl (by kernel_rfl) (by kernel_rfl) (by kernel_rfl) (fun _ _ _ h => h) (Or.inl ⟨by rfl, ?_⟩) (by assumption) ?_
  rotate_left
  · intro w hSw
    try dsimp only at hSw
    go_simp
    all_goals with_reducible rfl
  simp only [Act.put, List.getElem_toArray, List.getElem_cons_zero, List.getElem_cons_succ, List.setIfInBounds_toArray, List.set_cons_zero, List.set_cons_succ]
  refine wpAnyH_take (i := 7) (v := ?_) rfl (by kernel_rfl) (by kernel_rfl) (by kernel_rfl) (fun _ _ _ h => h) (Or.inl ⟨by rfl, ?_⟩) (by assumption) ?_
  rotate_left
  · intro w hSw
    try dsimp only at hSw
    go_simp
    all_goals with_reducible rfl
  simp only [Act.put, List.getElem_toArray, List.getElem_cons_zero, List.getElem_cons_succ, List.setIfInBounds_toArray, List.set_cons_zero, List.set_cons_succ]
  refine wpAnyH_take (i := 8) (v := ?_) rfl (by kernel_rfl) (by kernel_rfl) (by kernel_rfl) (fun _ _ _ h => h) (Or.inl ⟨by rfl, ?_⟩) (by assumption) ?_
  rotate_left
  · intro w hSw
    try dsimp only at hSw
    go_simp
    all_goals with_reducible rfl
  simp only [Act.put, List.getElem_toArray, List.getElem_cons_zero, List.getElem_cons_succ, List.setIfInBounds_toArray, List.set_cons_zero, List.set_cons_succ]
  refine wpAnyH_take (i := 9) (v := ?_) rfl (by kernel_rfl) (by kernel_rfl) (by kernel_rfl) (fun _ _ _ h => h) (Or.inl ⟨by rfl, ?_⟩) (by assumption) ?_
  rotate_left
  · intro w hSw
    try dsimp only at hSw
    go_simp
    all_goals with_reducible rfl
  simp only [Act.put, List.getElem_toArray, List.getElem_cons_zero, List.getElem_cons_succ, List.setIfInBounds_toArray, List.set_cons_zero, List.set_cons_succ]
  refine wpAnyH_take (i := 10) (v := ?_) rfl (by kernel_rfl) (by kernel_rfl) (by kernel_rfl) (fun _ _ _ h => h) (Or.inl ⟨by rfl, ?_⟩) (by assumption) ?_
  rotate_left
  · intro w hSw
    try dsimp only at hSw
    go_simp
    all_goals with_reducible rfl
  simp only [Act.put, List.getElem_toArray, List.getElem_cons_zero, List.getElem_cons_succ, List.setIfInBounds_toArray, List.set_cons_zero, List.set_cons_succ]
  refine wpAnyH_take (i := 12) (v := ?_) rfl (by kernel_rfl) (by kernel_rfl) (by kernel_rfl) (fun _ _ _ h => h) (Or.inl ⟨by rfl, ?_⟩) (by assumption) ?_
  rotate_left
  · intro w hSw
    try dsimp only at hSw
    go_simp
    all_goals with_reducible rfl
  simp only [Act.put, List.getElem_toArray, List.getElem_cons_zero, List.getElem_cons_succ, List.setIfInBounds_toArray, List.set_cons_zero, List.set_cons_succ]
  refine wpAnyH_take (i := 13) (v := ?_) rfl (by kernel_rfl) (by kernel_rfl) (by kernel_rfl) (fun _ _ _ h => h) (Or.inl ⟨by rfl, ?_⟩) (by assumption) ?_
  rotate_left
  · intro w hSw
    try dsimp only at hSw
    go_simp
    all_goals with_reducible rfl
  simp only [Act.put, List.getElem_toArray, List.getElem_cons_zero, List.getElem_cons_succ, List.setIfInBounds_toArray, List.set_cons_zero, List.set_cons_succ]
  refine wpAnyH_take (i := 14) (v := ?_) rfl (by kernel_rfl) (by kernel_rfl) (by kernel_rfl) (fun _ _ _ h => h) (Or.inl ⟨by rfl, ?_⟩) (by assumption) ?_
  rotate_left
  · intro w hSw
    try dsimp only at hSw
    go_simp
    all_goals with_reducible rfl
  simp only [Act.put, List.getElem_toArray, List.getElem_cons_zero, List.getElem_cons_succ, List.setIfInBounds_toArray, List.set_cons_zero, List.set_cons_succ]
  refine wpAnyH_take (i := 15) (v := ?_) rfl (by kernel_rfl) (by kernel_rfl) (by kernel_rfl) (fun _ _ _ h => h) (Or.inl ⟨by rfl, ?_⟩) (by assumption) ?_
  rotate_left
  · intro w hSw
    try dsimp only at hSw
    go_simp
    all_goals with_reducible rfl
  simp only [Act.put, List.getElem_toArray, List.getElem_cons_zero, List.getElem_cons_succ, List.setIfInBounds_toArray, List.set_cons_zero, List.set_cons_succ]
  refine wpAnyH_take (i := 16) (v := ?_) rfl (by kernel_rfl) (by kernel_rfl) (by kernel_rfl) (fun _ _ _ h => h) (Or.inl ⟨by rfl, ?_⟩) (by assumption) ?_
  rotate_left
  · intro w hSw
    try dsimp only at hSw
    go_simp
    all_goals with_reducible rfl
  simp only [Act.put, List.getElem_toArray, List.getElem_cons_zero, List.getElem_cons_succ, List.setIfInBounds_toArray, List.set_cons_zero, List.set_cons_succ]
  refine wpAnyH_take (i := 17) (v := ?_) rfl (by kernel_rfl) (by kernel_rfl) (by kernel_rfl) (fun _ _ _ h => h) (Or.inl ⟨by rfl, ?_⟩) (by assumption) ?_
  rotate_left
  · intro w hSw
    try dsimp only at hSw
    go_simp
    all_goals with_reducible rfl
  simp only [Act.put, List.getElem_toArray, List.getElem_cons_zero, List.getElem_cons_succ, List.setIfInBounds_toArray, List.set_cons_zero, List.set_cons_succ]
  refine wpAnyH_take (i := 18) (v := ?_) rfl (by kernel_rfl) (by kernel_rfl) (by kernel_rfl) (fun _ _ _ h => h) (Or.inl ⟨by rfl, ?_⟩) (by assumption) ?_
  rotate_left
  · intro w hSw
    try dsimp only at hSw
    go_simp
    all_goals with_reducible rfl
  simp only [Act.put, List.getElem_toArray, List.getElem_cons_zero, List.getElem_cons_succ, List.setIfInBounds_toArray, List.set_cons_zero, List.set_cons_succ]
  refine wpAnyH_ready (rs := [11, 19]) (by kernel_rfl) (by simp) ?_
  refine (AllReadyH.cons rfl (fun K9 hK9 => ?_) (AllReadyH.cons rfl (fun K9 hK9 => ?_) AllReadyH.nil))
  · go_simp
    refine hK9.out _ _ ED.out (fun hHeld2 => ?_)
    clear hK9 K9
    refine wpAnyH_ready (rs := [19]) (by kernel_rfl) (by simp) ?_
    refine (AllReadyH.cons rfl (fun K9 hK9 => ?_) AllReadyH.nil)
    go_simp
    refine (C18.out _ ((Kept.refl _ _).drew)).mono ?_
    rintro e w5 ⟨rfl, hw5⟩
    obtain rfl := hw5.symm
    go_simp
    refine hK9.out _ _ ED.out (fun hHeld2 => ?_)
    clear hK9 K9
    refine wpAnyH_ready (rs := [20]) (by kernel_rfl) (by simp) ?_
    refine (AllReadyH.cons rfl (fun K9 hK9 => ?_) AllReadyH.nil)
    go_simp
    refine hK9.out _ _ E3.out (fun hHeld2 => ?_)
    clear hK9 K9
    refine wpAnyH_ready (rs := [21]) (by kernel_rfl) (by simp) ?_
    refine (AllReadyH.cons rfl (fun K9 hK9 => ?_) AllReadyH.nil)
    refine step_app rfl _ _ 53 rfl _ _ _ _ rfl rfl hrun ?_
    simp only [Act.put, List.getElem_toArray, List.getElem_cons_zero, List.getElem_cons_succ, List.setIfInBounds_toArray, List.set_cons_zero, List.set_cons_succ]
    refine hK9.out _ _ E7.out (fun hHeld2 => ?_)
    clear hK9 K9
    refine wpAnyH_take (i := 22) (v := ?_) rfl (by kernel_rfl) (by kernel_rfl) (by kernel_rfl) (fun _ _ _ h => h) (Or.inl ⟨by rfl, ?_⟩) (by assumption) ?_
    rotate_left
    · intro w hSw
      try dsimp only at hSw
      go_simp
      all_goals with_reducible rfl
    simp only [Act.put, List.getElem_toArray, List.getElem_cons_zero, List.getElem_cons_succ, List.setIfInBounds_toArray, List.set_cons_zero, List.set_cons_succ]
    refine wpAnyH_ready (rs := [23]) (by kernel_rfl) (by simp) ?_
    refine (AllReadyH.cons rfl (fun K9 hK9 => ?_) AllReadyH.nil)
    go_simp
    refine hK9.out _ _ ES.out (fun hHeld2 => ?_)
    clear hK9 K9
    refine wpAnyH_done (by kernel_rfl) ?_ _
    generalize w7.setCell ⟨G2, k, none⟩ (.slice aoN (L + 1) cpN) = w8 at *
    obtain ⟨s8, A8, W8, P8⟩ := FN.out
    have HA8 := Hid.mk A8
    have HW8 := Hid.mk W8
    have HP8 := Hid.mk P8
    obtain ⟨q0, q1, q2, q3, q4, q5⟩ := FC.out
    have HQ4 := Hid.mk q4
    obtain ⟨⟨-, r1, -⟩, -⟩ := three q5
    have C9 := Hid.mk (fun n => mark_any P m g t (w8.drewN n) (HQ4.out.drewN n))
    clear FN FC A8 W8 P8 q4 q5 c0 c1 c2 y0 y1 y2 y3 z7 hHeld hHeld2 hrun hw3
    go_wp2_with (fail)
    go_quiet ((go_at_call 18; exact Calls.quiet_of_same (C9.out _)))
    go_wp2
    go_ret
    exact ⟨rfl, s8, HA8.out.drewN _, HW8.out, HP8.out⟩
  · go_simp
    refine (C18.out _ ((Kept.refl _ _).drew)).mono ?_
    rintro e w5 ⟨rfl, hw5⟩
    obtain rfl := hw5.symm
    go_simp
    refine hK9.out _ _ ED.out (fun hHeld2 => ?_)
    clear hK9 K9
    refine wpAnyH_ready (rs := [11, 20]) (by kernel_rfl) (by simp) ?_
    refine (AllReadyH.cons rfl (fun K9 hK9 => ?_) (AllReadyH.cons rfl (fun K9 hK9 => ?_) AllReadyH.nil))
    · go_simp
      refine hK9.out _ _ ED.out (fun hHeld2 => ?_)
      clear hK9 K9
      refine wpAnyH_ready (rs := [20]) (by kernel_rfl) (by simp) ?_
      refine (AllReadyH.cons rfl (fun K9 hK9 => ?_) AllReadyH.nil)
      go_simp
      refine hK9.out _ _ E3.out (fun hHeld2 => ?_)
      clear hK9 K9
      refine wpAnyH_ready (rs := [21]) (by kernel_rfl) (by simp) ?_
      refine (AllReadyH.cons rfl (fun K9 hK9 => ?_) AllReadyH.nil)
      refine step_app rfl _ _ 53 rfl _ _ _ _ rfl rfl hrun ?_
      simp only [Act.put, List.getElem_toArray, List.getElem_cons_zero, List.getElem_cons_succ, List.setIfInBounds_toArray, List.set_cons_zero, List.set_cons_succ]
      refine hK9.out _ _ E7.out (fun hHeld2 => ?_)
      clear hK9 K9
      refine wpAnyH_take (i := 22) (v := ?_) rfl (by kernel_rfl) (by kernel_rfl) (by kernel_rfl) (fun _ _ _ h => h) (Or.inl ⟨by rfl, ?_⟩) (by assumption) ?_
      rotate_left
      · intro w hSw
        try dsimp only at hSw
        go_simp
        all_goals with_reducible rfl
      simp only [Act.put, List.getElem_toArray, List.getElem_cons_zero, List.getElem_cons_succ, List.setIfInBounds_toArray, List.set_cons_zero, List.set_cons_succ]
      refine wpAnyH_ready (rs := [23]) (by kernel_rfl) (by simp) ?_
      refine (AllReadyH.cons rfl (fun K9 hK9 => ?_) AllReadyH.nil)
      go_simp
      refine hK9.out _ _ ES.out (fun hHeld2 => ?_)
      clear hK9 K9
      refine wpAnyH_done (by kernel_rfl) ?_ _
      generalize w7.setCell ⟨G2, k, none⟩ (.slice aoN (L + 1) cpN) = w8 at *
      obtain ⟨s8, A8, W8, P8⟩ := FN.out
      have HA8 := Hid.mk A8
      have HW8 := Hid.mk W8
      have HP8 := Hid.mk P8
      obtain ⟨q0, q1, q2, q3, q4, q5⟩ := FC.out
      have HQ4 := Hid.mk q4
      obtain ⟨⟨-, r1, -⟩, -⟩ := three q5
      have C9 := Hid.mk (fun n => mark_any P m g t (w8.drewN n) (HQ4.out.drewN n))
      clear FN FC A8 W8 P8 q4 q5 c0 c1 c2 y0 y1 y2 y3 z7 hHeld hHeld2 hrun hw3
      go_wp2_with (fail)
      go_quiet ((go_at_call 18; exact Calls.quiet_of_same (C9.out _)))
      go_wp2
      go_ret
      exact ⟨rfl, s8, HA8.out.drewN _, HW8.out, HP8.out⟩
    · go_simp
      refine hK9.out _ _ E3.out (fun hHeld2 => ?_)
      clear hK9 K9
      refine wpAnyH_ready (rs := [11]) (by kernel_rfl) (by simp) ?_
      refine (AllReadyH.cons rfl (fun K9 hK9 => ?_) AllReadyH.nil)
      go_simp
      refine hK9.out _ _ E3.out (fun hHeld2 => ?_)
      clear hK9 K9
      refine wpAnyH_ready (rs := [21]) (by kernel_rfl) (by simp) ?_
      refine (AllReadyH.cons rfl (fun K9 hK9 => ?_) AllReadyH.nil)
      refine step_app rfl _ _ 53 rfl _ _ _ _ rfl rfl hrun ?_
      simp only [Act.put, List.getElem_toArray, List.getElem_cons_zero, List.getElem_cons_succ, List.setIfInBounds_toArray, List.set_cons_zero, List.set_cons_succ]
      refine hK9.out _ _ E7.out (fun hHeld2 => ?_)
      clear hK9 K9
      refine wpAnyH_take (i := 22) (v := ?_) rfl (by kernel_rfl) (by kernel_rfl) (by kernel_rfl) (fun _ _ _ h => h) (Or.inl ⟨by rfl, ?_⟩) (by assumption) ?_
      rotate_left
      · intro w hSw
        try dsimp only at hSw
        go_simp
        all_goals with_reducible rfl
      simp only [Act.put, List.getElem_toArray, List.getElem_cons_zero, List.getElem_cons_succ, List.setIfInBounds_toArray, List.set_cons_zero, List.set_cons_succ]
      refine wpAnyH_ready (rs := [23]) (by kernel_rfl) (by simp) ?_
      refine (AllReadyH.cons rfl (fun K9 hK9 => ?_) AllReadyH.nil)
      go_simp
      refine hK9.out _ _ ES.out (fun hHeld2 => ?_)
      clear hK9 K9
      refine wpAnyH_done (by kernel_rfl) ?_ _
      generalize w7.setCell ⟨G2, k, none⟩ (.slice aoN (L + 1) cpN) = w8 at *
      obtain ⟨s8, A8, W8, P8⟩ := FN.out
      have HA8 := Hid.mk A8
      have HW8 := Hid.mk W8
      have HP8 := Hid.mk P8
      obtain ⟨q0, q1, q2, q3, q4, q5⟩ := FC.out
      have HQ4 := Hid.mk q4
      obtain ⟨⟨-, r1, -⟩, -⟩ := three q5
      have C9 := Hid.mk (fun n => mark_any P m g t (w8.drewN n) (HQ4.out.drewN n))
      clear FN FC A8 W8 P8 q4 q5 c0 c1 c2 y0 y1 y2 y3 z7 hHeld hHeld2 hrun hw3
      go_wp2_with (fail)
      go_quiet ((go_at_call 18; exact Calls.quiet_of_same (C9.out _)))
      go_wp2
      go_ret
      exact ⟨rfl, s8, HA8.out.drewN _, HW8.out, HP8.out⟩

end Go.Proofs.Ytplpjpijmnglfaa
