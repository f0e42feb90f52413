import Derived.Test.YtplpjpijmnglfaaP5
namespace Go.Proofs.Ytplpjpijmnglfaa
open Go.RowKit

theorem row_ty {w : World} {e G n cp : Nat} {xs : List Value} (h : w.ownsRow 0 e 1 (.slice (some ⟨G, 0, none⟩) n cp) n xs) : ∃ cur, w.heap[G]? = some (.cells cur e (0, 0)) := by
  rcases h.2 with ⟨h1, _⟩ | ⟨g', cap', cur, h1, _, hg, _⟩
  · simp at h1
  · simp at h1
    obtain ⟨rfl, rfl⟩ := h1
    exact ⟨cur, hg⟩
theorem ne_ty {w : World} {x y : Nat} {cs ds : Array Value} {t u : TypeId} {f f' : Nat × Nat} (h1 : w.heap[x]? = some (.cells cs t f)) (h2 : w.heap[y]? = some (.cells ds u f')) (h : t ≠ u) : x ≠ y := by
  rintro rfl
  rw [h1] at h2
  simp at h2
  exact h h2.2.1
theorem not_pq {w : World} {x P Q : Nat} {cs : Array Value} {t : TypeId} {f : Nat × Nat} {m g p m' g' p' : Int} (h : w.heap[x]? = some (.cells cs t f)) (h1 : Ar 62 w P m g p) (h2 : Ar 60 w Q m' g' p') (e1 : t ≠ 62) (e2 : t ≠ 60) : x ∉ [P, Q] := by
  have a := ne_ty h h1 e1
  have b := ne_ty h h2 e2
  simp
  exact ⟨a, b⟩
theorem gm_rl {m g t x : Int} (G : Gm m g t) : Gm m (rlG g x) t := by
  obtain ⟨a, b, c, d⟩ := G
  unfold rlG
  split <;> exact ⟨by omega, by omega, c, d⟩

set_option maxHeartbeats 8000000 in
set_option maxRecDepth 100000 in
theorem step2 (W w : World) (A : Nat) (on n : Int) (s : Wo) (b : Nat) (h : At W w A s) (hw : Wk s b) (hp : 0 < s.c 0) (hb : b ≤ 5864062014700) (on0 : -9223372036854775808 ≤ on) (on1 : on ≤ 9223372036854775807) :
    Calls Try.prog 7 #[.pointer (some ⟨A, 0, none⟩), .agg #[.int .i64 2, .int .i64 on, .int .i64 n]] w fun e w' => SPost W A (b + 1) e w' := by
  have HH := Hid.mk h
  have HW := Hid.mk hw
  have hc0 := hw.le0
  have hc : (0 : Int) < (s.c 0 : Int) := by omega
  obtain ⟨k, hpk, hk⟩ := nat_of (pick_lo on (s.c 0) hc) (pick_hi on (s.c 0) hc)
  have CP := Hid.mk (fun w => pick_any on (s.c 0) w on0 on1 hc)
  rw [hpk] at CP
  clear h hw hpk on0 on1
  go_enter Try.func7, Try.ntmps7
  go_wp2_with (fail)
  obtain ⟨w1, hw1, k1, hb1⟩ := three_new w (.int .i64 2) (.int .i64 on) (.int .i64 n) 35
  rw [hw1]
  clear hw1
  obtain ⟨B, hB⟩ : ∃ B, B = w.heap.size := ⟨_, rfl⟩
  rw [← hB] at hb1 ⊢
  clear hB
  have H1 := Hid.mk (HH.out.keep k1)
  have HB := Hid.mk hb1
  have HK1 := Hid.mk k1
  obtain ⟨⟨d0, d1, d2⟩, -⟩ := three hb1
  have c0 := H1.out.cells.1 0 (by omega)
  obtain ⟨G0, p0, e0, y0, -⟩ := H1.out.val 0 k (by omega) (by rw [HW.out.r]; exact hk)
  rw [HW.out.r 0] at e0
  rw [e0] at c0
  have HE0 := Hid.mk e0
  clear k1 hb1 e0 hc
  go_wp2_with (fail)
  go_quiet ((go_at_call 8; exact Calls.quiet_of_same (CP.out _)))
  obtain ⟨w2, hw2, k2⟩ : ∃ w2, w1.drewN nq = w2 ∧ Kept [] w1 w2 := ⟨_, rfl, (Kept.refl _ _).drewN _⟩
  rw [hw2]
  have H2 := Hid.mk (H1.out.keep k2)
  have HB2 := Hid.mk (k2.heap HB.out (by simp))
  have HK2 := Hid.mk k2
  clear hw2 c0 y0 d0 d1 d2 k2
  obtain ⟨⟨d0, d1, d2⟩, -⟩ := three HB2.out
  go_wp2_with (fail)
  refine (gives2 W w2 A k 2 on n s b (Hid.mk rfl) H2.out HW.out hk hb).mono ?_
  rintro e w3 ⟨rfl, hs⟩
  go_wp2
  go_ret
  exact ⟨rfl, hs⟩

set_option maxHeartbeats 8000000 in
set_option maxRecDepth 100000 in
theorem step3 (W w : World) (A : Nat) (on n : Int) (s : Wo) (b : Nat) (h : At W w A s) (hw : Wk s b) (hp : 0 < s.c 0) (hb : b ≤ 5864062014700) (on0 : -9223372036854775808 ≤ on) (on1 : on ≤ 9223372036854775807) :
    Calls Try.prog 7 #[.pointer (some ⟨A, 0, none⟩), .agg #[.int .i64 3, .int .i64 on, .int .i64 n]] w fun e w' => SPost W A (b + 1) e w' := by
  have HH := Hid.mk h
  have HW := Hid.mk hw
  have hc0 := hw.le0
  have hc : (0 : Int) < (s.c 0 : Int) := by omega
  obtain ⟨k, hpk, hk⟩ := nat_of (pick_lo on (s.c 0) hc) (pick_hi on (s.c 0) hc)
  have CP := Hid.mk (fun w => pick_any on (s.c 0) w on0 on1 hc)
  rw [hpk] at CP
  clear h hw hpk on0 on1
  go_enter Try.func7, Try.ntmps7
  go_wp2_with (fail)
  obtain ⟨w1, hw1, k1, hb1⟩ := three_new w (.int .i64 3) (.int .i64 on) (.int .i64 n) 35
  rw [hw1]
  clear hw1
  obtain ⟨B, hB⟩ : ∃ B, B = w.heap.size := ⟨_, rfl⟩
  rw [← hB] at hb1 ⊢
  clear hB
  have H1 := Hid.mk (HH.out.keep k1)
  have HB := Hid.mk hb1
  have HK1 := Hid.mk k1
  obtain ⟨⟨d0, d1, d2⟩, -⟩ := three hb1
  have c0 := H1.out.cells.1 0 (by omega)
  obtain ⟨G0, p0, e0, y0, -⟩ := H1.out.val 0 k (by omega) (by rw [HW.out.r]; exact hk)
  rw [HW.out.r 0] at e0
  rw [e0] at c0
  have HE0 := Hid.mk e0
  clear k1 hb1 e0 hc
  go_wp2_with (fail)
  go_quiet ((go_at_call 8; exact Calls.quiet_of_same (CP.out _)))
  obtain ⟨w2, hw2, k2⟩ : ∃ w2, w1.drewN nq = w2 ∧ Kept [] w1 w2 := ⟨_, rfl, (Kept.refl _ _).drewN _⟩
  rw [hw2]
  have H2 := Hid.mk (H1.out.keep k2)
  have HB2 := Hid.mk (k2.heap HB.out (by simp))
  have HK2 := Hid.mk k2
  clear hw2 c0 y0 d0 d1 d2 k2
  obtain ⟨⟨d0, d1, d2⟩, -⟩ := three HB2.out
  go_wp2_with (fail)
  refine (gives3 W w2 A k 3 on n s b (Hid.mk (by decide)) H2.out HW.out hk hb).mono ?_
  rintro e w3 ⟨rfl, hs⟩
  go_wp2
  go_ret
  exact ⟨rfl, hs⟩

set_option maxHeartbeats 8000000 in
set_option maxRecDepth 100000 in
theorem stepO (W w : World) (A : Nat) (kd on n : Int) (s : Wo) (b : Nat) (h : At W w A s) (hw : Wk s b) (hp : 0 < s.c 0) (_hb : b ≤ 5864062014700) (on0 : -9223372036854775808 ≤ on) (on1 : on ≤ 9223372036854775807) (hkd : Hid (kd ≠ 1 ∧ kd ≠ 2 ∧ kd ≠ 3 ∧ kd ≠ 4 ∧ kd ≠ 5 ∧ kd ≠ 6)) :
    Calls Try.prog 7 #[.pointer (some ⟨A, 0, none⟩), .agg #[.int .i64 kd, .int .i64 on, .int .i64 n]] w fun e w' => SPost W A (b + 1) e w' := by
  have HH := Hid.mk h
  have HW := Hid.mk hw
  have hc0 := hw.le0
  have hc : (0 : Int) < (s.c 0 : Int) := by omega
  obtain ⟨k, hpk, hk⟩ := nat_of (pick_lo on (s.c 0) hc) (pick_hi on (s.c 0) hc)
  have CP := Hid.mk (fun w => pick_any on (s.c 0) w on0 on1 hc)
  rw [hpk] at CP
  clear h hw hpk on0 on1
  have n1 : (kd == 1) = false := by simpa using hkd.out.1
  have n2 : (kd == 2) = false := by simpa using hkd.out.2.1
  have n3 : (kd == 3) = false := by simpa using hkd.out.2.2.1
  have n4 : (kd == 4) = false := by simpa using hkd.out.2.2.2.1
  have n5 : (kd == 5) = false := by simpa using hkd.out.2.2.2.2.1
  have n6 : (kd == 6) = false := by simpa using hkd.out.2.2.2.2.2
  go_enter Try.func7, Try.ntmps7
  go_wp2_with (fail)
  obtain ⟨w1, hw1, k1, hb1⟩ := three_new w (.int .i64 kd) (.int .i64 on) (.int .i64 n) 35
  rw [hw1]
  clear hw1
  obtain ⟨B, hB⟩ : ∃ B, B = w.heap.size := ⟨_, rfl⟩
  rw [← hB] at hb1 ⊢
  clear hB
  have H1 := Hid.mk (HH.out.keep k1)
  have HB := Hid.mk hb1
  have HK1 := Hid.mk k1
  obtain ⟨⟨d0, d1, d2⟩, -⟩ := three hb1
  have c0 := H1.out.cells.1 0 (by omega)
  obtain ⟨G0, p0, e0, y0, -⟩ := H1.out.val 0 k (by omega) (by rw [HW.out.r]; exact hk)
  rw [HW.out.r 0] at e0
  rw [e0] at c0
  have HE0 := Hid.mk e0
  clear k1 hb1 e0 hc
  go_wp2_with (fail)
  go_quiet ((go_at_call 8; exact Calls.quiet_of_same (CP.out _)))
  obtain ⟨w2, hw2, k2⟩ : ∃ w2, w1.drewN nq = w2 ∧ Kept [] w1 w2 := ⟨_, rfl, (Kept.refl _ _).drewN _⟩
  rw [hw2]
  have H2 := Hid.mk (H1.out.keep k2)
  have HB2 := Hid.mk (k2.heap HB.out (by simp))
  have HK2 := Hid.mk k2
  clear hw2 c0 y0 d0 d1 d2 k2
  obtain ⟨⟨d0, d1, d2⟩, -⟩ := three HB2.out
  go_wp2
  go_ret
  exact ⟨rfl, s, H2.out, HW.out.mono (Nat.le_succ _), hp⟩

set_option maxHeartbeats 8000000 in
set_option maxRecDepth 100000 in
theorem step6 (W w : World) (A : Nat) (on n : Int) (s : Wo) (b : Nat) (h : At W w A s) (hw : Wk s b) (hp : 0 < s.c 0) (_hb : b ≤ 5864062014700) (on0 : -9223372036854775808 ≤ on) (on1 : on ≤ 9223372036854775807) :
    Calls Try.prog 7 #[.pointer (some ⟨A, 0, none⟩), .agg #[.int .i64 6, .int .i64 on, .int .i64 n]] w fun e w' => SPost W A (b + 1) e w' := by
  have HH := Hid.mk h
  have HW := Hid.mk hw
  have hc0 := hw.le0
  have hc : (0 : Int) < (s.c 0 : Int) := by omega
  obtain ⟨k, hpk, hk⟩ := nat_of (pick_lo on (s.c 0) hc) (pick_hi on (s.c 0) hc)
  have CP := Hid.mk (fun w => pick_any on (s.c 0) w on0 on1 hc)
  rw [hpk] at CP
  clear h hw hpk on0 on1
  go_enter Try.func7, Try.ntmps7
  go_wp2_with (fail)
  obtain ⟨w1, hw1, k1, hb1⟩ := three_new w (.int .i64 6) (.int .i64 on) (.int .i64 n) 35
  rw [hw1]
  clear hw1
  obtain ⟨B, hB⟩ : ∃ B, B = w.heap.size := ⟨_, rfl⟩
  rw [← hB] at hb1 ⊢
  clear hB
  have H1 := Hid.mk (HH.out.keep k1)
  have HB := Hid.mk hb1
  have HK1 := Hid.mk k1
  obtain ⟨⟨d0, d1, d2⟩, -⟩ := three hb1
  have c0 := H1.out.cells.1 0 (by omega)
  obtain ⟨G0, p0, e0, y0, -⟩ := H1.out.val 0 k (by omega) (by rw [HW.out.r]; exact hk)
  rw [HW.out.r 0] at e0
  rw [e0] at c0
  have HE0 := Hid.mk e0
  clear k1 hb1 e0 hc
  go_wp2_with (fail)
  go_quiet ((go_at_call 8; exact Calls.quiet_of_same (CP.out _)))
  obtain ⟨w2, hw2, k2⟩ : ∃ w2, w1.drewN nq = w2 ∧ Kept [] w1 w2 := ⟨_, rfl, (Kept.refl _ _).drewN _⟩
  rw [hw2]
  have H2 := Hid.mk (H1.out.keep k2)
  have HB2 := Hid.mk (k2.heap HB.out (by simp))
  have HK2 := Hid.mk k2
  clear hw2 c0 y0 d0 d1 d2 k2
  obtain ⟨⟨d0, d1, d2⟩, -⟩ := three HB2.out
  obtain ⟨P, Q, m, g, t, l, hG, v0, x0, v1, x1, x2, hl, hlb, hli⟩ := HW.out.ar k hk
  have HV := Hid.mk (And.intro v0 (And.intro x0 (And.intro v1 (And.intro x1 (And.intro x2 (And.intro hl (And.intro hlb (And.intro hli hG))))))))
  have c0 := H2.out.cells.1 0 (by omega)
  rw [HE0.out] at c0
  obtain ⟨G0', p0', e0', y0, -⟩ := H2.out.val 0 k (by omega) (by rw [HW.out.r]; exact hk)
  obtain rfl : G0' = G0 := by have := e0'.symm.trans HE0.out; simp at this; exact this.1
  rw [v0] at y0
  have c1 := H2.out.cells.1 1 (by omega)
  obtain ⟨G1, p1, e1, y1, -⟩ := H2.out.val 1 k (by omega) (by rw [HW.out.r, HW.out.c1]; exact hk)
  rw [HW.out.r, HW.out.c1] at e1
  rw [e1] at c1
  rw [v1] at y1
  have HE1 := Hid.mk e1
  have HA : Hid (Ar 62 w2 P m g t) := Hid.mk (by have := H2.out.thing 0 k (by omega) hk; rw [x0] at this; exact this)
  have HQ : Hid (Ar 60 w2 Q m g t) := Hid.mk (by have := H2.out.thing 1 k (by omega) (by rw [HW.out.c1]; exact hk); rw [x1] at this; exact this)
  have ix : (k : Int) < (s.c 0 : Int) := by omega
  clear v0 x0 v1 x1 x2 hl hlb hli hG e0' e1
  have HNE : Hid (A ∉ [P, Q] ∧ G0' ∉ [P, Q] ∧ G1 ∉ [P, Q] ∧ B ∉ [P, Q]) := Hid.mk (by
    have tA := H2.out.box
    have r0 := H2.out.row 0 (by omega)
    rw [HE0.out, HW.out.r] at r0
    have r1 := H2.out.row 1 (by omega)
    rw [HE1.out, HW.out.r, HW.out.c1] at r1
    obtain ⟨cu0, t0⟩ := row_ty r0
    obtain ⟨cu1, t1⟩ := row_ty r1
    exact ⟨not_pq tA HA.out HQ.out (by decide) (by decide), not_pq t0 HA.out HQ.out (by decide) (by decide), not_pq t1 HA.out HQ.out (by decide) (by decide), not_pq HB2.out HA.out HQ.out (by decide) (by decide)⟩)
  go_upto_region 23 with (fail)
  have HE : Hid (∀ u, Kept [P, Q] w2 u → u.cell? ⟨A, 0, none⟩ = some (.slice (some ⟨G0', 0, none⟩) (s.c 0) p0) ∧ u.cell? ⟨A, 1, none⟩ = some (.slice (some ⟨G1, 0, none⟩) (s.c 0) p1) ∧ u.cell? ⟨G0', k, none⟩ = some (.pointer (some ⟨P, 0, none⟩)) ∧ u.cell? ⟨G1, k, none⟩ = some (.pointer (some ⟨Q, 0, none⟩)) ∧ u.cell? ⟨B, 2, none⟩ = some (.int .i64 n)) :=
    Hid.mk (fun u hu => ⟨cell_keep hu c0 HNE.out.1, cell_keep hu c1 HNE.out.1, cell_keep hu y0 HNE.out.2.1, cell_keep hu y1 HNE.out.2.2.1, cell_keep hu d2 HNE.out.2.2.2⟩)
  have HPQ : Hid (Q ∉ [P]) := Hid.mk (by
    have hq : Q ≠ P := ne_ty HQ.out HA.out (by decide)
    simpa using hq)
  have z := HE.out w2.drew ((Kept.refl _ _).drew)
  obtain ⟨z0, z1, z2, z3, z4⟩ := z
  go_region_held_law (fun u => u.cell? ⟨A, 0, none⟩ = some (.slice (some ⟨G0', 0, none⟩) (s.c 0) p0) ∧ u.cell? ⟨A, 1, none⟩ = some (.slice (some ⟨G1, 0, none⟩) (s.c 0) p1) ∧ u.cell? ⟨G0', k, none⟩ = some (.pointer (some ⟨P, 0, none⟩)) ∧ u.cell? ⟨G1, k, none⟩ = some (.pointer (some ⟨Q, 0, none⟩)) ∧ u.cell? ⟨B, 2, none⟩ = some (.int .i64 n))
      (first | exact ⟨z0, z1, z2, z3, z4⟩ | exact HE.out _ K6.out | exact HE.out _ K5.out | assumption)
      (first
        | (go_at_call 13; refine (release_any P m g t n _ (HA.out.keep ((Kept.refl [] w2).drew) (by simp))).mono ?_; rintro e w5 ⟨rfl, A5, k5⟩; have HA5 := Hid.mk A5; have K5 : Hid (Kept [P, Q] w2 w5) := Hid.mk (k5.undrew.mono (by simp)); have KP5 := Hid.mk k5.undrew; clear A5 k5)
        | (go_at_call 22; refine (releaseD_any Q m g t n _ (HQ.out.keep KP5.out HPQ.out)).mono ?_; rintro e w6 ⟨rfl, A6, k6⟩; have HA6 := Hid.mk A6; have K6 : Hid (Kept [P, Q] w2 w6) := Hid.mk (K5.out.trans (k6.mono (by simp))); have KQ6 := Hid.mk k6; clear A6 k6))
  all_goals go_wp2
  all_goals go_ret
  all_goals
    refine ⟨ret_bool (by simp), _, ((H2.out.one 0 k (by omega) hk (arr 62 P m (rlG g n) t) KP5.out (by rw [HV.out.2.1]; exact fun x hx => .inl hx) HA5.out (by rw [HV.out.2.1]; exact fun x hx => .inl hx)).one 1 k (by omega) (by show k < s.c 1; rw [HW.out.c1]; exact hk) (arr 60 Q m (rlG g n) t) KQ6.out (by simp only [Wo.one, upd2]; rw [if_neg (by omega), HV.out.2.2.2.1]; exact fun x hx => .inl hx) HA6.out (by simp only [Wo.one, upd2]; rw [if_neg (by omega), HV.out.2.2.2.1]; exact fun x hx => .inl hx)), (HW.out.give P Q m _ _ (gm_rl HV.out.2.2.2.2.2.2.2.2) l HV.out.1 HV.out.2.2.1 HV.out.2.2.2.2.1 HV.out.2.2.2.2.2.1 HV.out.2.2.2.2.2.2.1 HV.out.2.2.2.2.2.2.2.1).mono (Nat.le_succ _), hp⟩

end Go.Proofs.Ytplpjpijmnglfaa
