import Derived.Test.YtplpjpijmnglfaaP3
namespace Go.Proofs.Ytplpjpijmnglfaa
open Go.RowKit

set_option maxHeartbeats 8000000 in
set_option maxRecDepth 100000 in
theorem gives2 (W w : World) (A k : Nat) (kd on n : Int) (s : Wo) (b : Nat) (hkd : Hid (kd = 2)) (h : At W w A s) (hw : Wk s b) (hk : k < s.c 0) (hb : b ≤ 5864062014700) :
    Calls Try.prog 21 #[.pointer (some ⟨A, 0, none⟩), .int .i64 (k : Int), .agg #[.int .i64 kd, .int .i64 on, .int .i64 n]] w fun e w' => SPost W A (b + 1) e w' := by
  obtain ⟨i0, hi, hz0, hz1, hz2⟩ := info_parts Try.info45
  have HH := Hid.mk h
  have HW := Hid.mk hw
  have hc0 := hw.le0
  have hc3 := hw.le3
  clear h hw
  go_enter Try.func21, Try.ntmps21
  go_wp2_with (fail)
  obtain ⟨w1, hw1, k1, hb1⟩ := three_new w (.int .i64 kd) (.int .i64 on) (.int .i64 n) 35
  rw [hw1]
  clear hw1
  refine (asked_any n w1).mono ?_
  rintro e w1' ⟨rfl, hw1'⟩
  obtain rfl := hw1'.symm
  generalize asN n = q
  have H1 := Hid.mk (HH.out.keep k1)
  obtain ⟨⟨d0, -, -⟩, -⟩ := three hb1
  obtain ⟨P, Q, m, g, t, l, hG, v0, x0, v1, x1, x2, hl, hlb, hli⟩ := HW.out.ar k hk
  have c0 := H1.out.cells.1 0 (by omega)
  obtain ⟨G0, p0, e0, y0, -⟩ := H1.out.val 0 k (by omega) (by rw [HW.out.r]; exact hk)
  rw [HW.out.r 0] at e0
  rw [e0] at c0
  rw [v0] at y0
  have HA : Hid (Ar 62 w1 P m g t) := Hid.mk (by have := H1.out.thing 0 k (by omega) hk; rw [x0] at this; exact this)
  have ix : (k : Int) < (s.c 0 : Int) := by omega
  have HV := Hid.mk (And.intro v0 (And.intro x0 (And.intro v1 (And.intro x1 (And.intro x2 (And.intro hl (And.intro hlb (And.intro hli hG))))))))
  have HE0 := Hid.mk e0
  have HB1 := Hid.mk hb1
  have HK1 := Hid.mk k1
  clear v0 x0 v1 x1 x2 hl hlb hli hG e0 hb1 k1
  obtain rfl := hkd.out
  go_wp2_with (fail)
  refine (bytes_any P m g t q w1 HA.out HV.out.2.2.2.2.2.2.2.2).mono ?_
  intro e w2 hp
  obtain ⟨ao, c, rfl, hn1, hn2, hcl, A2, Z2, hF2, k2⟩ := hp.uni HV.out.2.2.2.2.2.2.2.2 (by omega)
  clear hp
  have H2 := Hid.mk (H1.out.one 0 k (by omega) hk (arr 62 P m (gvG m g q 1) (gvT m g t q 1)) k2 (by rw [HV.out.2.1]; exact fun x hx => .inl hx) A2 (by rw [HV.out.2.1]; exact fun x hx => .inl hx))
  have HZ2 := Hid.mk Z2
  have HF2 := Hid.mk hF2
  have HN1 := Hid.mk hn1
  have HN2 := Hid.mk hn2
  have c1 : w2.cell? ⟨A, 1, none⟩ = some (s.S 1) := H2.out.cells.1 1 (by omega)
  obtain ⟨G1, p1, e1, y1, -⟩ := H2.out.val 1 k (by omega) (by show k < s.r 1; rw [HW.out.r 1, HW.out.c1]; exact hk)
  have e1' : s.S 1 = .slice (some ⟨G1, 0, none⟩) (s.r 1) p1 := e1
  have y1' : w2.cell? ⟨G1, k, none⟩ = some (s.V 1 k) := y1
  rw [e1', HW.out.r 1, HW.out.c1] at c1
  rw [HV.out.2.2.1] at y1'
  have HA2 : Hid (Ar 60 w2 Q m g t) := Hid.mk (by have := H2.out.thing 1 k (by omega) (by show k < s.c 1; rw [HW.out.c1]; exact hk); simp only [Wo.one, upd2] at this; rw [if_neg (by omega), HV.out.2.2.2.1] at this; exact this)
  have HK2 := Hid.mk k2
  clear A2 Z2 hF2 hn1 hn2 e1 e1' y1 k2 c0 y0 d0
  go_wp2_with (fail)
  refine (take1 Q m g t q w2 HA2.out HV.out.2.2.2.2.2.2.2.2).mono ?_
  rintro e w3 ⟨rfl, A3, k3⟩
  have H3 := Hid.mk (H2.out.one 1 k (by omega) (by show k < s.c 1; rw [HW.out.c1]; exact hk) (arr 60 Q m (gvG m g q 1) (gvT m g t q 1)) k3 (by simp only [Wo.one, upd2]; rw [if_neg (by omega), HV.out.2.2.2.1]; exact fun x hx => .inl hx) A3 (by simp only [Wo.one, upd2]; rw [if_neg (by omega), HV.out.2.2.2.1]; exact fun x hx => .inl hx))
  have HW3 : Hid (Wk ((s.one 0 k (arr 62 P m (gvG m g q 1) (gvT m g t q 1))).one 1 k (arr 60 Q m (gvG m g q 1) (gvT m g t q 1))) b) :=
    Hid.mk (HW.out.give P Q m _ _ (gm_gv HV.out.2.2.2.2.2.2.2.2 (by omega)) l HV.out.1 HV.out.2.2.1 HV.out.2.2.2.2.1 HV.out.2.2.2.2.2.1 HV.out.2.2.2.2.2.2.1 HV.out.2.2.2.2.2.2.2.1)
  have HK3 := Hid.mk k3
  clear A3 k3 c1 y1'
  obtain ⟨s3, hs3, e33, e3S⟩ : ∃ s3, s3 = (s.one 0 k (arr 62 P m (gvG m g q 1) (gvT m g t q 1))).one 1 k (arr 60 Q m (gvG m g q 1) (gvT m g t q 1)) ∧ s3.r 3 = s.r 3 ∧ s3.c 0 = s.c 0 := ⟨_, rfl, rfl, rfl⟩
  have HFA : Hid (∀ j, s3.D j → ∀ x ∈ ablk ao, x ∉ (s3.R A j).F) := Hid.mk (by
    intro j hj x hx hx2
    have hj' : s.D j := by rw [hs3] at hj; exact hj
    rw [hs3, Wo.one_F (s.one 0 k (arr 62 P m (gvG m g q 1) (gvT m g t q 1))) A 1 k _ (by omega) (by simp only [Wo.one, upd2]; rw [if_neg (by omega), HV.out.2.2.2.1]; rfl) j hj', Wo.one_F s A 0 k _ (by omega) (by rw [HV.out.2.1]; rfl) j hj'] at hx2
    have h1 := H1.out.lt j hj' x hx2
    have h2 := HF2.out x hx
    omega)
  have HFW : Hid (∀ x ∈ ablk ao, W.heap.size ≤ x) := Hid.mk (fun x hx => Nat.le_trans (H1.out.old).size (HF2.out x hx))
  rw [← hs3] at H3 HW3
  clear hs3
  have hQ3 : (zlf .u8 5 ao c (fun _ => 0)).P w3 := (zlf .u8 5 ao c (fun _ => 0)).keep HZ2.out HK3.out (fun x hx => by
    have h1 := HF2.out x hx
    have h2 := HA2.out.lt
    have h3 := ((H1.out.thing 1 k (by omega) (by rw [HW.out.c1]; exact hk)))
    rw [HV.out.2.2.2.1] at h3
    have h4 : Q < w1.heap.size := Ar.lt h3
    simp; omega)
  have HQ3 := Hid.mk hQ3
  clear hQ3
  have HF3 : Hid (∀ x ∈ ablk ao, w1.heap.size ≤ x) := HF2
  generalize gvE m g q 1 = E at *
  rw [← HW.out.r 3, ← e33] at hc3
  have HE3 : Hid (s3.c 0 = s.c 0) := Hid.mk e3S
  clear e33 e3S
  -- the row of lists
  have hkx : Kept [] w1 w1 := Kept.refl _ _
  by_cases hE : E = 0
  · have hqc := HN1.out hE
    subst hE
    subst hqc
    obtain ⟨b0, b1⟩ := H3.out.cells
    have b3 := b0 3 (by omega)
    have f3 := b1 3
    obtain ⟨ao3, cp3, eS3⟩ := H3.out.form 3 (by omega)
    rw [eS3] at b3
    have hrow := H3.out.row 3 (by omega)
    rw [eS3] at hrow
    have HRow := Hid.mk hrow
    have HES3 := Hid.mk eS3
    clear b0 b1 eS3 hrow
    go_wp2_with (at_builtin; go_loud (refine wpList_app1 w3 rfl _ _ 28 0 45 i0 (.slice none 0 0) 24 Try.underlying28 hi hz0 hz1 hz2 rfl rfl (.slice ao3 (s3.r 3) cp3) (s3.r 3) (vals (s3.V 3) (s3.r 3)) (by rfl) HRow.out (.slice ao c c) (by rfl) rfl (Nat.zero_le _) (by omega) (by omega) ?_); intro v' w4 ho4 hk4 hl4; obtain ⟨ao4, cp4, rfl⟩ := row_form ho4; rw [← HES3.out] at hk4 hl4; have hbx := H3.out.boxKept 3 (by omega) hk4; have z0 := box_cell hbx 3 (by omega); have z1 := box_frozen hbx 3; have HO4 := Hid.mk ho4; have HK4 := Hid.mk hk4; have HL4 := Hid.mk hl4; clear ho4 hk4 hl4 hbx)
    go_ret
    refine ⟨rfl, _, (H3.out.push2 3 (by omega) (zlf .u8 5 ao c (fun _ => 0)) HQ3.out HFW.out HFA.out).app 3 (by omega) (.slice ao c c) (.slice ao4 (s3.r 3 + 1) cp4) HK4.out HL4.out HO4.out, HW3.out.add3 ao c hcl _, by simp [Wo.push, Wo.app]; have := HE3.out; omega⟩
  · have hqc := HN2.out hE
    subst hqc
    have hE0 : (E == 0) = false := by simpa using hE
    have hE1 : (E != 0) = true := by simpa using hE
    clear hE
    obtain ⟨b0, b1⟩ := H3.out.cells
    have b3 := b0 3 (by omega)
    have f3 := b1 3
    obtain ⟨ao3, cp3, eS3⟩ := H3.out.form 3 (by omega)
    rw [eS3] at b3
    have hrow := H3.out.row 3 (by omega)
    rw [eS3] at hrow
    have HRow := Hid.mk hrow
    have HES3 := Hid.mk eS3
    clear b0 b1 eS3 hrow
    go_wp2_with (at_builtin; go_loud (refine wpList_app1 w3 rfl _ _ 28 0 45 i0 (.slice none 0 0) 24 Try.underlying28 hi hz0 hz1 hz2 rfl rfl (.slice ao3 (s3.r 3) cp3) (s3.r 3) (vals (s3.V 3) (s3.r 3)) (by rfl) HRow.out (.slice ao 0 0) (by rfl) rfl (Nat.zero_le _) (by omega) (by omega) ?_); intro v' w4 ho4 hk4 hl4; obtain ⟨ao4, cp4, rfl⟩ := row_form ho4; rw [← HES3.out] at hk4 hl4; have hbx := H3.out.boxKept 3 (by omega) hk4; have z0 := box_cell hbx 3 (by omega); have z1 := box_frozen hbx 3; have HO4 := Hid.mk ho4; have HK4 := Hid.mk hk4; have HL4 := Hid.mk hl4; clear ho4 hk4 hl4 hbx)
    go_ret
    refine ⟨rfl, _, (H3.out.push2 3 (by omega) (zlf .u8 5 ao 0 (fun _ => 0)) HQ3.out HFW.out HFA.out).app 3 (by omega) (.slice ao 0 0) (.slice ao4 (s3.r 3 + 1) cp4) HK4.out HL4.out HO4.out, HW3.out.add3 ao 0 (by omega) _, by simp [Wo.push, Wo.app]; have := HE3.out; omega⟩

set_option maxHeartbeats 8000000 in
set_option maxRecDepth 100000 in
theorem gives3 (W w : World) (A k : Nat) (kd on n : Int) (s : Wo) (b : Nat) (hkd : Hid (¬ kd = 2)) (h : At W w A s) (hw : Wk s b) (hk : k < s.c 0) (hb : b ≤ 5864062014700) :
    Calls Try.prog 21 #[.pointer (some ⟨A, 0, none⟩), .int .i64 (k : Int), .agg #[.int .i64 kd, .int .i64 on, .int .i64 n]] w fun e w' => SPost W A (b + 1) e w' := by
  obtain ⟨i0, hi, hz0, hz1, hz2⟩ := info_parts Try.info41
  have HH := Hid.mk h
  have HW := Hid.mk hw
  have hc0 := hw.le0
  have hc3 := hw.le4
  clear h hw
  go_enter Try.func21, Try.ntmps21
  go_wp2_with (fail)
  obtain ⟨w1, hw1, k1, hb1⟩ := three_new w (.int .i64 kd) (.int .i64 on) (.int .i64 n) 35
  rw [hw1]
  clear hw1
  refine (asked_any n w1).mono ?_
  rintro e w1' ⟨rfl, hw1'⟩
  obtain rfl := hw1'.symm
  generalize asN n = q
  have H1 := Hid.mk (HH.out.keep k1)
  obtain ⟨⟨d0, -, -⟩, -⟩ := three hb1
  obtain ⟨P, Q, m, g, t, l, hG, v0, x0, v1, x1, x2, hl, hlb, hli⟩ := HW.out.ar k hk
  have c0 := H1.out.cells.1 0 (by omega)
  obtain ⟨G0, p0, e0, y0, -⟩ := H1.out.val 0 k (by omega) (by rw [HW.out.r]; exact hk)
  rw [HW.out.r 0] at e0
  rw [e0] at c0
  rw [v0] at y0
  have HA : Hid (Ar 62 w1 P m g t) := Hid.mk (by have := H1.out.thing 0 k (by omega) hk; rw [x0] at this; exact this)
  have ix : (k : Int) < (s.c 0 : Int) := by omega
  have HV := Hid.mk (And.intro v0 (And.intro x0 (And.intro v1 (And.intro x1 (And.intro x2 (And.intro hl (And.intro hlb (And.intro hli hG))))))))
  have HE0 := Hid.mk e0
  have HB1 := Hid.mk hb1
  have HK1 := Hid.mk k1
  clear v0 x0 v1 x1 x2 hl hlb hli hG e0 hb1 k1
  have hk3 : (kd == 2) = false := by have := hkd.out; simp; omega
  go_wp2_with (fail)
  refine (samples_any P m g t q w1 HA.out HV.out.2.2.2.2.2.2.2.2).mono ?_
  intro e w2 hp
  obtain ⟨ao, c, rfl, hn1, hn2, hcl, A2, Z2, hF2, k2⟩ := hp.uni HV.out.2.2.2.2.2.2.2.2 (by omega)
  clear hp
  have H2 := Hid.mk (H1.out.one 0 k (by omega) hk (arr 62 P m (gvG m g q 2) (gvT m g t q 2)) k2 (by rw [HV.out.2.1]; exact fun x hx => .inl hx) A2 (by rw [HV.out.2.1]; exact fun x hx => .inl hx))
  have HZ2 := Hid.mk Z2
  have HF2 := Hid.mk hF2
  have HN1 := Hid.mk hn1
  have HN2 := Hid.mk hn2
  have c1 : w2.cell? ⟨A, 1, none⟩ = some (s.S 1) := H2.out.cells.1 1 (by omega)
  obtain ⟨G1, p1, e1, y1, -⟩ := H2.out.val 1 k (by omega) (by show k < s.r 1; rw [HW.out.r 1, HW.out.c1]; exact hk)
  have e1' : s.S 1 = .slice (some ⟨G1, 0, none⟩) (s.r 1) p1 := e1
  have y1' : w2.cell? ⟨G1, k, none⟩ = some (s.V 1 k) := y1
  rw [e1', HW.out.r 1, HW.out.c1] at c1
  rw [HV.out.2.2.1] at y1'
  have HA2 : Hid (Ar 60 w2 Q m g t) := Hid.mk (by have := H2.out.thing 1 k (by omega) (by show k < s.c 1; rw [HW.out.c1]; exact hk); simp only [Wo.one, upd2] at this; rw [if_neg (by omega), HV.out.2.2.2.1] at this; exact this)
  have HK2 := Hid.mk k2
  clear A2 Z2 hF2 hn1 hn2 e1 e1' y1 k2 c0 y0 d0
  go_wp2_with (fail)
  refine (take2 Q m g t q w2 HA2.out HV.out.2.2.2.2.2.2.2.2).mono ?_
  rintro e w3 ⟨rfl, A3, k3⟩
  have H3 := Hid.mk (H2.out.one 1 k (by omega) (by show k < s.c 1; rw [HW.out.c1]; exact hk) (arr 60 Q m (gvG m g q 2) (gvT m g t q 2)) k3 (by simp only [Wo.one, upd2]; rw [if_neg (by omega), HV.out.2.2.2.1]; exact fun x hx => .inl hx) A3 (by simp only [Wo.one, upd2]; rw [if_neg (by omega), HV.out.2.2.2.1]; exact fun x hx => .inl hx))
  have HW3 : Hid (Wk ((s.one 0 k (arr 62 P m (gvG m g q 2) (gvT m g t q 2))).one 1 k (arr 60 Q m (gvG m g q 2) (gvT m g t q 2))) b) :=
    Hid.mk (HW.out.give P Q m _ _ (gm_gv HV.out.2.2.2.2.2.2.2.2 (by omega)) l HV.out.1 HV.out.2.2.1 HV.out.2.2.2.2.1 HV.out.2.2.2.2.2.1 HV.out.2.2.2.2.2.2.1 HV.out.2.2.2.2.2.2.2.1)
  have HK3 := Hid.mk k3
  clear A3 k3 c1 y1'
  obtain ⟨s3, hs3, e33, e3S⟩ : ∃ s3, s3 = (s.one 0 k (arr 62 P m (gvG m g q 2) (gvT m g t q 2))).one 1 k (arr 60 Q m (gvG m g q 2) (gvT m g t q 2)) ∧ s3.r 4 = s.r 4 ∧ s3.c 0 = s.c 0 := ⟨_, rfl, rfl, rfl⟩
  have HFA : Hid (∀ j, s3.D j → ∀ x ∈ ablk ao, x ∉ (s3.R A j).F) := Hid.mk (by
    intro j hj x hx hx2
    have hj' : s.D j := by rw [hs3] at hj; exact hj
    rw [hs3, Wo.one_F (s.one 0 k (arr 62 P m (gvG m g q 2) (gvT m g t q 2))) A 1 k _ (by omega) (by simp only [Wo.one, upd2]; rw [if_neg (by omega), HV.out.2.2.2.1]; rfl) j hj', Wo.one_F s A 0 k _ (by omega) (by rw [HV.out.2.1]; rfl) j hj'] at hx2
    have h1 := H1.out.lt j hj' x hx2
    have h2 := HF2.out x hx
    omega)
  have HFW : Hid (∀ x ∈ ablk ao, W.heap.size ≤ x) := Hid.mk (fun x hx => Nat.le_trans (H1.out.old).size (HF2.out x hx))
  rw [← hs3] at H3 HW3
  clear hs3
  have hQ3 : (zlf .u16 50 ao c (fun _ => 0)).P w3 := (zlf .u16 50 ao c (fun _ => 0)).keep HZ2.out HK3.out (fun x hx => by
    have h1 := HF2.out x hx
    have h2 := HA2.out.lt
    have h3 := ((H1.out.thing 1 k (by omega) (by rw [HW.out.c1]; exact hk)))
    rw [HV.out.2.2.2.1] at h3
    have h4 : Q < w1.heap.size := Ar.lt h3
    simp; omega)
  have HQ3 := Hid.mk hQ3
  clear hQ3
  have HF3 : Hid (∀ x ∈ ablk ao, w1.heap.size ≤ x) := HF2
  generalize gvE m g q 2 = E at *
  rw [← HW.out.r 4, ← e33] at hc3
  have HE3 : Hid (s3.c 0 = s.c 0) := Hid.mk e3S
  clear e33 e3S
  -- the row of lists
  have hkx : Kept [] w1 w1 := Kept.refl _ _
  by_cases hE : E = 0
  · have hqc := HN1.out hE
    subst hE
    subst hqc
    obtain ⟨b0, b1⟩ := H3.out.cells
    have b3 := b0 4 (by omega)
    have f3 := b1 4
    obtain ⟨ao3, cp3, eS3⟩ := H3.out.form 4 (by omega)
    rw [eS3] at b3
    have hrow := H3.out.row 4 (by omega)
    rw [eS3] at hrow
    have HRow := Hid.mk hrow
    have HES3 := Hid.mk eS3
    clear b0 b1 eS3 hrow
    go_wp2_with (at_builtin; go_loud (refine wpList_app1 w3 rfl _ _ 29 0 41 i0 (.slice none 0 0) 24 Try.underlying29 hi hz0 hz1 hz2 rfl rfl (.slice ao3 (s3.r 4) cp3) (s3.r 4) (vals (s3.V 4) (s3.r 4)) (by rfl) HRow.out (.slice ao c c) (by rfl) rfl (Nat.zero_le _) (by omega) (by omega) ?_); intro v' w4 ho4 hk4 hl4; obtain ⟨ao4, cp4, rfl⟩ := row_form ho4; rw [← HES3.out] at hk4 hl4; have hbx := H3.out.boxKept 4 (by omega) hk4; have z0 := box_cell hbx 4 (by omega); have z1 := box_frozen hbx 4; have HO4 := Hid.mk ho4; have HK4 := Hid.mk hk4; have HL4 := Hid.mk hl4; clear ho4 hk4 hl4 hbx)
    go_ret
    refine ⟨rfl, _, (H3.out.push2 4 (by omega) (zlf .u16 50 ao c (fun _ => 0)) HQ3.out HFW.out HFA.out).app 4 (by omega) (.slice ao c c) (.slice ao4 (s3.r 4 + 1) cp4) HK4.out HL4.out HO4.out, HW3.out.add4 ao c hcl _, by simp [Wo.push, Wo.app]; have := HE3.out; omega⟩
  · have hqc := HN2.out hE
    subst hqc
    have hE0 : (E == 0) = false := by simpa using hE
    have hE1 : (E != 0) = true := by simpa using hE
    clear hE
    obtain ⟨b0, b1⟩ := H3.out.cells
    have b3 := b0 4 (by omega)
    have f3 := b1 4
    obtain ⟨ao3, cp3, eS3⟩ := H3.out.form 4 (by omega)
    rw [eS3] at b3
    have hrow := H3.out.row 4 (by omega)
    rw [eS3] at hrow
    have HRow := Hid.mk hrow
    have HES3 := Hid.mk eS3
    clear b0 b1 eS3 hrow
    go_wp2_with (at_builtin; go_loud (refine wpList_app1 w3 rfl _ _ 29 0 41 i0 (.slice none 0 0) 24 Try.underlying29 hi hz0 hz1 hz2 rfl rfl (.slice ao3 (s3.r 4) cp3) (s3.r 4) (vals (s3.V 4) (s3.r 4)) (by rfl) HRow.out (.slice ao 0 0) (by rfl) rfl (Nat.zero_le _) (by omega) (by omega) ?_); intro v' w4 ho4 hk4 hl4; obtain ⟨ao4, cp4, rfl⟩ := row_form ho4; rw [← HES3.out] at hk4 hl4; have hbx := H3.out.boxKept 4 (by omega) hk4; have z0 := box_cell hbx 4 (by omega); have z1 := box_frozen hbx 4; have HO4 := Hid.mk ho4; have HK4 := Hid.mk hk4; have HL4 := Hid.mk hl4; clear ho4 hk4 hl4 hbx)
    go_ret
    refine ⟨rfl, _, (H3.out.push2 4 (by omega) (zlf .u16 50 ao 0 (fun _ => 0)) HQ3.out HFW.out HFA.out).app 4 (by omega) (.slice ao 0 0) (.slice ao4 (s3.r 4 + 1) cp4) HK4.out HL4.out HO4.out, HW3.out.add4 ao 0 (by omega) _, by simp [Wo.push, Wo.app]; have := HE3.out; omega⟩

end Go.Proofs.Ytplpjpijmnglfaa
