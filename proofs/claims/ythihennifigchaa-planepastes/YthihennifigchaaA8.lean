import Derived.Test.YthihennifigchaaA7
namespace Go.Proofs.Ythihennifigchaa
open Go.RowKit

set_option maxHeartbeats 8000000 in
set_option maxRecDepth 1000000 in
theorem rwhole_any (W H D X Y rw rh : Int) (A : Bool) (w : World) (hX : -9223372036854775808 ≤ X ∧ X ≤ 9223372036854775807) (hY : -9223372036854775808 ≤ Y ∧ Y ≤ 9223372036854775807) (hW : 1 ≤ W ∧ W ≤ 4096) (hH : 1 ≤ H ∧ H ≤ 4096) :
    Calls Try.prog 57 #[shv W H D A, rcv X Y rw rh] w fun e w' => e = .returned (.bool (whl W H X Y rw rh)) ∧ Kept [] w w' := by
  have C := Hid.mk (fun u => rlies_any X Y rw rh W H u hX hY hW hH)
  have S0 := Hid.mk ((Sat.new w W H D A 23).keep (alloc_kept _ (.cells #[.int .i64 X, .int .i64 Y, .int .i64 rw, .int .i64 rh] 51)) (by simp))
  have R0 := Hid.mk (Rat.new (w.alloc (.cells #[.int .i64 W, .int .i64 H, .int .i64 D, .bool A] 23)) X Y rw rh 51)
  rw [World.size_alloc] at R0
  have K0 := Hid.mk ((alloc_kept w (.cells #[.int .i64 W, .int .i64 H, .int .i64 D, .bool A] 23)).trans (alloc_kept _ (.cells #[.int .i64 X, .int .i64 Y, .int .i64 rw, .int .i64 rh] 51)))
  obtain ⟨w1, ew1⟩ : ∃ w1, w1 = (w.alloc (.cells #[.int .i64 W, .int .i64 H, .int .i64 D, .bool A] 23)).alloc (.cells #[.int .i64 X, .int .i64 Y, .int .i64 rw, .int .i64 rh] 51) := ⟨_, rfl⟩
  rw [← ew1] at S0 R0 K0
  have EW := Hid.mk ew1
  clear ew1
  by_cases hl : 1 ≤ rw ∧ 1 ≤ rh ∧ 0 ≤ X ∧ 0 ≤ Y ∧ X + rw ≤ W ∧ Y + rh ≤ H
  · have e1 : lie X Y rw rh W H = true := decide_eq_true hl
    rw [e1] at C
    obtain ⟨l1, l2, l3, l4, l5, l6⟩ := hl
    clear e1
    by_cases hx : X % 2 = 0
    · have hx' : (X % 2 == 0) = true := by simp [hx]
      by_cases hr : rw % 2 = 0
      · have hr' : (rw % 2 == 0) = true := by simp [hr]
        have E : Hid (whl W H X Y rw rh = true) := Hid.mk (decide_eq_true ⟨⟨l1, l2, l3, l4, l5, l6⟩, hx, .inl hr⟩)
        clear hx hr
        go_enter Try.func57, Try.ntmps57
        go_wp2_with (go_at_call 53; rw [← EW.out]; refine (C.out _).mono ?_; rintro e w2 ⟨rfl, hk2⟩; obtain ⟨p0, p1, p2, p3⟩ := S0.out.keep hk2 (by simp); obtain ⟨t0, t1, t2, t3⟩ := R0.out.keep hk2 (by simp); have hk02 := Hid.mk (K0.out.trans hk2))
        go_ret
        exact ⟨ret_bool E.out.symm, hk02.out⟩
      · have hr' : (rw % 2 == 0) = false := by simpa using hr
        have E : Hid (whl W H X Y rw rh = (X + rw == W)) := Hid.mk (by
          by_cases hq : X + rw = W
          · rw [show whl W H X Y rw rh = true from decide_eq_true ⟨⟨l1, l2, l3, l4, l5, l6⟩, hx, .inr hq⟩]; simp [hq]
          · rw [show whl W H X Y rw rh = false from decide_eq_false (fun h => h.2.2.elim hr hq)]; simp [hq])
        clear hx hr
        go_enter Try.func57, Try.ntmps57
        go_wp2_with (go_at_call 53; rw [← EW.out]; refine (C.out _).mono ?_; rintro e w2 ⟨rfl, hk2⟩; obtain ⟨p0, p1, p2, p3⟩ := S0.out.keep hk2 (by simp); obtain ⟨t0, t1, t2, t3⟩ := R0.out.keep hk2 (by simp); have hk02 := Hid.mk (K0.out.trans hk2))
        go_ret
        exact ⟨ret_bool E.out.symm, hk02.out⟩
    · have hx' : (X % 2 == 0) = false := by simpa using hx
      have E : Hid (whl W H X Y rw rh = false) := Hid.mk (decide_eq_false (fun h => hx h.2.1))
      clear hx
      go_enter Try.func57, Try.ntmps57
      go_wp2_with (go_at_call 53; rw [← EW.out]; refine (C.out _).mono ?_; rintro e w2 ⟨rfl, hk2⟩; obtain ⟨p0, p1, p2, p3⟩ := S0.out.keep hk2 (by simp); obtain ⟨t0, t1, t2, t3⟩ := R0.out.keep hk2 (by simp); have hk02 := Hid.mk (K0.out.trans hk2))
      go_ret
      exact ⟨ret_bool E.out.symm, hk02.out⟩
  · have e1 : lie X Y rw rh W H = false := decide_eq_false hl
    rw [e1] at C
    have E : Hid (whl W H X Y rw rh = false) := Hid.mk (decide_eq_false (fun h => hl h.1))
    clear e1 hl
    go_enter Try.func57, Try.ntmps57
    go_wp2_with (go_at_call 53; rw [← EW.out]; refine (C.out _).mono ?_; rintro e w2 ⟨rfl, hk2⟩; obtain ⟨p0, p1, p2, p3⟩ := S0.out.keep hk2 (by simp); obtain ⟨t0, t1, t2, t3⟩ := R0.out.keep hk2 (by simp); have hk02 := Hid.mk (K0.out.trans hk2))
    go_ret
    exact ⟨ret_bool E.out.symm, hk02.out⟩

set_option maxHeartbeats 8000000 in
set_option maxRecDepth 1000000 in
theorem rhalfR_any (W H D p X Y rw rh : Int) (A : Bool) (w : World) (hX : -9223372036854775808 ≤ X ∧ X ≤ 9223372036854775807) (hY : -9223372036854775808 ≤ Y ∧ Y ≤ 9223372036854775807) :
    Calls Try.prog 35 #[shv W H D A, .int .i64 p, rcv X Y rw rh] w fun e w' => e = .returned (.tuple #[if hE W H D p X Y rw rh A = 0 then rcv (bX p X) Y (bW p rw) rh else rcv 0 0 0 0, .int .i64 (hE W H D p X Y rw rh A)]) ∧ Kept [] w w' := by
  have C := Hid.mk (fun u => rshaped_any W H D A u)
  have N := three_new w (.int .i64 W) (.int .i64 H) (.int .i64 D) (.bool A) (.int .i64 X) (.int .i64 Y) (.int .i64 rw) (.int .i64 rh) (.int .i64 0) (.int .i64 0) (.int .i64 0) (.int .i64 0) 23 51 51
  obtain ⟨w1, ew1⟩ : ∃ w1, w1 = ((w.alloc (.cells #[.int .i64 W, .int .i64 H, .int .i64 D, .bool A] 23 (0, 0))).alloc (.cells #[.int .i64 X, .int .i64 Y, .int .i64 rw, .int .i64 rh] 51 (0, 0))).alloc (.cells #[.int .i64 0, .int .i64 0, .int .i64 0, .int .i64 0] 51 (0, 0)) := ⟨_, rfl⟩
  rw [← ew1] at N
  have HN := Hid.mk N
  have EW := Hid.mk ew1
  clear N ew1
  rcases shE_two W H D A with ⟨e1, h1⟩ | ⟨e1, h1⟩
  · rw [e1] at C
    have C2 := Hid.mk (fun u => rthere_any W H D p A u)
    have C3 := Hid.mk (fun u => rwhole_any W H D X Y rw rh A u hX hY h1.1 h1.2.1)
    by_cases hp : 0 ≤ p ∧ p < (np A : Int)
    · rw [decide_eq_true hp] at C2
      by_cases hw : whl W H X Y rw rh = true
      · have hd := of_decide_eq_true hw
        have hd1 : 0 ≤ X ∧ X ≤ 4096 := by have := h1.1; omega
        have C4 := Hid.mk (fun u => rhalf_any rw u (by omega) (by have := h1.1; omega))
        rw [hw] at C3
        rw [show hE W H D p X Y rw rh A = 0 by unfold hE; rw [if_pos e1, if_pos ⟨hp, hw⟩], if_pos rfl]
        have hdv : IntKind.i64.wrap (X.tdiv 2) = X / 2 := by rw [Int.tdiv_eq_ediv_of_nonneg hd1.1]; exact wrap_i (by omega) (by omega)
        clear e1 h1 hp hw hd
        by_cases hc : p = 1 ∨ p = 2
        · rw [show bX p X = X / 2 from if_pos hc, show bW p rw = hf rw from if_pos hc]
          have c1 : ((p == 1) = true) ∨ ((p == 1) = false ∧ (p == 2) = true) := by
            rcases hc with h | h
            · exact .inl (by simp [h])
            · exact .inr ⟨by simp [h], by simp [h]⟩
          clear hc
          rcases c1 with k1 | ⟨k1, k2⟩
          · go_enter Try.func35, Try.ntmps35
            go_wp2_with (first | (go_at_call 15; rw [← EW.out]; refine (C.out _).mono ?_; rintro e w2 ⟨rfl, hk2⟩; obtain ⟨⟨c0, c1, c2, c3⟩, _⟩ := four (hk2.heap HN.out.1 (by simp)); obtain ⟨⟨r0, r1, r2, r3⟩, _⟩ := four (hk2.heap HN.out.2.1 (by simp))) | (go_at_call 42; refine (C2.out _).mono ?_; rintro e w3 ⟨rfl, hk3⟩; obtain ⟨⟨d0, d1, d2, d3⟩, _⟩ := four ((hk2.trans hk3).heap HN.out.1 (by simp)); obtain ⟨⟨s0, s1, s2, s3⟩, _⟩ := four ((hk2.trans hk3).heap HN.out.2.1 (by simp))) | (go_at_call 57; refine (C3.out _).mono ?_; rintro e w4 ⟨rfl, hk4⟩; obtain ⟨⟨t0, t1, t2, t3⟩, _⟩ := four ((((hk2.trans hk3).trans hk4)).heap HN.out.2.1 (by simp)); have HR := Hid.mk (((hk2.trans hk3).trans hk4).heap HN.out.2.2.1 (by simp)); obtain ⟨⟨z0, z1, z2, z3⟩, f0, f1, f2, f3⟩ := four HR.out; have KK := Hid.mk (HN.out.2.2.2.trans ((hk2.trans hk3).trans hk4))))
            clear c0 c1 c2 c3 r0 r1 r2 r3 d0 d1 d2 d3 s0 s1 s2 s3
            go_region_held_law (fun w' => w'.cell? ⟨w.heap.size + 1, 0, none⟩ = some (.int .i64 X) ∧ w'.cell? ⟨w.heap.size + 1, 1, none⟩ = some (.int .i64 Y) ∧ w'.cell? ⟨w.heap.size + 1, 2, none⟩ = some (.int .i64 rw) ∧ w'.cell? ⟨w.heap.size + 1, 3, none⟩ = some (.int .i64 rh)) (first | exact ⟨t0, t1, t2, t3⟩ | go_keep) (first | (go_at_call 58; refine (C4.out _).mono ?_; rintro e w5 ⟨rfl, hw⟩; obtain rfl := hw.symm))
            clear z0 z1 z2 z3 f0 f1 f2 f3 t0 t1 t2 t3
            go_wp2
            have s4 := set4 (.int .i64 (X / 2)) (.int .i64 Y) (.int .i64 (hf rw)) (.int .i64 rh) HR.out
            refine bodyPost_ret (v := .tuple #[rcv (X / 2) Y (hf rw) rh, .int .i64 0]) ?_ rfl ⟨rfl, (KK.out.step s4.2 (fun x hx => by simp at hx; subst hx; exact .inr (by omega))).drew⟩
            exact results_two rfl _ _ (w.heap.size + 1 + 1) 51 _ (0, 0) _ _ rfl s4.1 Try.underlying51 Try.info51 rfl
          · go_enter Try.func35, Try.ntmps35
            go_wp2_with (first | (go_at_call 15; rw [← EW.out]; refine (C.out _).mono ?_; rintro e w2 ⟨rfl, hk2⟩; obtain ⟨⟨c0, c1, c2, c3⟩, _⟩ := four (hk2.heap HN.out.1 (by simp)); obtain ⟨⟨r0, r1, r2, r3⟩, _⟩ := four (hk2.heap HN.out.2.1 (by simp))) | (go_at_call 42; refine (C2.out _).mono ?_; rintro e w3 ⟨rfl, hk3⟩; obtain ⟨⟨d0, d1, d2, d3⟩, _⟩ := four ((hk2.trans hk3).heap HN.out.1 (by simp)); obtain ⟨⟨s0, s1, s2, s3⟩, _⟩ := four ((hk2.trans hk3).heap HN.out.2.1 (by simp))) | (go_at_call 57; refine (C3.out _).mono ?_; rintro e w4 ⟨rfl, hk4⟩; obtain ⟨⟨t0, t1, t2, t3⟩, _⟩ := four ((((hk2.trans hk3).trans hk4)).heap HN.out.2.1 (by simp)); have HR := Hid.mk (((hk2.trans hk3).trans hk4).heap HN.out.2.2.1 (by simp)); obtain ⟨⟨z0, z1, z2, z3⟩, f0, f1, f2, f3⟩ := four HR.out; have KK := Hid.mk (HN.out.2.2.2.trans ((hk2.trans hk3).trans hk4))))
            clear c0 c1 c2 c3 r0 r1 r2 r3 d0 d1 d2 d3 s0 s1 s2 s3
            go_region_held_law (fun w' => w'.cell? ⟨w.heap.size + 1, 0, none⟩ = some (.int .i64 X) ∧ w'.cell? ⟨w.heap.size + 1, 1, none⟩ = some (.int .i64 Y) ∧ w'.cell? ⟨w.heap.size + 1, 2, none⟩ = some (.int .i64 rw) ∧ w'.cell? ⟨w.heap.size + 1, 3, none⟩ = some (.int .i64 rh)) (first | exact ⟨t0, t1, t2, t3⟩ | go_keep) (first | (go_at_call 58; refine (C4.out _).mono ?_; rintro e w5 ⟨rfl, hw⟩; obtain rfl := hw.symm))
            clear z0 z1 z2 z3 f0 f1 f2 f3 t0 t1 t2 t3
            go_wp2
            have s4 := set4 (.int .i64 (X / 2)) (.int .i64 Y) (.int .i64 (hf rw)) (.int .i64 rh) HR.out
            refine bodyPost_ret (v := .tuple #[rcv (X / 2) Y (hf rw) rh, .int .i64 0]) ?_ rfl ⟨rfl, (KK.out.step s4.2 (fun x hx => by simp at hx; subst hx; exact .inr (by omega))).drew⟩
            exact results_two rfl _ _ (w.heap.size + 1 + 1) 51 _ (0, 0) _ _ rfl s4.1 Try.underlying51 Try.info51 rfl
        · rw [show bX p X = X from if_neg hc, show bW p rw = rw from if_neg hc]
          have k1 : (p == 1) = false := by simp; omega
          have k2 : (p == 2) = false := by simp; omega
          clear hc
          go_enter Try.func35, Try.ntmps35
          go_wp2_with (first | (go_at_call 15; rw [← EW.out]; refine (C.out _).mono ?_; rintro e w2 ⟨rfl, hk2⟩; obtain ⟨⟨c0, c1, c2, c3⟩, _⟩ := four (hk2.heap HN.out.1 (by simp)); obtain ⟨⟨r0, r1, r2, r3⟩, _⟩ := four (hk2.heap HN.out.2.1 (by simp))) | (go_at_call 42; refine (C2.out _).mono ?_; rintro e w3 ⟨rfl, hk3⟩; obtain ⟨⟨d0, d1, d2, d3⟩, _⟩ := four ((hk2.trans hk3).heap HN.out.1 (by simp)); obtain ⟨⟨s0, s1, s2, s3⟩, _⟩ := four ((hk2.trans hk3).heap HN.out.2.1 (by simp))) | (go_at_call 57; refine (C3.out _).mono ?_; rintro e w4 ⟨rfl, hk4⟩; obtain ⟨⟨t0, t1, t2, t3⟩, _⟩ := four ((((hk2.trans hk3).trans hk4)).heap HN.out.2.1 (by simp)); have HR := Hid.mk (((hk2.trans hk3).trans hk4).heap HN.out.2.2.1 (by simp)); obtain ⟨⟨z0, z1, z2, z3⟩, f0, f1, f2, f3⟩ := four HR.out; have KK := Hid.mk (HN.out.2.2.2.trans ((hk2.trans hk3).trans hk4))))
          have s4 := set4 (.int .i64 X) (.int .i64 Y) (.int .i64 rw) (.int .i64 rh) HR.out
          refine bodyPost_ret (v := .tuple #[rcv X Y rw rh, .int .i64 0]) ?_ rfl ⟨rfl, (KK.out.step s4.2 (fun x hx => by simp at hx; subst hx; exact .inr (by omega)))⟩
          exact results_two rfl _ _ (w.heap.size + 1 + 1) 51 _ (0, 0) _ _ rfl s4.1 Try.underlying51 Try.info51 rfl
      · have hw2 : whl W H X Y rw rh = false := by simpa using hw
        rw [hw2] at C3
        rw [show hE W H D p X Y rw rh A = 65 by unfold hE; rw [if_pos e1, if_neg (fun h => hw h.2)], if_neg (by decide)]
        clear e1 h1 hp hw hw2
        go_enter Try.func35, Try.ntmps35
        go_wp2_with (first | (go_at_call 15; rw [← EW.out]; refine (C.out _).mono ?_; rintro e w2 ⟨rfl, hk2⟩; obtain ⟨⟨c0, c1, c2, c3⟩, _⟩ := four (hk2.heap HN.out.1 (by simp)); obtain ⟨⟨r0, r1, r2, r3⟩, _⟩ := four (hk2.heap HN.out.2.1 (by simp))) | (go_at_call 42; refine (C2.out _).mono ?_; rintro e w3 ⟨rfl, hk3⟩; obtain ⟨⟨d0, d1, d2, d3⟩, _⟩ := four ((hk2.trans hk3).heap HN.out.1 (by simp)); obtain ⟨⟨s0, s1, s2, s3⟩, _⟩ := four ((hk2.trans hk3).heap HN.out.2.1 (by simp))) | (go_at_call 57; refine (C3.out _).mono ?_; rintro e w4 ⟨rfl, hk4⟩; obtain ⟨⟨t0, t1, t2, t3⟩, _⟩ := four ((((hk2.trans hk3).trans hk4)).heap HN.out.2.1 (by simp)); have HR := Hid.mk (((hk2.trans hk3).trans hk4).heap HN.out.2.2.1 (by simp)); obtain ⟨⟨z0, z1, z2, z3⟩, f0, f1, f2, f3⟩ := four HR.out; have KK := Hid.mk (HN.out.2.2.2.trans ((hk2.trans hk3).trans hk4))))
        have s4 := set4 (.int .i64 0) (.int .i64 0) (.int .i64 0) (.int .i64 0) HR.out
        refine bodyPost_ret (v := .tuple #[rcv 0 0 0 0, .int .i64 65]) ?_ rfl ⟨rfl, (KK.out.step s4.2 (fun x hx => by simp at hx; subst hx; exact .inr (by omega)))⟩
        exact results_two rfl _ _ (w.heap.size + 1 + 1) 51 _ (0, 0) _ _ rfl s4.1 Try.underlying51 Try.info51 rfl
    · rw [decide_eq_false hp] at C2
      rw [show hE W H D p X Y rw rh A = 65 by unfold hE; rw [if_pos e1, if_neg (fun h => hp h.1)], if_neg (by decide)]
      clear e1 h1 hp
      go_enter Try.func35, Try.ntmps35
      go_wp2_with (first | (go_at_call 15; rw [← EW.out]; refine (C.out _).mono ?_; rintro e w2 ⟨rfl, hk2⟩; obtain ⟨⟨c0, c1, c2, c3⟩, _⟩ := four (hk2.heap HN.out.1 (by simp)); obtain ⟨⟨r0, r1, r2, r3⟩, _⟩ := four (hk2.heap HN.out.2.1 (by simp))) | (go_at_call 42; refine (C2.out _).mono ?_; rintro e w3 ⟨rfl, hk3⟩; obtain ⟨⟨d0, d1, d2, d3⟩, _⟩ := four ((hk2.trans hk3).heap HN.out.1 (by simp)); obtain ⟨⟨s0, s1, s2, s3⟩, _⟩ := four ((hk2.trans hk3).heap HN.out.2.1 (by simp))) | (go_at_call 57; refine (C3.out _).mono ?_; rintro e w4 ⟨rfl, hk4⟩; obtain ⟨⟨t0, t1, t2, t3⟩, _⟩ := four ((((hk2.trans hk3).trans hk4)).heap HN.out.2.1 (by simp)); have HR := Hid.mk (((hk2.trans hk3).trans hk4).heap HN.out.2.2.1 (by simp)); obtain ⟨⟨z0, z1, z2, z3⟩, f0, f1, f2, f3⟩ := four HR.out; have KK := Hid.mk (HN.out.2.2.2.trans ((hk2.trans hk3).trans hk4))))
      have s4 := set4 (.int .i64 0) (.int .i64 0) (.int .i64 0) (.int .i64 0) HR.out
      refine bodyPost_ret (v := .tuple #[rcv 0 0 0 0, .int .i64 65]) ?_ rfl ⟨rfl, (KK.out.step s4.2 (fun x hx => by simp at hx; subst hx; exact .inr (by omega)))⟩
      exact results_two rfl _ _ (w.heap.size + 1 + 1) 51 _ (0, 0) _ _ rfl s4.1 Try.underlying51 Try.info51 rfl
  · rw [e1] at C
    rw [show hE W H D p X Y rw rh A = 61 by unfold hE; rw [e1]; rfl, if_neg (by decide)]
    clear e1 h1
    go_enter Try.func35, Try.ntmps35
    go_wp2_with (first | (go_at_call 15; rw [← EW.out]; refine (C.out _).mono ?_; rintro e w2 ⟨rfl, hk2⟩; obtain ⟨⟨c0, c1, c2, c3⟩, _⟩ := four (hk2.heap HN.out.1 (by simp)); obtain ⟨⟨r0, r1, r2, r3⟩, _⟩ := four (hk2.heap HN.out.2.1 (by simp)); have HR := Hid.mk ((hk2).heap HN.out.2.2.1 (by simp)); obtain ⟨⟨z0, z1, z2, z3⟩, f0, f1, f2, f3⟩ := four HR.out; have KK := Hid.mk (HN.out.2.2.2.trans (hk2))))
    have s4 := set4 (.int .i64 0) (.int .i64 0) (.int .i64 0) (.int .i64 0) HR.out
    refine bodyPost_ret (v := .tuple #[rcv 0 0 0 0, .int .i64 61]) ?_ rfl ⟨rfl, (KK.out.step s4.2 (fun x hx => by simp at hx; subst hx; exact .inr (by omega)))⟩
    exact results_two rfl _ _ (w.heap.size + 1 + 1) 51 _ (0, 0) _ _ rfl s4.1 Try.underlying51 Try.info51 rfl
end Go.Proofs.Ythihennifigchaa
