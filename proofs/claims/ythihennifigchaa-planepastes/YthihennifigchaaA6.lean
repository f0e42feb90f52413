import Derived.Test.YthihennifigchaaA5
namespace Go.Proofs.Ythihennifigchaa
open Go.RowKit

/-- Half's error. -/
def hE (W H D p X Y rw rh : Int) (A : Bool) : Int := if shE W H D A = 0 then (if (0 ≤ p ∧ p < (np A : Int)) ∧ whl W H X Y rw rh = true then 0 else 65) else 61
/-- Three blocks of four cells. -/
theorem three_new (w : World) (a b c d a' b' c' d' a2 b2 c2 d2 : Value) (t t' t2 : Nat) :
    ((((w.alloc (.cells #[a, b, c, d] t (0, 0))).alloc (.cells #[a', b', c', d'] t' (0, 0))).alloc (.cells #[a2, b2, c2, d2] t2 (0, 0)))).heap[w.heap.size]? = some (.cells #[a, b, c, d] t (0, 0)) ∧ ((((w.alloc (.cells #[a, b, c, d] t (0, 0))).alloc (.cells #[a', b', c', d'] t' (0, 0))).alloc (.cells #[a2, b2, c2, d2] t2 (0, 0)))).heap[w.heap.size + 1]? = some (.cells #[a', b', c', d'] t' (0, 0)) ∧ ((((w.alloc (.cells #[a, b, c, d] t (0, 0))).alloc (.cells #[a', b', c', d'] t' (0, 0))).alloc (.cells #[a2, b2, c2, d2] t2 (0, 0)))).heap[w.heap.size + 1 + 1]? = some (.cells #[a2, b2, c2, d2] t2 (0, 0)) ∧ Kept [] w ((((w.alloc (.cells #[a, b, c, d] t (0, 0))).alloc (.cells #[a', b', c', d'] t' (0, 0))).alloc (.cells #[a2, b2, c2, d2] t2 (0, 0)))) := by
  have h := two_new w a b c d a' b' c' d' t t'
  refine ⟨(alloc_kept _ _).heap h.1 (by simp), (alloc_kept _ _).heap h.2.1 (by simp), ?_, h.2.2.trans (alloc_kept _ _)⟩
  have := heap_alloc_new ((w.alloc (.cells #[a, b, c, d] t (0, 0))).alloc (.cells #[a', b', c', d'] t' (0, 0))) (.cells #[a2, b2, c2, d2] t2 (0, 0))
  rwa [World.size_alloc, World.size_alloc] at this

set_option maxHeartbeats 8000000 in
set_option maxRecDepth 1000000 in
theorem halfR_any (W H D p X Y rw rh : Int) (A : Bool) (w : World) (hX : -9223372036854775808 ≤ X ∧ X ≤ 9223372036854775807) (hY : -9223372036854775808 ≤ Y ∧ Y ≤ 9223372036854775807) :
    Calls Try.prog 34 #[shv W H D A, .int .i64 p, rcv X Y rw rh] w fun e w' => e = .returned (.tuple #[if hE W H D p X Y rw rh A = 0 then rcv (bX p X) Y (bW p rw) rh else rcv 0 0 0 0, .int .i64 (hE W H D p X Y rw rh A)]) ∧ Kept [] w w' := by
  have C := Hid.mk (fun u => shaped_any W H D A u)
  have N := three_new w (.int .i64 W) (.int .i64 H) (.int .i64 D) (.bool A) (.int .i64 X) (.int .i64 Y) (.int .i64 rw) (.int .i64 rh) (.int .i64 0) (.int .i64 0) (.int .i64 0) (.int .i64 0) 23 51 51
  obtain ⟨w1, ew1⟩ : ∃ w1, w1 = ((w.alloc (.cells #[.int .i64 W, .int .i64 H, .int .i64 D, .bool A] 23 (0, 0))).alloc (.cells #[.int .i64 X, .int .i64 Y, .int .i64 rw, .int .i64 rh] 51 (0, 0))).alloc (.cells #[.int .i64 0, .int .i64 0, .int .i64 0, .int .i64 0] 51 (0, 0)) := ⟨_, rfl⟩
  rw [← ew1] at N
  have HN := Hid.mk N
  have EW := Hid.mk ew1
  clear N ew1
  rcases shE_two W H D A with ⟨e1, h1⟩ | ⟨e1, h1⟩
  · rw [e1] at C
    have C2 := Hid.mk (fun u => there_any W H D p A u)
    by_cases hp : 0 ≤ p ∧ p < (np A : Int)
    · rw [decide_eq_true hp] at C2
      have C3 := Hid.mk (fun u => whole_any W H D X Y rw rh A u hX hY h1.1 h1.2.1)
      by_cases hw : whl W H X Y rw rh = true
      · have hd := of_decide_eq_true hw
        have C4 := Hid.mk (fun u => belongs_any p X Y rw rh u (by have := h1.1; omega) (by have := h1.1; omega))
        rw [hw] at C3
        rw [show hE W H D p X Y rw rh A = 0 by unfold hE; rw [if_pos e1, if_pos ⟨hp, hw⟩], if_pos rfl]
        clear e1 h1 hp hw hd
        go_enter Try.func34, Try.ntmps34
        go_wp2_with (first | (go_at_call 10; rw [← EW.out]; refine (C.out _).mono ?_; rintro e w2 ⟨rfl, hk2⟩; obtain ⟨⟨c0, c1, c2, c3⟩, _⟩ := four (hk2.heap HN.out.1 (by simp)); obtain ⟨⟨r0, r1, r2, r3⟩, _⟩ := four (hk2.heap HN.out.2.1 (by simp))) | (go_at_call 40; refine (C2.out _).mono ?_; rintro e w3 ⟨rfl, hk3⟩; obtain ⟨⟨d0, d1, d2, d3⟩, _⟩ := four ((hk2.trans hk3).heap HN.out.1 (by simp)); obtain ⟨⟨s0, s1, s2, s3⟩, _⟩ := four ((hk2.trans hk3).heap HN.out.2.1 (by simp))) | (go_at_call 55; refine (C3.out _).mono ?_; rintro e w4 ⟨rfl, hk4⟩; obtain ⟨⟨t0, t1, t2, t3⟩, _⟩ := four (((hk2.trans hk3).trans hk4).heap HN.out.2.1 (by simp))) | (go_at_call 56; refine (C4.out _).mono ?_; rintro e w5 ⟨rfl, hk5⟩; have HR := Hid.mk ((((hk2.trans hk3).trans hk4).trans hk5).heap HN.out.2.2.1 (by simp)); obtain ⟨⟨z0, z1, z2, z3⟩, f0, f1, f2, f3⟩ := four HR.out; have KK := Hid.mk (HN.out.2.2.2.trans (((hk2.trans hk3).trans hk4).trans hk5))))
        have s4 := set4 (.int .i64 (bX p X)) (.int .i64 Y) (.int .i64 (bW p rw)) (.int .i64 rh) HR.out
        refine bodyPost_ret (v := .tuple #[rcv (bX p X) Y (bW p rw) rh, .int .i64 0]) ?_ rfl ⟨rfl, KK.out.step s4.2 (fun x hx => by simp at hx; subst hx; exact .inr (by omega))⟩
        exact results_two rfl _ _ (w.heap.size + 1 + 1) 51 _ (0, 0) _ _ rfl s4.1 Try.underlying51 Try.info51 rfl
      · have hw2 : whl W H X Y rw rh = false := by simpa using hw
        rw [hw2] at C3
        rw [show hE W H D p X Y rw rh A = 65 by unfold hE; rw [if_pos e1, if_neg (fun h => hw h.2)], if_neg (by decide)]
        clear e1 h1 hp hw hw2
        go_enter Try.func34, Try.ntmps34
        go_wp2_with (first | (go_at_call 10; rw [← EW.out]; refine (C.out _).mono ?_; rintro e w2 ⟨rfl, hk2⟩; obtain ⟨⟨c0, c1, c2, c3⟩, _⟩ := four (hk2.heap HN.out.1 (by simp)); obtain ⟨⟨r0, r1, r2, r3⟩, _⟩ := four (hk2.heap HN.out.2.1 (by simp))) | (go_at_call 40; refine (C2.out _).mono ?_; rintro e w3 ⟨rfl, hk3⟩; obtain ⟨⟨d0, d1, d2, d3⟩, _⟩ := four ((hk2.trans hk3).heap HN.out.1 (by simp)); obtain ⟨⟨s0, s1, s2, s3⟩, _⟩ := four ((hk2.trans hk3).heap HN.out.2.1 (by simp))) | (go_at_call 55; refine (C3.out _).mono ?_; rintro e w4 ⟨rfl, hk4⟩; obtain ⟨⟨t0, t1, t2, t3⟩, _⟩ := four (((hk2.trans hk3).trans hk4).heap HN.out.2.1 (by simp)); have HR := Hid.mk (((hk2.trans hk3).trans hk4).heap HN.out.2.2.1 (by simp)); obtain ⟨⟨z0, z1, z2, z3⟩, f0, f1, f2, f3⟩ := four HR.out; have KK := Hid.mk (HN.out.2.2.2.trans ((hk2.trans hk3).trans hk4))) )
        have s4 := set4 (.int .i64 0) (.int .i64 0) (.int .i64 0) (.int .i64 0) HR.out
        refine bodyPost_ret (v := .tuple #[rcv 0 0 0 0, .int .i64 65]) ?_ rfl ⟨rfl, KK.out.step s4.2 (fun x hx => by simp at hx; subst hx; exact .inr (by omega))⟩
        exact results_two rfl _ _ (w.heap.size + 1 + 1) 51 _ (0, 0) _ _ rfl s4.1 Try.underlying51 Try.info51 rfl
    · rw [decide_eq_false hp] at C2
      rw [show hE W H D p X Y rw rh A = 65 by unfold hE; rw [if_pos e1, if_neg (fun h => hp h.1)], if_neg (by decide)]
      clear e1 h1 hp
      go_enter Try.func34, Try.ntmps34
      go_wp2_with (first | (go_at_call 10; rw [← EW.out]; refine (C.out _).mono ?_; rintro e w2 ⟨rfl, hk2⟩; obtain ⟨⟨c0, c1, c2, c3⟩, _⟩ := four (hk2.heap HN.out.1 (by simp)); obtain ⟨⟨r0, r1, r2, r3⟩, _⟩ := four (hk2.heap HN.out.2.1 (by simp))) | (go_at_call 40; refine (C2.out _).mono ?_; rintro e w3 ⟨rfl, hk3⟩; obtain ⟨⟨d0, d1, d2, d3⟩, _⟩ := four ((hk2.trans hk3).heap HN.out.1 (by simp)); obtain ⟨⟨s0, s1, s2, s3⟩, _⟩ := four ((hk2.trans hk3).heap HN.out.2.1 (by simp)); have HR := Hid.mk ((hk2.trans hk3).heap HN.out.2.2.1 (by simp)); obtain ⟨⟨z0, z1, z2, z3⟩, f0, f1, f2, f3⟩ := four HR.out; have KK := Hid.mk (HN.out.2.2.2.trans (hk2.trans hk3))) )
      have s4 := set4 (.int .i64 0) (.int .i64 0) (.int .i64 0) (.int .i64 0) HR.out
      refine bodyPost_ret (v := .tuple #[rcv 0 0 0 0, .int .i64 65]) ?_ rfl ⟨rfl, KK.out.step s4.2 (fun x hx => by simp at hx; subst hx; exact .inr (by omega))⟩
      exact results_two rfl _ _ (w.heap.size + 1 + 1) 51 _ (0, 0) _ _ rfl s4.1 Try.underlying51 Try.info51 rfl
  · rw [e1] at C
    rw [show hE W H D p X Y rw rh A = 61 by unfold hE; rw [e1]; rfl, if_neg (by decide)]
    clear e1 h1
    go_enter Try.func34, Try.ntmps34
    go_wp2_with (first | (go_at_call 10; rw [← EW.out]; refine (C.out _).mono ?_; rintro e w2 ⟨rfl, hk2⟩; obtain ⟨⟨c0, c1, c2, c3⟩, _⟩ := four (hk2.heap HN.out.1 (by simp)); obtain ⟨⟨r0, r1, r2, r3⟩, _⟩ := four (hk2.heap HN.out.2.1 (by simp)); have HR := Hid.mk ((hk2).heap HN.out.2.2.1 (by simp)); obtain ⟨⟨z0, z1, z2, z3⟩, f0, f1, f2, f3⟩ := four HR.out; have KK := Hid.mk (HN.out.2.2.2.trans (hk2))) )
    have s4 := set4 (.int .i64 0) (.int .i64 0) (.int .i64 0) (.int .i64 0) HR.out
    refine bodyPost_ret (v := .tuple #[rcv 0 0 0 0, .int .i64 61]) ?_ rfl ⟨rfl, KK.out.step s4.2 (fun x hx => by simp at hx; subst hx; exact .inr (by omega))⟩
    exact results_two rfl _ _ (w.heap.size + 1 + 1) 51 _ (0, 0) _ _ rfl s4.1 Try.underlying51 Try.info51 rfl
end Go.Proofs.Ythihennifigchaa
