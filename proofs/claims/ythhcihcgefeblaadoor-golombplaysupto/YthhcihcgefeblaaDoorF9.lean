import Derived.Test.YthhcihcgefeblaaDoorF8
namespace Go.Proofs.YthhcihcgefeblaaDoor
open Go.RowKit

set_option maxHeartbeats 8000000 in
set_option maxRecDepth 1000000 in
theorem step_K4 (W w : World) (A : Nat) (s : Wo) (b : Nat) (kd on a bb cc : Int) (T : ByteArray) (hkd : Hid (kd = 4)) (h : At W w A s) (ha : Alike s) (hs : Small s b) (p0 : 0 < s.c 0) (p2 : 0 < s.c 2) (p4 : 0 < s.c 4) (o0 : -9223372036854775808 ≤ on) (o1 : on ≤ 9223372036854775807) :
    Calls Tryd.prog 13 #[.pointer (some ⟨A, 0, none⟩), .agg (opc kd on a bb cc T)] w fun e w' => SPost W A s (b + 50) e w' := by
  have h1 : At W (w.alloc (.cells (opc kd on a bb cc T) 37)) A (s.op w.heap.size kd on a bb cc T) := h.hold (r := obj w.heap.size (.cells (opc kd on a bb cc T) 37 (0, 0))) ((Kept.refl [] w).alloc (.cells (opc kd on a bb cc T) 37)) (heap_alloc_new w _) (by simp [obj])
  obtain ⟨q0, q1, q2, q3, q4, q5⟩ := h1.opc (Still.refl _)
  have k0 := h1.fld (Still.refl _) 0 (by omega)
  obtain ⟨a0, c0, e0⟩ := h.form 0 (by omega)
  obtain ⟨a2, c2, e2⟩ := h.form 2 (by omega)
  obtain ⟨a4, c4, e4⟩ := h.form 4 (by omega)
  have E0 : Hid ((s.op w.heap.size kd on a bb cc T).S 0 = .slice a0 (s.c 0) c0) := Hid.mk e0
  have E2 : Hid ((s.op w.heap.size kd on a bb cc T).S 2 = .slice a2 (s.c 2) c2) := Hid.mk e2
  have E4 : Hid ((s.op w.heap.size kd on a bb cc T).S 4 = .slice a4 (s.c 4) c4) := Hid.mk e4
  rw [E0.out] at k0
  have H1 := Hid.mk h1
  have Ha := Hid.mk ha
  have Hs := Hid.mk hs
  have m0 : (0 : Int) < (s.c 0 : Int) := by omega
  have m2 : (0 : Int) < (s.c 2 : Int) := by omega
  have m4 : (0 : Int) < (s.c 4 : Int) := by omega
  have n0 := hs.c 0
  have n2 := hs.c 2
  have n4 := hs.c 4
  obtain ⟨i, hi, hil⟩ := pick_nat on (s.c 0) p0
  obtain ⟨k, hk, hkl⟩ := pick_nat on (s.c 2) p2
  obtain ⟨x, hx, hxl⟩ := pick_nat (on.tdiv 3) (s.c 4) p4
  have Hi := Hid.mk hi
  have Hk := Hid.mk hk
  have Hx := Hid.mk hx
  obtain ⟨d0, d1⟩ := tdiv3 on o0 o1
  have hw3 : IntKind.i64.wrap (on.tdiv 3) = on.tdiv 3 := by rw [IntKind.wrap_i64]; omega
  clear h1 h e0 e2 e4 ha hs hi hk hx
  go_enter Tryd.func13, Tryd.ntmps13
  go_wp2_with fail
  generalize w.alloc (.cells (opc kd on a bb cc T) 37) = w1 at *
  generalize w.heap.size = O at *
  go_quiet ((go_at_call 15; refine Calls.quiet_of_same (pick_any _ _ _ ?_ ?_ ?_); assumption; assumption; assumption))
  rw [Hi.out]
  have H2 := Hid.mk (H1.out.keep ((Kept.refl _ _).drewN nq))
  clear H1 q0 q1 q2 q3 q4 q5 k0
  generalize w1.drewN nq = w2 at *
  clear nq
  obtain ⟨q0, q1, q2, q3, q4, q5⟩ := H2.out.opc (Still.refl _)
  have k2 := H2.out.fld (Still.refl _) 2 (by omega)
  rw [E2.out] at k2
  go_wp2_with fail
  go_quiet ((go_at_call 15; refine Calls.quiet_of_same (pick_any _ _ _ ?_ ?_ ?_); assumption; assumption; assumption))
  rw [Hk.out]
  have H3 := Hid.mk (H2.out.keep ((Kept.refl _ _).drewN nq))
  clear H2 q0 q1 q2 q3 q4 q5 k2
  generalize w2.drewN nq = w3 at *
  clear nq
  obtain ⟨q0, q1, q2, q3, q4, q5⟩ := H3.out.opc (Still.refl _)
  have k4 := H3.out.fld (Still.refl _) 4 (by omega)
  rw [E4.out] at k4
  go_wp2_with fail
  go_quiet ((go_at_call 15; refine Calls.quiet_of_same (pick_any _ _ _ ?_ ?_ ?_); assumption; assumption; assumption))
  rw [Hx.out]
  have H4 := Hid.mk (H3.out.keep ((Kept.refl _ _).drewN nq))
  clear H3 q0 q1 q2 q3 q4 q5 k4
  generalize w3.drewN nq = w4 at *
  clear nq
  obtain ⟨q0, q1, q2, q3, q4, q5⟩ := H4.out.opc (Still.refl _)
  obtain rfl := hkd.out
  have k1 : Hid (k < s.c 3) := Hid.mk (by rw [← Ha.out.c23]; exact hkl)
  have ht : s.t 2 k ≤ 8 * (s.l 2 k).length := by
    have := (H4.out.rr k k1.out).2
    rw [Ha.out.l, Ha.out.t]
    exact this
  obtain ⟨Y, E, t', ht', hP, hQ⟩ := gget_both (s.l 2 k) (s.t 2 k) bb cc ht (Hs.out.l k)
  obtain ⟨G0, cp0, hS0, hG0⟩ := H4.out.ptrs 2 k (by omega) hkl
  obtain ⟨G1, cp1, hS1, hG1⟩ := H4.out.ptrs 3 k (by omega) k1.out
  have HE : Hid (∀ w' s', At W w' A s' → Still (s.op O 4 on a bb cc T) s' → (w'.cell? ⟨O, 2, none⟩ = some (.int .i64 a) ∧ w'.cell? ⟨O, 3, none⟩ = some (.int .i64 bb) ∧ w'.cell? ⟨O, 4, none⟩ = some (.int .i64 cc) ∧ w'.cell? ⟨A, 2, none⟩ = some (.slice (some ⟨G0, 0, none⟩) (s.c 2) cp0) ∧ w'.cell? ⟨A, 3, none⟩ = some (.slice (some ⟨G1, 0, none⟩) (s.c 3) cp1) ∧ w'.cell? ⟨G0, k, none⟩ = some (.pointer (some ⟨s.B 2 k, 0, none⟩)) ∧ w'.cell? ⟨G1, k, none⟩ = some (.pointer (some ⟨s.B 3 k, 0, none⟩)))) := Hid.mk (by
    intro w' s' h' hs'
    obtain ⟨_, _, r2, r3, r4, _⟩ := h'.opc hs'
    refine ⟨r2, r3, r4, ?_, ?_, hG0 _ _ h' hs', hG1 _ _ h' hs'⟩
    · rw [h'.fld hs' 2 (by omega), hS0]; rfl
    · rw [h'.fld hs' 3 (by omega), hS1]; rfl)
  clear hG0 hG1 hS0 hS1 ht
  have HP := Hid.mk hP
  have HQ := Hid.mk hQ
  have c1 : Hid (s.c 3 = s.c 2) := Hid.mk Ha.out.c23.symm
  rw [c1.out] at HE
  have Ht : Hid (t' ≤ 8 * (s.l 3 k).length) := Hid.mk (by rw [← Ha.out.l]; exact ht')
  clear hP hQ ht'
  clear q1 q2 q3 q4 q5
  have il : (k : Int) < (s.c 2 : Int) := by omega
  go_wp2_with fail
  have HD := Hid.mk (H4.out.keep ((Kept.refl _ _).drew))
  obtain ⟨z0, z1, z2, z3, z4, z5, z6⟩ := HE.out _ _ HD.out (Still.refl _)
  go_region_held_law (fun w' => w'.cell? ⟨O, 2, none⟩ = some (.int .i64 a) ∧ w'.cell? ⟨O, 3, none⟩ = some (.int .i64 bb) ∧ w'.cell? ⟨O, 4, none⟩ = some (.int .i64 cc) ∧ w'.cell? ⟨A, 2, none⟩ = some (.slice (some ⟨G0, 0, none⟩) (s.c 2) cp0) ∧ w'.cell? ⟨A, 3, none⟩ = some (.slice (some ⟨G1, 0, none⟩) (s.c 2) cp1) ∧ w'.cell? ⟨G0, k, none⟩ = some (.pointer (some ⟨s.B 2 k, 0, none⟩)) ∧ w'.cell? ⟨G1, k, none⟩ = some (.pointer (some ⟨s.B 3 k, 0, none⟩)))
      (first | exact ⟨z0, z1, z2, z3, z4, z5, z6⟩ | exact HE.out _ _ H5.out ((Still.refl _).upd ..) | assumption)
      (first
        | (go_at_call 25; refine (HP.out _ _ _ (HD.out.rd k hkl)).mono ?_; rintro e w5 ⟨rfl, hw5, hk5⟩; have H5 := Hid.mk (At.setR (V := s.V 2 k) (N := 0) (len := 0) (r := 0) HD.out k hkl hk5 hw5)))
  all_goals clear z0 z1 z2 z3 z4 z5 z6
  all_goals go_wp2_with fail
  all_goals have H6 := Hid.mk (H5.out.keep ((Kept.refl _ _).drew))
  all_goals obtain ⟨z0, z1, z2, z3, z4, z5, z6⟩ := HE.out _ _ H6.out ((Still.refl _).upd ..)
  all_goals go_region_held_law (fun w' => w'.cell? ⟨O, 2, none⟩ = some (.int .i64 a) ∧ w'.cell? ⟨O, 3, none⟩ = some (.int .i64 bb) ∧ w'.cell? ⟨O, 4, none⟩ = some (.int .i64 cc) ∧ w'.cell? ⟨A, 2, none⟩ = some (.slice (some ⟨G0, 0, none⟩) (s.c 2) cp0) ∧ w'.cell? ⟨A, 3, none⟩ = some (.slice (some ⟨G1, 0, none⟩) (s.c 2) cp1) ∧ w'.cell? ⟨G0, k, none⟩ = some (.pointer (some ⟨s.B 2 k, 0, none⟩)) ∧ w'.cell? ⟨G1, k, none⟩ = some (.pointer (some ⟨s.B 3 k, 0, none⟩)))
      (first | exact ⟨z0, z1, z2, z3, z4, z5, z6⟩ | exact HE.out _ _ H7.out ((Still.refl _).upd .. |>.upd ..) | assumption)
      (first
        | (go_at_call 40; refine (HQ.out _ _ _ (H6.out.isY (alike_op Ha.out) hkl)).mono ?_; rintro e w6 ⟨rfl, hw6, hk6⟩; have hw7 : RefR w6 (s.B 3 k) (s.V 3 k) (s.l 3 k) t' := (by rw [← Ha.out.l]; exact hw6); have H7 := Hid.mk (H6.out.getY (N' := 0) (len' := 0) (r' := 0) k1.out hk6 hw7 Ht.out)))
  all_goals go_wp2_with fail
  all_goals go_ret
  all_goals exact spost_pair (p := 2) (.inr (.inl rfl)) H7.out Ha.out Hs.out (by omega)
end Go.Proofs.YthhcihcgefeblaaDoor
