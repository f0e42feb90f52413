import Derived.Test.YthhcihcgefeblaaDoorF6
import Derived.Deep.RegionHeldLaw
namespace Go.Proofs.YthhcihcgefeblaaDoor
open Go.RowKit

set_option maxHeartbeats 8000000 in
set_option maxRecDepth 1000000 in
theorem step_K1 (W w : World) (A : Nat) (s : Wo) (b : Nat) (kd on a bb cc : Int) (T : ByteArray) (hkd : Hid (kd = 1)) (h : At W w A s) (ha : Alike s) (hs : Small s b) (p0 : 0 < s.c 0) (p2 : 0 < s.c 2) (p4 : 0 < s.c 4) (o0 : -9223372036854775808 ≤ on) (o1 : on ≤ 9223372036854775807) :
    Calls Tryd.prog 13 #[.pointer (some ⟨A, 0, none⟩), .agg (opc kd on a bb cc T)] w fun e w' => SPost W A s (b + 50) e w' := by
  have h1 : At W (w.alloc (.cells (opc kd on a bb cc T) 37)) A (s.op w.heap.size kd on a bb cc T) := h.hold (r := obj w.heap.size (.cells (opc kd on a bb cc T) 37 (0, 0))) ((Kept.refl [] w).alloc (.cells (opc kd on a bb cc T) 37)) (heap_alloc_new w _) (by simp [obj])
  obtain ⟨q0, q1, q2, q3, q4, q5⟩ := h1.opc (Still.refl _)
  have k0 := h1.fld (Still.refl _) 0 (by omega)
  obtain ⟨a0, c0, e0⟩ := h.form 0 (by omega)
  obtain ⟨a2, c2, e2⟩ := h.form 2 (by omega)
  obtain ⟨a4, c4, e4⟩ := h.form 4 (by omega)
  have E0 : Hid ((s.op w.heap.size kd on a bb cc T).S 0 = .slice a0 (s.c 0) c0) := Hid.mk e0
  have E2 : Hid ((s.op w.heap.size kd on a bb cc T).S 2 = .slice a2 (s.c 2) c2) := Hid.mk e2
  have E4 : Hid ((s.op w.heap.size kd on a bb cc T).S 4 = .slice a4 (s.c 4) c4) := Hid.mk e4
  rw [E0.out] at k0
  have H1 := Hid.mk h1
  have Ha := Hid.mk ha
  have Hs := Hid.mk hs
  have m0 : (0 : Int) < (s.c 0 : Int) := by omega
  have m2 : (0 : Int) < (s.c 2 : Int) := by omega
  have m4 : (0 : Int) < (s.c 4 : Int) := by omega
  have n0 := hs.c 0
  have n2 := hs.c 2
  have n4 := hs.c 4
  obtain ⟨i, hi, hil⟩ := pick_nat on (s.c 0) p0
  obtain ⟨k, hk, hkl⟩ := pick_nat on (s.c 2) p2
  obtain ⟨x, hx, hxl⟩ := pick_nat (on.tdiv 3) (s.c 4) p4
  have Hi := Hid.mk hi
  have Hk := Hid.mk hk
  have Hx := Hid.mk hx
  obtain ⟨d0, d1⟩ := tdiv3 on o0 o1
  have hw3 : IntKind.i64.wrap (on.tdiv 3) = on.tdiv 3 := by rw [IntKind.wrap_i64]; omega
  clear h1 h e0 e2 e4 ha hs hi hk hx
  go_enter Tryd.func13, Tryd.ntmps13
  go_wp2_with fail
  generalize w.alloc (.cells (opc kd on a bb cc T) 37) = w1 at *
  generalize w.heap.size = O at *
  go_quiet ((go_at_call 15; refine Calls.quiet_of_same (pick_any _ _ _ ?_ ?_ ?_); assumption; assumption; assumption))
  rw [Hi.out]
  have H2 := Hid.mk (H1.out.keep ((Kept.refl _ _).drewN nq))
  clear H1 q0 q1 q2 q3 q4 q5 k0
  generalize w1.drewN nq = w2 at *
  clear nq
  obtain ⟨q0, q1, q2, q3, q4, q5⟩ := H2.out.opc (Still.refl _)
  have k2 := H2.out.fld (Still.refl _) 2 (by omega)
  rw [E2.out] at k2
  go_wp2_with fail
  go_quiet ((go_at_call 15; refine Calls.quiet_of_same (pick_any _ _ _ ?_ ?_ ?_); assumption; assumption; assumption))
  rw [Hk.out]
  have H3 := Hid.mk (H2.out.keep ((Kept.refl _ _).drewN nq))
  clear H2 q0 q1 q2 q3 q4 q5 k2
  generalize w2.drewN nq = w3 at *
  clear nq
  obtain ⟨q0, q1, q2, q3, q4, q5⟩ := H3.out.opc (Still.refl _)
  have k4 := H3.out.fld (Still.refl _) 4 (by omega)
  rw [E4.out] at k4
  go_wp2_with fail
  go_quiet ((go_at_call 15; refine Calls.quiet_of_same (pick_any _ _ _ ?_ ?_ ?_); assumption; assumption; assumption))
  rw [Hx.out]
  have H4 := Hid.mk (H3.out.keep ((Kept.refl _ _).drewN nq))
  clear H3 q0 q1 q2 q3 q4 q5 k4
  generalize w3.drewN nq = w4 at *
  clear nq
  obtain ⟨q0, q1, q2, q3, q4, q5⟩ := H4.out.opc (Still.refl _)
  obtain rfl := hkd.out
  obtain ⟨f1, f2, hf1, hf2⟩ := fold_both a
  obtain ⟨g1, g2, hg1, hg2⟩ := unfold_both a
  have F1 := Hid.mk hf1
  have F2 := Hid.mk hf2
  have G1 := Hid.mk hg1
  have G2 := Hid.mk hg2
  clear hf1 hf2 hg1 hg2
  go_wp2_with (first
    | (go_at_call 16; refine (F1.out _).mono ?_; rintro e w5 ⟨rfl, rfl⟩)
    | (go_at_call 36; refine (F2.out _).mono ?_; rintro e w5 ⟨rfl, rfl⟩)
    | (go_at_call 17; refine (G1.out _).mono ?_; rintro e w5 ⟨rfl, rfl⟩)
    | (go_at_call 37; refine (G2.out _).mono ?_; rintro e w5 ⟨rfl, rfl⟩))
  all_goals go_ret
  all_goals exact spost_same H4.out Ha.out Hs.out

set_option maxHeartbeats 8000000 in
set_option maxRecDepth 1000000 in
theorem step_K2 (W w : World) (A : Nat) (s : Wo) (b : Nat) (kd on a bb cc : Int) (T : ByteArray) (hkd : Hid (kd = 2)) (h : At W w A s) (ha : Alike s) (hs : Small s b) (p0 : 0 < s.c 0) (p2 : 0 < s.c 2) (p4 : 0 < s.c 4) (o0 : -9223372036854775808 ≤ on) (o1 : on ≤ 9223372036854775807) :
    Calls Tryd.prog 13 #[.pointer (some ⟨A, 0, none⟩), .agg (opc kd on a bb cc T)] w fun e w' => SPost W A s (b + 50) e w' := by
  have h1 : At W (w.alloc (.cells (opc kd on a bb cc T) 37)) A (s.op w.heap.size kd on a bb cc T) := h.hold (r := obj w.heap.size (.cells (opc kd on a bb cc T) 37 (0, 0))) ((Kept.refl [] w).alloc (.cells (opc kd on a bb cc T) 37)) (heap_alloc_new w _) (by simp [obj])
  obtain ⟨q0, q1, q2, q3, q4, q5⟩ := h1.opc (Still.refl _)
  have k0 := h1.fld (Still.refl _) 0 (by omega)
  obtain ⟨a0, c0, e0⟩ := h.form 0 (by omega)
  obtain ⟨a2, c2, e2⟩ := h.form 2 (by omega)
  obtain ⟨a4, c4, e4⟩ := h.form 4 (by omega)
  have E0 : Hid ((s.op w.heap.size kd on a bb cc T).S 0 = .slice a0 (s.c 0) c0) := Hid.mk e0
  have E2 : Hid ((s.op w.heap.size kd on a bb cc T).S 2 = .slice a2 (s.c 2) c2) := Hid.mk e2
  have E4 : Hid ((s.op w.heap.size kd on a bb cc T).S 4 = .slice a4 (s.c 4) c4) := Hid.mk e4
  rw [E0.out] at k0
  have H1 := Hid.mk h1
  have Ha := Hid.mk ha
  have Hs := Hid.mk hs
  have m0 : (0 : Int) < (s.c 0 : Int) := by omega
  have m2 : (0 : Int) < (s.c 2 : Int) := by omega
  have m4 : (0 : Int) < (s.c 4 : Int) := by omega
  have n0 := hs.c 0
  have n2 := hs.c 2
  have n4 := hs.c 4
  obtain ⟨i, hi, hil⟩ := pick_nat on (s.c 0) p0
  obtain ⟨k, hk, hkl⟩ := pick_nat on (s.c 2) p2
  obtain ⟨x, hx, hxl⟩ := pick_nat (on.tdiv 3) (s.c 4) p4
  have Hi := Hid.mk hi
  have Hk := Hid.mk hk
  have Hx := Hid.mk hx
  obtain ⟨d0, d1⟩ := tdiv3 on o0 o1
  have hw3 : IntKind.i64.wrap (on.tdiv 3) = on.tdiv 3 := by rw [IntKind.wrap_i64]; omega
  clear h1 h e0 e2 e4 ha hs hi hk hx
  go_enter Tryd.func13, Tryd.ntmps13
  go_wp2_with fail
  generalize w.alloc (.cells (opc kd on a bb cc T) 37) = w1 at *
  generalize w.heap.size = O at *
  go_quiet ((go_at_call 15; refine Calls.quiet_of_same (pick_any _ _ _ ?_ ?_ ?_); assumption; assumption; assumption))
  rw [Hi.out]
  have H2 := Hid.mk (H1.out.keep ((Kept.refl _ _).drewN nq))
  clear H1 q0 q1 q2 q3 q4 q5 k0
  generalize w1.drewN nq = w2 at *
  clear nq
  obtain ⟨q0, q1, q2, q3, q4, q5⟩ := H2.out.opc (Still.refl _)
  have k2 := H2.out.fld (Still.refl _) 2 (by omega)
  rw [E2.out] at k2
  go_wp2_with fail
  go_quiet ((go_at_call 15; refine Calls.quiet_of_same (pick_any _ _ _ ?_ ?_ ?_); assumption; assumption; assumption))
  rw [Hk.out]
  have H3 := Hid.mk (H2.out.keep ((Kept.refl _ _).drewN nq))
  clear H2 q0 q1 q2 q3 q4 q5 k2
  generalize w2.drewN nq = w3 at *
  clear nq
  obtain ⟨q0, q1, q2, q3, q4, q5⟩ := H3.out.opc (Still.refl _)
  have k4 := H3.out.fld (Still.refl _) 4 (by omega)
  rw [E4.out] at k4
  go_wp2_with fail
  go_quiet ((go_at_call 15; refine Calls.quiet_of_same (pick_any _ _ _ ?_ ?_ ?_); assumption; assumption; assumption))
  rw [Hx.out]
  have H4 := Hid.mk (H3.out.keep ((Kept.refl _ _).drewN nq))
  clear H3 q0 q1 q2 q3 q4 q5 k4
  generalize w3.drewN nq = w4 at *
  clear nq
  obtain ⟨q0, q1, q2, q3, q4, q5⟩ := H4.out.opc (Still.refl _)
  obtain rfl := hkd.out
  obtain ⟨f1, f2, hf1, hf2⟩ := cost_both a bb cc
  have F1 := Hid.mk hf1
  have F2 := Hid.mk hf2
  clear hf1 hf2
  go_wp2_with (first
    | (go_at_call 20; refine (F1.out _).mono ?_; rintro e w5 ⟨rfl, rfl⟩)
    | (go_at_call 38; refine (F2.out _).mono ?_; rintro e w5 ⟨rfl, hk5⟩; have H5 := Hid.mk (H4.out.keep hk5); clear H4 q0 q1 q2 q3 q4 q5))
  all_goals go_ret
  all_goals exact spost_same H5.out Ha.out Hs.out
end Go.Proofs.YthhcihcgefeblaaDoor
