import Derived.Test.YthhcihcgefeblaaDoorF7
import Derived.Test.YthhcihcgefeblaaDoorF9
import Derived.Test.YthhcihcgefeblaaDoorFB
import Derived.Test.YthhcihcgefeblaaDoorFC
import Derived.Test.YthhcihcgefeblaaDoorFF
import Derived.Test.YthhcihcgefeblaaDoorFG
namespace Go.Proofs.YthhcihcgefeblaaDoor
open Go.RowKit

theorem makes_any (W w : World) (A : Nat) (s : Wo) (b : Nat) (kd on a bb cc : Int) (T : ByteArray) (h : At W w A s) (ha : Alike s) (hs : Small s b) (hc : ∀ k, s.c k < 99999999) (p0 : 0 < s.c 0) (hb : b ≤ 70000000) (o0 : -9223372036854775808 ≤ on) (o1 : on ≤ 9223372036854775807) (hT : T.size ≤ 10000000) :
    Calls Tryd.prog 46 #[.pointer (some ⟨A, 0, none⟩), .agg (opc kd on a bb cc T)] w fun e w' => SPost W A s (b + 50) e w' := by
  by_cases h7 : kd = 7
  · exact makes_K7 W w A s b kd on a bb cc T (Hid.mk h7) h ha hs hc
  by_cases h8 : kd = 8
  · exact makes_K8 W w A s b kd on a bb cc T (Hid.mk h8) h ha hs hc (by rw [← ha.c01]; exact p0) hb o0 o1
  by_cases h9 : kd = 9
  · exact makes_K9 W w A s b kd on a bb cc T (Hid.mk h9) h ha hs hc hT
  by_cases h10 : kd = 10
  · exact makes_K10 W w A s b kd on a bb cc T (Hid.mk h10) h ha hs hc
  · exact makes_no W w A s b kd on a bb cc T h7 h8 h9 h10 h ha hs hc

set_option maxHeartbeats 8000000 in
set_option maxRecDepth 1000000 in
theorem step_no (W w : World) (A : Nat) (s : Wo) (b : Nat) (kd on a bb cc : Int) (T : ByteArray) (n1 : kd ≠ 1) (n2 : kd ≠ 2) (n3 : kd ≠ 3) (n4 : kd ≠ 4) (n5 : kd ≠ 5) (n6 : kd ≠ 6) (n11 : kd ≠ 11) (n12 : kd ≠ 12) (h : At W w A s) (ha : Alike s) (hs : Small s b) (hc : ∀ k, s.c k < 99999999) (hb : b ≤ 70000000) (p0 : 0 < s.c 0) (p2 : 0 < s.c 2) (p4 : 0 < s.c 4) (o0 : -9223372036854775808 ≤ on) (o1 : on ≤ 9223372036854775807) (hT : T.size ≤ 10000000) :
    Calls Tryd.prog 13 #[.pointer (some ⟨A, 0, none⟩), .agg (opc kd on a bb cc T)] w fun e w' => SPost W A s (b + 50) e w' := by
  have Hc := Hid.mk hc
  have dd1 : Hid ((kd == 1) = false) := Hid.mk (by simp; exact n1)
  have dd2 : Hid ((kd == 2) = false) := Hid.mk (by simp; exact n2)
  have dd3 : Hid ((kd == 3) = false) := Hid.mk (by simp; exact n3)
  have dd4 : Hid ((kd == 4) = false) := Hid.mk (by simp; exact n4)
  have dd5 : Hid ((kd == 5) = false) := Hid.mk (by simp; exact n5)
  have dd6 : Hid ((kd == 6) = false) := Hid.mk (by simp; exact n6)
  have dd11 : Hid ((kd == 11) = false) := Hid.mk (by simp; exact n11)
  have dd12 : Hid ((kd == 12) = false) := Hid.mk (by simp; exact n12)
  clear hc n1 n2 n3 n4 n5 n6 n11 n12
  have h1 : At W (w.alloc (.cells (opc kd on a bb cc T) 37)) A (s.op w.heap.size kd on a bb cc T) := h.hold (r := obj w.heap.size (.cells (opc kd on a bb cc T) 37 (0, 0))) ((Kept.refl [] w).alloc (.cells (opc kd on a bb cc T) 37)) (heap_alloc_new w _) (by simp [obj])
  obtain ⟨q0, q1, q2, q3, q4, q5⟩ := h1.opc (Still.refl _)
  have k0 := h1.fld (Still.refl _) 0 (by omega)
  obtain ⟨a0, c0, e0⟩ := h.form 0 (by omega)
  obtain ⟨a2, c2, e2⟩ := h.form 2 (by omega)
  obtain ⟨a4, c4, e4⟩ := h.form 4 (by omega)
  have E0 : Hid ((s.op w.heap.size kd on a bb cc T).S 0 = .slice a0 (s.c 0) c0) := Hid.mk e0
  have E2 : Hid ((s.op w.heap.size kd on a bb cc T).S 2 = .slice a2 (s.c 2) c2) := Hid.mk e2
  have E4 : Hid ((s.op w.heap.size kd on a bb cc T).S 4 = .slice a4 (s.c 4) c4) := Hid.mk e4
  rw [E0.out] at k0
  have H1 := Hid.mk h1
  have Ha := Hid.mk ha
  have Hs := Hid.mk hs
  have m0 : (0 : Int) < (s.c 0 : Int) := by omega
  have m2 : (0 : Int) < (s.c 2 : Int) := by omega
  have m4 : (0 : Int) < (s.c 4 : Int) := by omega
  have n0 := hs.c 0
  have n2 := hs.c 2
  have n4 := hs.c 4
  obtain ⟨i, hi, hil⟩ := pick_nat on (s.c 0) p0
  obtain ⟨k, hk, hkl⟩ := pick_nat on (s.c 2) p2
  obtain ⟨x, hx, hxl⟩ := pick_nat (on.tdiv 3) (s.c 4) p4
  have Hi := Hid.mk hi
  have Hk := Hid.mk hk
  have Hx := Hid.mk hx
  obtain ⟨d0, d1⟩ := tdiv3 on o0 o1
  have hw3 : IntKind.i64.wrap (on.tdiv 3) = on.tdiv 3 := by rw [IntKind.wrap_i64]; omega
  clear h1 h e0 e2 e4 ha hs hi hk hx
  go_enter Tryd.func13, Tryd.ntmps13
  go_wp2_with fail
  generalize w.alloc (.cells (opc kd on a bb cc T) 37) = w1 at *
  generalize w.heap.size = O at *
  go_quiet ((go_at_call 15; refine Calls.quiet_of_same (pick_any _ _ _ ?_ ?_ ?_); assumption; assumption; assumption))
  rw [Hi.out]
  have H2 := Hid.mk (H1.out.keep ((Kept.refl _ _).drewN nq))
  clear H1 q0 q1 q2 q3 q4 q5 k0
  generalize w1.drewN nq = w2 at *
  clear nq
  obtain ⟨q0, q1, q2, q3, q4, q5⟩ := H2.out.opc (Still.refl _)
  have k2 := H2.out.fld (Still.refl _) 2 (by omega)
  rw [E2.out] at k2
  go_wp2_with fail
  go_quiet ((go_at_call 15; refine Calls.quiet_of_same (pick_any _ _ _ ?_ ?_ ?_); assumption; assumption; assumption))
  rw [Hk.out]
  have H3 := Hid.mk (H2.out.keep ((Kept.refl _ _).drewN nq))
  clear H2 q0 q1 q2 q3 q4 q5 k2
  generalize w2.drewN nq = w3 at *
  clear nq
  obtain ⟨q0, q1, q2, q3, q4, q5⟩ := H3.out.opc (Still.refl _)
  have k4 := H3.out.fld (Still.refl _) 4 (by omega)
  rw [E4.out] at k4
  go_wp2_with fail
  go_quiet ((go_at_call 15; refine Calls.quiet_of_same (pick_any _ _ _ ?_ ?_ ?_); assumption; assumption; assumption))
  rw [Hx.out]
  have H4 := Hid.mk (H3.out.keep ((Kept.refl _ _).drewN nq))
  clear H3 q0 q1 q2 q3 q4 q5 k4
  generalize w3.drewN nq = w4 at *
  clear nq
  obtain ⟨q0, q1, q2, q3, q4, q5⟩ := H4.out.opc (Still.refl _)
  have e1 := dd1.out
  have e2 := dd2.out
  have e3 := dd3.out
  have e4 := dd4.out
  have e5 := dd5.out
  have e6 := dd6.out
  have e11 := dd11.out
  have e12 := dd12.out
  go_wp2_with (go_at_call 46; refine (makes_any W _ A _ b kd on a bb cc T H4.out (alike_op Ha.out) (small_op Hs.out) Hc.out p0 hb o0 o1 hT).mono ?_; intro e w5 h5; obtain ⟨rfl, h5⟩ := h5; have H5 := Hid.mk h5; clear h5)
  go_ret
  exact ⟨rfl, H5.out⟩

theorem step_any (W w : World) (A : Nat) (s : Wo) (b : Nat) (kd on a bb cc : Int) (T : ByteArray) (h : At W w A s) (ha : Alike s) (hs : Small s b) (hTab : Tab W) (hc : ∀ k, s.c k < 99999999) (hb : b ≤ 70000000) (p0 : 0 < s.c 0) (p2 : 0 < s.c 2) (p4 : 0 < s.c 4) (o0 : -9223372036854775808 ≤ on) (o1 : on ≤ 9223372036854775807) (u0 : -9223372036854775808 ≤ a) (u1 : a ≤ 9223372036854775807) (hT : T.size ≤ 10000000) :
    Calls Tryd.prog 13 #[.pointer (some ⟨A, 0, none⟩), .agg (opc kd on a bb cc T)] w fun e w' => SPost W A s (b + 50) e w' := by
  by_cases n1 : kd = 1
  · exact step_K1 W w A s b kd on a bb cc T (Hid.mk n1) h ha hs p0 p2 p4 o0 o1
  by_cases n2 : kd = 2
  · exact step_K2 W w A s b kd on a bb cc T (Hid.mk n2) h ha hs p0 p2 p4 o0 o1
  by_cases n3 : kd = 3
  · exact step_K3 W w A s b kd on a bb cc T (Hid.mk n3) h ha hs (by omega) p0 p2 p4 o0 o1
  by_cases n4 : kd = 4
  · exact step_K4 W w A s b kd on a bb cc T (Hid.mk n4) h ha hs p0 p2 p4 o0 o1
  by_cases n5 : kd = 5
  · exact step_K5 W w A s b kd on a bb cc T (Hid.mk n5) h ha hs hTab (by omega) p0 p2 p4 o0 o1
  by_cases n6 : kd = 6
  · exact step_K6 W w A s b kd on a bb cc T (Hid.mk n6) h ha hs hTab p0 p2 p4 o0 o1
  by_cases n11 : kd = 11
  · exact step_K11 W w A s b kd on a bb cc T (Hid.mk n11) h ha hs p0 p2 p4 o0 o1
  by_cases n12 : kd = 12
  · exact step_K12 W w A s b kd on a bb cc T (Hid.mk n12) h ha hs p0 p2 p4 o0 o1 u0 u1
  · exact step_no W w A s b kd on a bb cc T n1 n2 n3 n4 n5 n6 n11 n12 h ha hs hc hb p0 p2 p4 o0 o1 hT
end Go.Proofs.YthhcihcgefeblaaDoor
