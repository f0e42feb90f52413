import Derived.Test.YtoghkbajdljheaaZ9
namespace Go.Proofs.Ytoghkbajdljheaa
open Go.RowKit

set_option maxHeartbeats 4000000 in
set_option maxRecDepth 1000000 in
theorem step_left0 (W w : World) (A : Nat) (s : St) (m : Nat) (X : Nat → Rsc) (c : Nat) (on n v : Int) (ao : Option Addr) (mm cap : Nat) (h : Stt W w A s m X) (ok : Ok s c) (hp : pick on 2 = 0)
    (o0 : -9223372036854775808 ≤ on) (o1 : on ≤ 9223372036854775807) :
    Calls Try.prog 13 #[.pointer (some ⟨A, 0, none⟩), .agg (opc 8 on n v ao mm cap)] w fun e w' => e = .returned (.bool true) ∧ ∃ s', Stt W w' A s' m X ∧ Ok s' (c + 1) := by
  have HS0 := Hid.mk (h.push (r := obj w.heap.size (.cells (opc 8 on n v ao mm cap) 45 (0, 0))) ((Kept.refl [] w).alloc (.cells (opc 8 on n v ao mm cap) 45)) (heap_alloc_new w _) (by simp [obj]))
  obtain ⟨q0, q1, q2, q3, q4⟩ := HS0.out.op
  have Hp := Hid.mk hp
  have Hok := Hid.mk ok
  have hl2 := ok.l2 0 (by omega)
  have ht2 := ok.t2 0 (by omega)
  have Hll := Hid.mk (ok.l 0 (by omega))
  have Hl2 := Hid.mk hl2
  have Ht2 := Hid.mk ht2
  have htl := (h.rd 0 (by omega)).2.2.2.1
  obtain ⟨D, hD⟩ : ∃ D : Int, D = 8 * ((s.l 0).length : Int) - (s.t 0 : Int) := ⟨_, rfl⟩
  have HD := Hid.mk hD
  have Htl := Hid.mk htl
  clear hD
  clear h ok hp hl2 ht2 htl
  go_enter Try.func13, Try.ntmps13
  go_wp2_with fail
  generalize w.alloc (.cells (opc 8 on n v ao mm cap) 45) = w1 at *
  generalize w.heap.size = O at *
  refine (pick_any on 2 _ o0 o1 (by omega)).mono ?_
  rintro e w2 ⟨rfl, rfl⟩
  rw [Hp.out]
  go_wp2_with fail
  refine (writes_not W _ A s (m + 1) _ 0 _ 8 on n v ao mm cap HS0.out (by omega) rfl (by omega)).mono ?_
  rintro e w3 ⟨rfl, hS3⟩
  have HS3 := Hid.mk hS3
  obtain ⟨p0, p1, p2, p3, p4⟩ := hS3.op
  have x0 := (hS3.cell 4 (by omega)).1
  have x1 := (hS3.cell 6 (by omega)).1
  clear hS3 HS0 q0 q1 q2 q3 q4
  go_wp2_with fail
  have hY3 : RefR w3 (s.B 6) (s.V 6) (s.l 0) (s.t 0) := by rw [← Hl2.out, ← Ht2.out]; exact HS3.out.rr 0 (by omega)
  have HY3 := Hid.mk hY3
  have HR3 := Hid.mk (HS3.out.rd 0 (by omega))
  clear hY3
  go_cut [4] (fun s4 w4 => s4 = .bool true ∧ Kept [] w3 w4)
  case first =>
    go_region_held3 (fun w' => w'.cell? ⟨A, 4, none⟩ = some (.pointer (some ⟨s.B 4, 0, none⟩)) ∧ w'.cell? ⟨A, 6, none⟩ = some (.pointer (some ⟨s.B 6, 0, none⟩))) (first | exact ⟨x0, x1⟩ | go_keep)
      (first | (go_at_call 27; refine (left_q (s.B 4) (s.g 0) (s.l 0) (s.t 0) D _ ?_ HD.out).mono ?_; (first | exact HR3.out | exact HR3.out.keep (((Kept.refl [] _).drew).drewN _)); rintro e w4 ⟨rfl, q, rfl⟩) | (go_at_call 36; refine (refLeft_q (s.B 6) (s.V 6) (s.l 0) (s.t 0) D _ ?_ Htl.out (by have := Hll.out; omega) HD.out).mono ?_; (first | exact HY3.out | exact HY3.out.keep (((Kept.refl [] _).drew).drewN _)); rintro e w5 ⟨rfl, qq, rfl⟩))
    all_goals go_wp2
    all_goals go_meet
    all_goals exact ⟨by simp, (Kept.refl [] _).drewN _⟩
  case rest =>
    obtain ⟨rfl, hk4⟩ := hcut
    have HS5 := Hid.mk (HS3.out.keep hk4).unop
    clear hk4 HS3
    go_wp2
    go_ret
    exact ⟨rfl, s, HS5.out, Hok.out.more (by omega)⟩

set_option maxHeartbeats 4000000 in
set_option maxRecDepth 1000000 in
theorem step_rest0 (W w : World) (A : Nat) (s : St) (m : Nat) (X : Nat → Rsc) (c : Nat) (on n v : Int) (ao : Option Addr) (mm cap : Nat) (h : Stt W w A s m X) (ok : Ok s c) (hp : pick on 2 = 0)
    (o0 : -9223372036854775808 ≤ on) (o1 : on ≤ 9223372036854775807) :
    Calls Try.prog 13 #[.pointer (some ⟨A, 0, none⟩), .agg (opc 9 on n v ao mm cap)] w fun e w' => e = .returned (.bool true) ∧ ∃ s', Stt W w' A s' m X ∧ Ok s' (c + 1) := by
  have HS0 := Hid.mk (h.push (r := obj w.heap.size (.cells (opc 9 on n v ao mm cap) 45 (0, 0))) ((Kept.refl [] w).alloc (.cells (opc 9 on n v ao mm cap) 45)) (heap_alloc_new w _) (by simp [obj]))
  obtain ⟨q0, q1, q2, q3, q4⟩ := HS0.out.op
  have Hp := Hid.mk hp
  have Hok := Hid.mk ok
  have hl2 := ok.l2 0 (by omega)
  have ht2 := ok.t2 0 (by omega)
  have Hll := Hid.mk (ok.l 0 (by omega))
  have Hl2 := Hid.mk hl2
  have Ht2 := Hid.mk ht2
  have htl := (h.rd 0 (by omega)).2.2.2.1
  obtain ⟨E, h1, h2⟩ := rest_both (s.l 0) (s.t 0) htl Hll.out
  have H1 := Hid.mk h1
  have H2 := Hid.mk h2
  clear h1 h2
  clear h ok hp hl2 ht2 htl
  go_enter Try.func13, Try.ntmps13
  go_wp2_with fail
  generalize w.alloc (.cells (opc 9 on n v ao mm cap) 45) = w1 at *
  generalize w.heap.size = O at *
  refine (pick_any on 2 _ o0 o1 (by omega)).mono ?_
  rintro e w2 ⟨rfl, rfl⟩
  rw [Hp.out]
  go_wp2_with fail
  refine (writes_not W _ A s (m + 1) _ 0 _ 9 on n v ao mm cap HS0.out (by omega) rfl (by omega)).mono ?_
  rintro e w3 ⟨rfl, hS3⟩
  have HS3 := Hid.mk hS3
  obtain ⟨p0, p1, p2, p3, p4⟩ := hS3.op
  have x0 := (hS3.cell 4 (by omega)).1
  have x1 := (hS3.cell 6 (by omega)).1
  clear hS3 HS0 q0 q1 q2 q3 q4
  go_wp2_with fail
  refine (H1.out (s.B 4) (s.g 0) _ (HS3.out.rd 0 (by omega))).mono ?_
  rintro e w4 ⟨rfl, hk4⟩
  have HS4 := Hid.mk (HS3.out.keep hk4)
  have x1 := (HS4.out.cell 6 (by omega)).1
  clear hk4 HS3
  go_wp2_with fail
  refine (H2.out (s.B 6) (s.V 6) _ (by rw [← Hl2.out, ← Ht2.out]; exact HS4.out.rr 0 (by omega))).mono ?_
  rintro e w5 ⟨rfl, hk5⟩
  have HS5 := Hid.mk (HS4.out.keep hk5).unop
  clear hk5 HS4
  go_wp2
  go_ret
  exact ⟨ret_bool (by simp), s, HS5.out, Hok.out.more (by omega)⟩

set_option maxHeartbeats 4000000 in
set_option maxRecDepth 1000000 in
theorem step_none0 (W w : World) (A : Nat) (s : St) (m : Nat) (X : Nat → Rsc) (c : Nat) (kd on n v : Int) (ao : Option Addr) (mm cap : Nat) (h : Stt W w A s m X) (ok : Ok s c) (hp : pick on 2 = 0) (d : kd < 1 ∨ 9 < kd)
    (o0 : -9223372036854775808 ≤ on) (o1 : on ≤ 9223372036854775807) :
    Calls Try.prog 13 #[.pointer (some ⟨A, 0, none⟩), .agg (opc kd on n v ao mm cap)] w fun e w' => e = .returned (.bool true) ∧ ∃ s', Stt W w' A s' m X ∧ Ok s' (c + 1) := by
  have HS0 := Hid.mk (h.push (r := obj w.heap.size (.cells (opc kd on n v ao mm cap) 45 (0, 0))) ((Kept.refl [] w).alloc (.cells (opc kd on n v ao mm cap) 45)) (heap_alloc_new w _) (by simp [obj]))
  obtain ⟨q0, q1, q2, q3, q4⟩ := HS0.out.op
  have Hp := Hid.mk hp
  have Hok := Hid.mk ok
  have d6 : ¬ kd = 6 := by omega
  have d7 : ¬ kd = 7 := by omega
  have d8 : ¬ kd = 8 := by omega
  have d9 : ¬ kd = 9 := by omega
  clear h ok hp
  go_enter Try.func13, Try.ntmps13
  go_wp2_with fail
  generalize w.alloc (.cells (opc kd on n v ao mm cap) 45) = w1 at *
  generalize w.heap.size = O at *
  refine (pick_any on 2 _ o0 o1 (by omega)).mono ?_
  rintro e w2 ⟨rfl, rfl⟩
  rw [Hp.out]
  go_wp2_with fail
  refine (writes_not W _ A s (m + 1) _ 0 _ kd on n v ao mm cap HS0.out (by omega) rfl (by omega)).mono ?_
  rintro e w3 ⟨rfl, hS3⟩
  have HS3 := Hid.mk hS3
  obtain ⟨p0, p1, p2, p3, p4⟩ := hS3.op
  clear hS3 HS0 q0 q1 q2 q3 q4
  go_wp2
  go_ret
  exact ⟨rfl, s, HS3.out.unop, Hok.out.more (by omega)⟩

set_option maxHeartbeats 4000000 in
set_option maxRecDepth 1000000 in
theorem step_left1 (W w : World) (A : Nat) (s : St) (m : Nat) (X : Nat → Rsc) (c : Nat) (on n v : Int) (ao : Option Addr) (mm cap : Nat) (h : Stt W w A s m X) (ok : Ok s c) (hp : pick on 2 = 1)
    (o0 : -9223372036854775808 ≤ on) (o1 : on ≤ 9223372036854775807) :
    Calls Try.prog 13 #[.pointer (some ⟨A, 0, none⟩), .agg (opc 8 on n v ao mm cap)] w fun e w' => e = .returned (.bool true) ∧ ∃ s', Stt W w' A s' m X ∧ Ok s' (c + 1) := by
  have HS0 := Hid.mk (h.push (r := obj w.heap.size (.cells (opc 8 on n v ao mm cap) 45 (0, 0))) ((Kept.refl [] w).alloc (.cells (opc 8 on n v ao mm cap) 45)) (heap_alloc_new w _) (by simp [obj]))
  obtain ⟨q0, q1, q2, q3, q4⟩ := HS0.out.op
  have Hp := Hid.mk hp
  have Hok := Hid.mk ok
  have hl2 := ok.l2 1 (by omega)
  have ht2 := ok.t2 1 (by omega)
  have Hll := Hid.mk (ok.l 1 (by omega))
  have Hl2 := Hid.mk hl2
  have Ht2 := Hid.mk ht2
  have htl := (h.rd 1 (by omega)).2.2.2.1
  obtain ⟨D, hD⟩ : ∃ D : Int, D = 8 * ((s.l 1).length : Int) - (s.t 1 : Int) := ⟨_, rfl⟩
  have HD := Hid.mk hD
  have Htl := Hid.mk htl
  clear hD
  clear h ok hp hl2 ht2 htl
  go_enter Try.func13, Try.ntmps13
  go_wp2_with fail
  generalize w.alloc (.cells (opc 8 on n v ao mm cap) 45) = w1 at *
  generalize w.heap.size = O at *
  refine (pick_any on 2 _ o0 o1 (by omega)).mono ?_
  rintro e w2 ⟨rfl, rfl⟩
  rw [Hp.out]
  go_wp2_with fail
  refine (writes_not W _ A s (m + 1) _ 1 _ 8 on n v ao mm cap HS0.out (by omega) rfl (by omega)).mono ?_
  rintro e w3 ⟨rfl, hS3⟩
  have HS3 := Hid.mk hS3
  obtain ⟨p0, p1, p2, p3, p4⟩ := hS3.op
  have x0 := (hS3.cell 5 (by omega)).1
  have x1 := (hS3.cell 7 (by omega)).1
  clear hS3 HS0 q0 q1 q2 q3 q4
  go_wp2_with fail
  have hY3 : RefR w3 (s.B 7) (s.V 7) (s.l 1) (s.t 1) := by rw [← Hl2.out, ← Ht2.out]; exact HS3.out.rr 1 (by omega)
  have HY3 := Hid.mk hY3
  have HR3 := Hid.mk (HS3.out.rd 1 (by omega))
  clear hY3
  go_cut [4] (fun s4 w4 => s4 = .bool true ∧ Kept [] w3 w4)
  case first =>
    go_region_held3 (fun w' => w'.cell? ⟨A, 5, none⟩ = some (.pointer (some ⟨s.B 5, 0, none⟩)) ∧ w'.cell? ⟨A, 7, none⟩ = some (.pointer (some ⟨s.B 7, 0, none⟩))) (first | exact ⟨x0, x1⟩ | go_keep)
      (first | (go_at_call 27; refine (left_q (s.B 5) (s.g 1) (s.l 1) (s.t 1) D _ ?_ HD.out).mono ?_; (first | exact HR3.out | exact HR3.out.keep (((Kept.refl [] _).drew).drewN _)); rintro e w4 ⟨rfl, q, rfl⟩) | (go_at_call 36; refine (refLeft_q (s.B 7) (s.V 7) (s.l 1) (s.t 1) D _ ?_ Htl.out (by have := Hll.out; omega) HD.out).mono ?_; (first | exact HY3.out | exact HY3.out.keep (((Kept.refl [] _).drew).drewN _)); rintro e w5 ⟨rfl, qq, rfl⟩))
    all_goals go_wp2
    all_goals go_meet
    all_goals exact ⟨by simp, (Kept.refl [] _).drewN _⟩
  case rest =>
    obtain ⟨rfl, hk4⟩ := hcut
    have HS5 := Hid.mk (HS3.out.keep hk4).unop
    clear hk4 HS3
    go_wp2
    go_ret
    exact ⟨rfl, s, HS5.out, Hok.out.more (by omega)⟩

set_option maxHeartbeats 4000000 in
set_option maxRecDepth 1000000 in
theorem step_rest1 (W w : World) (A : Nat) (s : St) (m : Nat) (X : Nat → Rsc) (c : Nat) (on n v : Int) (ao : Option Addr) (mm cap : Nat) (h : Stt W w A s m X) (ok : Ok s c) (hp : pick on 2 = 1)
    (o0 : -9223372036854775808 ≤ on) (o1 : on ≤ 9223372036854775807) :
    Calls Try.prog 13 #[.pointer (some ⟨A, 0, none⟩), .agg (opc 9 on n v ao mm cap)] w fun e w' => e = .returned (.bool true) ∧ ∃ s', Stt W w' A s' m X ∧ Ok s' (c + 1) := by
  have HS0 := Hid.mk (h.push (r := obj w.heap.size (.cells (opc 9 on n v ao mm cap) 45 (0, 0))) ((Kept.refl [] w).alloc (.cells (opc 9 on n v ao mm cap) 45)) (heap_alloc_new w _) (by simp [obj]))
  obtain ⟨q0, q1, q2, q3, q4⟩ := HS0.out.op
  have Hp := Hid.mk hp
  have Hok := Hid.mk ok
  have hl2 := ok.l2 1 (by omega)
  have ht2 := ok.t2 1 (by omega)
  have Hll := Hid.mk (ok.l 1 (by omega))
  have Hl2 := Hid.mk hl2
  have Ht2 := Hid.mk ht2
  have htl := (h.rd 1 (by omega)).2.2.2.1
  obtain ⟨E, h1, h2⟩ := rest_both (s.l 1) (s.t 1) htl Hll.out
  have H1 := Hid.mk h1
  have H2 := Hid.mk h2
  clear h1 h2
  clear h ok hp hl2 ht2 htl
  go_enter Try.func13, Try.ntmps13
  go_wp2_with fail
  generalize w.alloc (.cells (opc 9 on n v ao mm cap) 45) = w1 at *
  generalize w.heap.size = O at *
  refine (pick_any on 2 _ o0 o1 (by omega)).mono ?_
  rintro e w2 ⟨rfl, rfl⟩
  rw [Hp.out]
  go_wp2_with fail
  refine (writes_not W _ A s (m + 1) _ 1 _ 9 on n v ao mm cap HS0.out (by omega) rfl (by omega)).mono ?_
  rintro e w3 ⟨rfl, hS3⟩
  have HS3 := Hid.mk hS3
  obtain ⟨p0, p1, p2, p3, p4⟩ := hS3.op
  have x0 := (hS3.cell 5 (by omega)).1
  have x1 := (hS3.cell 7 (by omega)).1
  clear hS3 HS0 q0 q1 q2 q3 q4
  go_wp2_with fail
  refine (H1.out (s.B 5) (s.g 1) _ (HS3.out.rd 1 (by omega))).mono ?_
  rintro e w4 ⟨rfl, hk4⟩
  have HS4 := Hid.mk (HS3.out.keep hk4)
  have x1 := (HS4.out.cell 7 (by omega)).1
  clear hk4 HS3
  go_wp2_with fail
  refine (H2.out (s.B 7) (s.V 7) _ (by rw [← Hl2.out, ← Ht2.out]; exact HS4.out.rr 1 (by omega))).mono ?_
  rintro e w5 ⟨rfl, hk5⟩
  have HS5 := Hid.mk (HS4.out.keep hk5).unop
  clear hk5 HS4
  go_wp2
  go_ret
  exact ⟨ret_bool (by simp), s, HS5.out, Hok.out.more (by omega)⟩

set_option maxHeartbeats 4000000 in
set_option maxRecDepth 1000000 in
theorem step_none1 (W w : World) (A : Nat) (s : St) (m : Nat) (X : Nat → Rsc) (c : Nat) (kd on n v : Int) (ao : Option Addr) (mm cap : Nat) (h : Stt W w A s m X) (ok : Ok s c) (hp : pick on 2 = 1) (d : kd < 1 ∨ 9 < kd)
    (o0 : -9223372036854775808 ≤ on) (o1 : on ≤ 9223372036854775807) :
    Calls Try.prog 13 #[.pointer (some ⟨A, 0, none⟩), .agg (opc kd on n v ao mm cap)] w fun e w' => e = .returned (.bool true) ∧ ∃ s', Stt W w' A s' m X ∧ Ok s' (c + 1) := by
  have HS0 := Hid.mk (h.push (r := obj w.heap.size (.cells (opc kd on n v ao mm cap) 45 (0, 0))) ((Kept.refl [] w).alloc (.cells (opc kd on n v ao mm cap) 45)) (heap_alloc_new w _) (by simp [obj]))
  obtain ⟨q0, q1, q2, q3, q4⟩ := HS0.out.op
  have Hp := Hid.mk hp
  have Hok := Hid.mk ok
  have d6 : ¬ kd = 6 := by omega
  have d7 : ¬ kd = 7 := by omega
  have d8 : ¬ kd = 8 := by omega
  have d9 : ¬ kd = 9 := by omega
  clear h ok hp
  go_enter Try.func13, Try.ntmps13
  go_wp2_with fail
  generalize w.alloc (.cells (opc kd on n v ao mm cap) 45) = w1 at *
  generalize w.heap.size = O at *
  refine (pick_any on 2 _ o0 o1 (by omega)).mono ?_
  rintro e w2 ⟨rfl, rfl⟩
  rw [Hp.out]
  go_wp2_with fail
  refine (writes_not W _ A s (m + 1) _ 1 _ kd on n v ao mm cap HS0.out (by omega) rfl (by omega)).mono ?_
  rintro e w3 ⟨rfl, hS3⟩
  have HS3 := Hid.mk hS3
  obtain ⟨p0, p1, p2, p3, p4⟩ := hS3.op
  clear hS3 HS0 q0 q1 q2 q3 q4
  go_wp2
  go_ret
  exact ⟨rfl, s, HS3.out.unop, Hok.out.more (by omega)⟩

end Go.Proofs.Ytoghkbajdljheaa
