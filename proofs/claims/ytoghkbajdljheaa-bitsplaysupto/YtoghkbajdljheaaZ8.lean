import Derived.Test.YtoghkbajdljheaaZ7
namespace Go.Proofs.Ytoghkbajdljheaa
open Go.RowKit

theorem Ok.take {s : St} {c k t' : Nat} (h : Ok s c) : Ok { s with t := upd s.t k t', t2 := upd s.t2 k t' } (c + 1) := by
  refine ⟨h.bs, h.l2, fun j hj => ?_, fun j hj => by have := h.len j hj; show s.len j ≤ _; omega, by have := h.n; show s.n ≤ _; omega, h.l, h.ls⟩
  by_cases e : j = k
  · subst e; simp [upd]
  · simp only [upd_far _ _ _ _ e]; exact h.t2 j hj

theorem left_q (B g : Nat) (l : List Nat) (t : Nat) (D : Int) (w : World) (hw : ReaderAt w B g l t) (hD : D = 8 * (l.length : Int) - (t : Int)) :
    Calls Try.prog 27 #[.pointer (some ⟨B, 0, none⟩)] w fun e w' => e = .returned (.int .i64 D) ∧ ∃ q, w' = w.drewN q := by
  subst hD
  exact left_any B g l t w hw

theorem refLeft_q (B : Nat) (V : Value) (l : List Nat) (t : Nat) (D : Int) (w : World) (h : RefR w B V l t) (ht : t ≤ 8 * l.length) (hl : l.length ≤ 10000000000000) (hD : D = 8 * (l.length : Int) - (t : Int)) :
    Calls Try.prog 36 #[.pointer (some ⟨B, 0, none⟩)] w fun e w' => e = .returned (.int .i64 D) ∧ ∃ q, w' = w.drewN q := by
  subst hD
  exact refLeft_any B V l t w h ht hl

set_option maxHeartbeats 4000000 in
set_option maxRecDepth 1000000 in
theorem step_get0 (W w : World) (A : Nat) (s : St) (m : Nat) (X : Nat → Rsc) (c : Nat) (on n v : Int) (ao : Option Addr) (mm cap : Nat) (h : Stt W w A s m X) (ok : Ok s c) (hp : pick on 2 = 0)
    (o0 : -9223372036854775808 ≤ on) (o1 : on ≤ 9223372036854775807) :
    Calls Try.prog 13 #[.pointer (some ⟨A, 0, none⟩), .agg (opc 6 on n v ao mm cap)] w fun e w' => e = .returned (.bool true) ∧ ∃ s', Stt W w' A s' m X ∧ Ok s' (c + 1) := by
  have HS0 := Hid.mk (h.push (r := obj w.heap.size (.cells (opc 6 on n v ao mm cap) 45 (0, 0))) ((Kept.refl [] w).alloc (.cells (opc 6 on n v ao mm cap) 45)) (heap_alloc_new w _) (by simp [obj]))
  obtain ⟨q0, q1, q2, q3, q4⟩ := HS0.out.op
  have Hp := Hid.mk hp
  have Hok := Hid.mk ok
  have hl2 := ok.l2 0 (by omega)
  have ht2 := ok.t2 0 (by omega)
  have Hll := Hid.mk (ok.l 0 (by omega))
  have Hl2 := Hid.mk hl2
  have Ht2 := Hid.mk ht2
  have htl := (h.rd 0 (by omega)).2.2.2.1
  obtain ⟨Y, E, t', h1, h2⟩ := get_both (s.l 0) (s.t 0) n htl Hll.out
  have H1 := Hid.mk h1
  have H2 := Hid.mk h2
  clear h1 h2
  clear h ok hp hl2 ht2 htl
  go_enter Try.func13, Try.ntmps13
  go_wp2_with fail
  generalize w.alloc (.cells (opc 6 on n v ao mm cap) 45) = w1 at *
  generalize w.heap.size = O at *
  refine (pick_any on 2 _ o0 o1 (by omega)).mono ?_
  rintro e w2 ⟨rfl, rfl⟩
  rw [Hp.out]
  go_wp2_with fail
  refine (writes_not W _ A s (m + 1) _ 0 _ 6 on n v ao mm cap HS0.out (by omega) rfl (by omega)).mono ?_
  rintro e w3 ⟨rfl, hS3⟩
  have HS3 := Hid.mk hS3
  obtain ⟨p0, p1, p2, p3, p4⟩ := hS3.op
  have x0 := (hS3.cell 4 (by omega)).1
  have x1 := (hS3.cell 6 (by omega)).1
  clear hS3 HS0 q0 q1 q2 q3 q4
  go_wp2_with fail
  go_cut [8, 9] (fun s8 s9 w4 => s8 = .int .u32 Y ∧ s9 = .int .i64 E ∧ Stt W w4 A { s with t := upd s.t 0 t' } (m + 1) (upd X m (obj O (.cells (opc 6 on n v ao mm cap) 45 (0, 0)))))
  case first =>
    go_region_held3 (fun w' => w'.cell? ⟨A, 4, none⟩ = some (.pointer (some ⟨s.B 4, 0, none⟩)) ∧ w'.cell? ⟨O, 2, none⟩ = some (.int .i64 n)) (first | exact ⟨x0, p2⟩ | exact ⟨y0, y2⟩ | go_keep)
      (first | (go_at_call 28; refine (H1.out (s.B 4) (s.g 0) _ ?_).mono ?_; exact HS3.out.rd 0 (by omega); rintro e w4 ⟨rfl, hR4, hk4⟩; have hS4 := HS3.out.setR 0 (by omega) hk4.undrew hR4; have y0 := (hS4.cell 4 (by omega)).1; have y2 := hS4.op.2.2.1))
    go_wp2
    go_meet
    exact ⟨rfl, rfl, hS4⟩
  case rest =>
    obtain ⟨rfl, rfl, hS4⟩ := hcut
    have HS4 := Hid.mk hS4
    have hY4 : RefR wc (s.B 6) (s.V 6) (s.l 0) (s.t 0) := by rw [← Hl2.out, ← Ht2.out]; exact hS4.rr 0 (by omega)
    have HY4 := Hid.mk hY4
    obtain ⟨p0, p1, p2, p3, p4⟩ := hS4.op
    have x1 := (hS4.cell 6 (by omega)).1
    clear hS4 hY4 HS3 x0
    go_wp2_with fail
    go_cut [10, 11] (fun s8 s9 w5 => s8 = .int .u32 Y ∧ s9 = .int .i64 E ∧ Stt W w5 A { s with t := upd s.t 0 t', t2 := upd s.t2 0 t' } (m + 1) (upd X m (obj O (.cells (opc 6 on n v ao mm cap) 45 (0, 0)))))
    case first =>
      go_region_held3 (fun w' => w'.cell? ⟨A, 6, none⟩ = some (.pointer (some ⟨s.B 6, 0, none⟩)) ∧ w'.cell? ⟨O, 2, none⟩ = some (.int .i64 n)) (first | exact ⟨x1, p2⟩ | exact ⟨y0, y2⟩ | go_keep)
        (first | (go_at_call 34; refine (H2.out (s.B 6) (s.V 6) _ ?_).mono ?_; exact HY4.out; rintro e w5 ⟨rfl, hR5, hk5⟩; rw [← Hl2.out] at hR5; have hS5 := HS4.out.setY 0 (by omega) hk5.undrew hR5; have y0 := (hS5.cell 6 (by omega)).1; have y2 := hS5.op.2.2.1))
      go_wp2
      go_meet
      exact ⟨rfl, rfl, hS5⟩
    case rest =>
      obtain ⟨rfl, rfl, hS5⟩ := hcut
      have HS5 := Hid.mk hS5.unop
      clear hS5 HS4 HY4
      go_wp2
      go_ret
      exact ⟨ret_bool (by simp), _, HS5.out, Hok.out.take⟩

set_option maxHeartbeats 4000000 in
set_option maxRecDepth 1000000 in
theorem step_get1 (W w : World) (A : Nat) (s : St) (m : Nat) (X : Nat → Rsc) (c : Nat) (on n v : Int) (ao : Option Addr) (mm cap : Nat) (h : Stt W w A s m X) (ok : Ok s c) (hp : pick on 2 = 1)
    (o0 : -9223372036854775808 ≤ on) (o1 : on ≤ 9223372036854775807) :
    Calls Try.prog 13 #[.pointer (some ⟨A, 0, none⟩), .agg (opc 6 on n v ao mm cap)] w fun e w' => e = .returned (.bool true) ∧ ∃ s', Stt W w' A s' m X ∧ Ok s' (c + 1) := by
  have HS0 := Hid.mk (h.push (r := obj w.heap.size (.cells (opc 6 on n v ao mm cap) 45 (0, 0))) ((Kept.refl [] w).alloc (.cells (opc 6 on n v ao mm cap) 45)) (heap_alloc_new w _) (by simp [obj]))
  obtain ⟨q0, q1, q2, q3, q4⟩ := HS0.out.op
  have Hp := Hid.mk hp
  have Hok := Hid.mk ok
  have hl2 := ok.l2 1 (by omega)
  have ht2 := ok.t2 1 (by omega)
  have Hll := Hid.mk (ok.l 1 (by omega))
  have Hl2 := Hid.mk hl2
  have Ht2 := Hid.mk ht2
  have htl := (h.rd 1 (by omega)).2.2.2.1
  obtain ⟨Y, E, t', h1, h2⟩ := get_both (s.l 1) (s.t 1) n htl Hll.out
  have H1 := Hid.mk h1
  have H2 := Hid.mk h2
  clear h1 h2
  clear h ok hp hl2 ht2 htl
  go_enter Try.func13, Try.ntmps13
  go_wp2_with fail
  generalize w.alloc (.cells (opc 6 on n v ao mm cap) 45) = w1 at *
  generalize w.heap.size = O at *
  refine (pick_any on 2 _ o0 o1 (by omega)).mono ?_
  rintro e w2 ⟨rfl, rfl⟩
  rw [Hp.out]
  go_wp2_with fail
  refine (writes_not W _ A s (m + 1) _ 1 _ 6 on n v ao mm cap HS0.out (by omega) rfl (by omega)).mono ?_
  rintro e w3 ⟨rfl, hS3⟩
  have HS3 := Hid.mk hS3
  obtain ⟨p0, p1, p2, p3, p4⟩ := hS3.op
  have x0 := (hS3.cell 5 (by omega)).1
  have x1 := (hS3.cell 7 (by omega)).1
  clear hS3 HS0 q0 q1 q2 q3 q4
  go_wp2_with fail
  go_cut [8, 9] (fun s8 s9 w4 => s8 = .int .u32 Y ∧ s9 = .int .i64 E ∧ Stt W w4 A { s with t := upd s.t 1 t' } (m + 1) (upd X m (obj O (.cells (opc 6 on n v ao mm cap) 45 (0, 0)))))
  case first =>
    go_region_held3 (fun w' => w'.cell? ⟨A, 5, none⟩ = some (.pointer (some ⟨s.B 5, 0, none⟩)) ∧ w'.cell? ⟨O, 2, none⟩ = some (.int .i64 n)) (first | exact ⟨x0, p2⟩ | exact ⟨y0, y2⟩ | go_keep)
      (first | (go_at_call 28; refine (H1.out (s.B 5) (s.g 1) _ ?_).mono ?_; exact HS3.out.rd 1 (by omega); rintro e w4 ⟨rfl, hR4, hk4⟩; have hS4 := HS3.out.setR 1 (by omega) hk4.undrew hR4; have y0 := (hS4.cell 5 (by omega)).1; have y2 := hS4.op.2.2.1))
    go_wp2
    go_meet
    exact ⟨rfl, rfl, hS4⟩
  case rest =>
    obtain ⟨rfl, rfl, hS4⟩ := hcut
    have HS4 := Hid.mk hS4
    have hY4 : RefR wc (s.B 7) (s.V 7) (s.l 1) (s.t 1) := by rw [← Hl2.out, ← Ht2.out]; exact hS4.rr 1 (by omega)
    have HY4 := Hid.mk hY4
    obtain ⟨p0, p1, p2, p3, p4⟩ := hS4.op
    have x1 := (hS4.cell 7 (by omega)).1
    clear hS4 hY4 HS3 x0
    go_wp2_with fail
    go_cut [10, 11] (fun s8 s9 w5 => s8 = .int .u32 Y ∧ s9 = .int .i64 E ∧ Stt W w5 A { s with t := upd s.t 1 t', t2 := upd s.t2 1 t' } (m + 1) (upd X m (obj O (.cells (opc 6 on n v ao mm cap) 45 (0, 0)))))
    case first =>
      go_region_held3 (fun w' => w'.cell? ⟨A, 7, none⟩ = some (.pointer (some ⟨s.B 7, 0, none⟩)) ∧ w'.cell? ⟨O, 2, none⟩ = some (.int .i64 n)) (first | exact ⟨x1, p2⟩ | exact ⟨y0, y2⟩ | go_keep)
        (first | (go_at_call 34; refine (H2.out (s.B 7) (s.V 7) _ ?_).mono ?_; exact HY4.out; rintro e w5 ⟨rfl, hR5, hk5⟩; rw [← Hl2.out] at hR5; have hS5 := HS4.out.setY 1 (by omega) hk5.undrew hR5; have y0 := (hS5.cell 7 (by omega)).1; have y2 := hS5.op.2.2.1))
      go_wp2
      go_meet
      exact ⟨rfl, rfl, hS5⟩
    case rest =>
      obtain ⟨rfl, rfl, hS5⟩ := hcut
      have HS5 := Hid.mk hS5.unop
      clear hS5 HS4 HY4
      go_wp2
      go_ret
      exact ⟨ret_bool (by simp), _, HS5.out, Hok.out.take⟩

end Go.Proofs.Ytoghkbajdljheaa
