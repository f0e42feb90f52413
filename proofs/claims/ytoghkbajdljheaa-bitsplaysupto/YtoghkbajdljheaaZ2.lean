import Derived.Test.YtoghkbajdljheaaZ1
namespace Go.Proofs.Ytoghkbajdljheaa
open Go.RowKit

set_option maxHeartbeats 4000000 in
set_option maxRecDepth 1000000 in
theorem writes_len0 (W w : World) (A : Nat) (s : St) (m : Nat) (X : Nat → Rsc) (on n v : Int) (ao : Option Addr) (mm cap : Nat) (h : Stt W w A s m X) (hbs : s.bs 0 = bin (s.len 0) (s.N 0)) (hl : s.len 0 ≤ 1000000000) :
    Calls Try.prog 33 #[.pointer (some ⟨A, 0, none⟩), .agg (opc 2 on n v ao mm cap), .int .i64 0] w fun e w' => e = .returned (.tuple #[.bool true, .bool true]) ∧ Stt W w' A s m X := by
  have HS0 := Hid.mk (h.push (r := obj w.heap.size (.cells (opc 2 on n v ao mm cap) 45 (0, 0))) ((Kept.refl [] w).alloc (.cells (opc 2 on n v ao mm cap) 45)) (heap_alloc_new w _) (by simp [obj]))
  obtain ⟨D, hD⟩ : ∃ D : Int, D = (s.len 0 : Int) := ⟨_, rfl⟩
  have HD := Hid.mk hD
  have HD2 : Hid (D = ((s.bs 0).length : Int)) := by rw [hbs, bin_length]; exact hD
  obtain ⟨o0, _, _, _, _⟩ := HS0.out.op
  have x0 := (HS0.out.cell 0 (by omega)).1
  have x1 := (HS0.out.cell 2 (by omega)).1
  have Hl := Hid.mk hl
  clear h hbs hD hl
  go_enter Try.func33, Try.ntmps33
  go_wp2_with fail
  generalize w.alloc (.cells (opc 2 on n v ao mm cap) 45) = w1 at *
  generalize w.heap.size = O at *
  go_cut [6, 7] (fun s6 s7 w3 => s6 = .bool true ∧ s7 = .bool true ∧ Kept [] w1 w3)
  case first =>
    go_region_held3 (fun w' => w'.cell? ⟨A, 0, none⟩ = some (.pointer (some ⟨s.B 0, 0, none⟩)) ∧ w'.cell? ⟨A, 2, none⟩ = some (.pointer (some ⟨s.B 2, 0, none⟩))) (first | exact ⟨x0, x1⟩ | go_keep)
      (first | (go_at_call 24; refine (wlen_at (s.B 0) (s.V 0) (s.N 0) (s.len 0) D _ ?_ Hl.out HD.out).mono ?_; (first | exact HS0.out.wr 0 (by omega) | exact (HS0.out.keep (((Kept.refl [] _).drew).drewN _)).wr 0 (by omega)); rintro e w2 ⟨rfl, q, rfl⟩) | (go_at_call 48; refine (refLen_at (s.B 2) (s.V 2) (s.bs 0) D _ ?_ HD2.out).mono ?_; (first | exact HS0.out.rw_ 0 (by omega) | exact (HS0.out.keep (((Kept.refl [] _).drew).drewN _)).rw_ 0 (by omega)); rintro e w3 ⟨rfl, rfl⟩))
    all_goals go_wp2
    all_goals go_meet
    all_goals exact ⟨by simp, rfl, (Kept.refl [] _).drewN _⟩
  case rest =>
    obtain ⟨rfl, rfl, hk3⟩ := hcut
    have HS3 := Hid.mk (HS0.out.keep hk3).unop
    clear hk3 HS0
    go_wp2
    go_ret2
    exact ⟨rfl, HS3.out⟩

set_option maxHeartbeats 4000000 in
set_option maxRecDepth 1000000 in
theorem writes_len1 (W w : World) (A : Nat) (s : St) (m : Nat) (X : Nat → Rsc) (on n v : Int) (ao : Option Addr) (mm cap : Nat) (h : Stt W w A s m X) (hbs : s.bs 1 = bin (s.len 1) (s.N 1)) (hl : s.len 1 ≤ 1000000000) :
    Calls Try.prog 33 #[.pointer (some ⟨A, 0, none⟩), .agg (opc 2 on n v ao mm cap), .int .i64 1] w fun e w' => e = .returned (.tuple #[.bool true, .bool true]) ∧ Stt W w' A s m X := by
  have HS0 := Hid.mk (h.push (r := obj w.heap.size (.cells (opc 2 on n v ao mm cap) 45 (0, 0))) ((Kept.refl [] w).alloc (.cells (opc 2 on n v ao mm cap) 45)) (heap_alloc_new w _) (by simp [obj]))
  obtain ⟨D, hD⟩ : ∃ D : Int, D = (s.len 1 : Int) := ⟨_, rfl⟩
  have HD := Hid.mk hD
  have HD2 : Hid (D = ((s.bs 1).length : Int)) := by rw [hbs, bin_length]; exact hD
  obtain ⟨o0, _, _, _, _⟩ := HS0.out.op
  have x0 := (HS0.out.cell 1 (by omega)).1
  have x1 := (HS0.out.cell 3 (by omega)).1
  have Hl := Hid.mk hl
  clear h hbs hD hl
  go_enter Try.func33, Try.ntmps33
  go_wp2_with fail
  generalize w.alloc (.cells (opc 2 on n v ao mm cap) 45) = w1 at *
  generalize w.heap.size = O at *
  go_cut [6, 7] (fun s6 s7 w3 => s6 = .bool true ∧ s7 = .bool true ∧ Kept [] w1 w3)
  case first =>
    go_region_held3 (fun w' => w'.cell? ⟨A, 1, none⟩ = some (.pointer (some ⟨s.B 1, 0, none⟩)) ∧ w'.cell? ⟨A, 3, none⟩ = some (.pointer (some ⟨s.B 3, 0, none⟩))) (first | exact ⟨x0, x1⟩ | go_keep)
      (first | (go_at_call 24; refine (wlen_at (s.B 1) (s.V 1) (s.N 1) (s.len 1) D _ ?_ Hl.out HD.out).mono ?_; (first | exact HS0.out.wr 1 (by omega) | exact (HS0.out.keep (((Kept.refl [] _).drew).drewN _)).wr 1 (by omega)); rintro e w2 ⟨rfl, q, rfl⟩) | (go_at_call 48; refine (refLen_at (s.B 3) (s.V 3) (s.bs 1) D _ ?_ HD2.out).mono ?_; (first | exact HS0.out.rw_ 1 (by omega) | exact (HS0.out.keep (((Kept.refl [] _).drew).drewN _)).rw_ 1 (by omega)); rintro e w3 ⟨rfl, rfl⟩))
    all_goals go_wp2
    all_goals go_meet
    all_goals exact ⟨by simp, rfl, (Kept.refl [] _).drewN _⟩
  case rest =>
    obtain ⟨rfl, rfl, hk3⟩ := hcut
    have HS3 := Hid.mk (HS0.out.keep hk3).unop
    clear hk3 HS0
    go_wp2
    go_ret2
    exact ⟨rfl, HS3.out⟩

end Go.Proofs.Ytoghkbajdljheaa
