import Derived.Test.YtoghkbajdljheaaZ4
import Derived.Deep.RegionHeldLaw
namespace Go.Proofs.Ytoghkbajdljheaa
open Go.RowKit

set_option maxHeartbeats 4000000 in
set_option maxRecDepth 1000000 in
theorem writes_bytes0 (W w : World) (A : Nat) (s : St) (m : Nat) (X : Nat → Rsc) (on n v : Int) (ao : Option Addr) (mm cap M0 M1 : Nat) (L0 L1 : List Nat) (h : Stt W w A s m X) (hl0 : s.len 0 ≤ 50000000) (hl1 : s.len 1 ≤ 50000000) (hn : s.n ≤ 900000)
    (hM0 : M0 = (s.len 0 + 7) / 8) (hL0 : L0 = big M0 (s.N 0 * 2 ^ (8 * M0 - s.len 0))) (hM1 : M1 = (s.len 1 + 7) / 8) (hL1 : L1 = big M1 (s.N 1 * 2 ^ (8 * M1 - s.len 1)))
    (hb0 : s.bs 0 = bin (s.len 0) (s.N 0)) (hb1 : s.bs 1 = bin (s.len 1) (s.N 1)) :
    Calls Try.prog 33 #[.pointer (some ⟨A, 0, none⟩), .agg (opc 3 on n v ao mm cap), .int .i64 0] w fun e w' => e = .returned (.tuple #[.bool true, .bool true]) ∧
      ∃ vl vw LV LU, Stt W w' A { s with n := s.n + 1 + 1 + 1, vl := vl, vw := vw, LV := LV, LU := LU, ls := upd (upd (upd s.ls s.n L0) (s.n + 1) L1) (s.n + 1 + 1) L0 } m X := by
  have HS0 := Hid.mk (h.push (r := obj w.heap.size (.cells (opc 3 on n v ao mm cap) 45 (0, 0))) ((Kept.refl [] w).alloc (.cells (opc 3 on n v ao mm cap) 45)) (heap_alloc_new w _) (by simp [obj]))
  obtain ⟨o0, _, _, _, _⟩ := HS0.out.op
  have x0 := (HS0.out.cell 0 (by omega)).1
  have Hl0 := Hid.mk hl0
  have Hl1 := Hid.mk hl1
  have HM0 := Hid.mk hM0
  have HM1 := Hid.mk hM1
  have HL0 := Hid.mk hL0
  have HL1 := Hid.mk hL1
  have Hb0 := Hid.mk hb0
  have Hb1 := Hid.mk hb1
  have Hn := Hid.mk hn
  have Hmb0 : Hid (M0 ≤ 10000000) := by show M0 ≤ 10000000; omega
  have Hmb1 : Hid (M1 ≤ 10000000) := by show M1 ≤ 10000000; omega
  have Hlen0 : Hid (L0.length = M0) := by rw [hL0]; exact big_length _ _
  have Hlen1 : Hid (L1.length = M1) := by rw [hL1]; exact big_length _ _
  clear h hl0 hl1 hM0 hM1 hL0 hL1 hb0 hb1 hn
  go_enter Try.func33, Try.ntmps33
  go_wp2_with fail
  generalize w.alloc (.cells (opc 3 on n v ao mm cap) 45) = w1 at *
  refine (bytes_at (s.B 0) (s.V 0) (s.N 0) (s.len 0) M0 L0 _ (HS0.out.wr 0 (by omega)) (by have := Hl0.out; omega) HM0.out HL0.out).mono ?_
  rintro e w2 ⟨rfl, hrow2, hk2⟩
  have HS1 := Hid.mk (HS0.out.push (r := obj w1.heap.size _) hk2 hrow2 (by simp [obj]))
  generalize w1.heap.size = G1 at *
  have x0 := (HS1.out.cell 1 (by omega)).1
  clear hrow2 hk2 HS0
  go_wp2_with fail
  refine (bytes_at (s.B 1) (s.V 1) (s.N 1) (s.len 1) M1 L1 _ (HS1.out.wr 1 (by omega)) (by have := Hl1.out; omega) HM1.out HL1.out).mono ?_
  rintro e w3 ⟨rfl, hrow3, hk3⟩
  have HS2 := Hid.mk (HS1.out.push (r := obj w2.heap.size _) hk3 hrow3 (by simp [obj]))
  generalize w2.heap.size = G2 at *
  have x0 := (HS2.out.cell 0 (by omega)).1
  clear hrow3 hk3 HS1
  go_wp2_with fail
  refine (bytes_at (s.B 0) (s.V 0) (s.N 0) (s.len 0) M0 L0 _ (HS2.out.wr 0 (by omega)) (by have := Hl0.out; omega) HM0.out HL0.out).mono ?_
  rintro e w4 ⟨rfl, hrow4, hk4⟩
  have HS3 := Hid.mk (HS2.out.push (r := obj w3.heap.size _) hk4 hrow4 (by simp [obj]))
  generalize w3.heap.size = G3 at *
  have x0 := (HS3.out.cell 2 (by omega)).1
  clear hrow4 hk4 HS2
  go_wp2_with fail
  refine (refBytes_any (s.B 2) (s.V 2) (s.N 0) (s.len 0) M0 _ (by rw [← Hb0.out]; exact HS3.out.rw_ 0 (by omega)) HM0.out (by have := Hl0.out; omega)).mono ?_
  rintro e w5 ⟨V5, rfl, ho5, hk5⟩
  rw [← HL0.out] at ho5
  obtain ⟨ao5, cap5, rfl⟩ := row_form ho5
  have z0 : Sem.run Try.prog (convert 43 9 (.slice ao5 M0 cap5)) w5 = .ok (.string (bstr L0)) w5 := by
    have hq := reads_str (reads_row ho5) cap5
    rw [Hlen0.out] at hq
    exact hq
  have HS4 := Hid.mk (HS3.out.keep hk5)
  have x0 := (HS4.out.cell 3 (by omega)).1
  have hr1 := HS4.out.ex (m + 1) (by omega)
  have hr2 := HS4.out.ex (m + 1 + 1) (by omega)
  have hr3 := HS4.out.ex (m + 1 + 1 + 1) (by omega)
  rw [upd_at] at hr3
  rw [upd_far _ _ _ _ (by omega), upd_at] at hr2
  rw [upd_far _ _ _ _ (by omega), upd_far _ _ _ _ (by omega), upd_at] at hr1
  have Hr1 : Hid (Lst w5 (.slice (some ⟨G1, 0, none⟩) M0 M0) L0) := .inr ⟨G1, by rw [Hlen0.out], hr1⟩
  have Hr2 : Hid (Lst w5 (.slice (some ⟨G2, 0, none⟩) M1 M1) L1) := .inr ⟨G2, by rw [Hlen1.out], hr2⟩
  have Hr3 : Hid (Lst w5 (.slice (some ⟨G3, 0, none⟩) M0 M0) L0) := .inr ⟨G3, by rw [Hlen0.out], hr3⟩
  have z1 := (Hr1.out.keep (Kept.refl [] w5).drew).str
  have z2 := (Hr2.out.keep (Kept.refl [] w5).drew).str
  have z3 := (Hr3.out.keep (Kept.refl [] w5).drew).str
  clear hr1 hr2 hr3 ho5 hk5 HS3
  go_wp2_with fail
  clear z0
  go_cut [13] (fun s13 w6 => s13 = .bool true ∧ Kept [] w5 w6)
  case first =>
    go_region_held_law (fun w' => w'.cell? ⟨A, 3, none⟩ = some (.pointer (some ⟨s.B 3, 0, none⟩))) (first | exact x0 | exact y0 | go_keep) (first | (go_at_call 49; refine (refBytes_any (s.B 3) (s.V 3) (s.N 1) (s.len 1) M1 _ ?_ HM1.out (by have := Hl1.out; omega)).mono ?_; rw [← Hb1.out]; exact HS4.out.rw_ 1 (by omega); rintro e w6 ⟨V6, rfl, ho6, hk6⟩; rw [← HL1.out] at ho6; obtain ⟨ao6, cap6, rfl⟩ := row_form ho6; have z4 : Sem.run Try.prog (convert 43 9 (.slice ao6 M1 cap6)) w6 = .ok (.string (bstr L1)) w6 := (by have hq := reads_str (reads_row ho6) cap6; rw [Hlen1.out] at hq; exact hq); have z5 := (Hr2.out.keep hk6.undrew).str; have y0 := ((HS4.out.keep hk6.undrew).cell 3 (by omega)).1))
    all_goals go_wp2
    all_goals go_meet
    all_goals exact ⟨by simp, hk6.undrew⟩
  case rest =>
    obtain ⟨rfl, hk6⟩ := hcut
    have HS5 := Hid.mk (HS4.out.keep hk6)
    clear hk6 HS4 Hr1 Hr2 Hr3 z1 z2 z3 x0
    go_wp2_with fail
    refine (keep_stt W _ A s (m + 1 + 1 + 1 + 1) _ (m + 1) G1 M0 L0 HS5.out (by omega) ?_ Hlen0.out Hmb0.out (by have := Hn.out; omega)).mono ?_
    · rw [upd_far _ _ _ _ (by omega), upd_far _ _ _ _ (by omega), upd_at]
    rintro e w7 ⟨rfl, vl7, vw7, LV7, LU7, hS7⟩
    have HS7 := Hid.mk hS7
    clear hS7 HS5
    go_wp2_with fail
    refine (keep_stt W _ A _ (m + 1 + 1 + 1 + 1) _ (m + 1 + 1) G2 M1 L1 HS7.out (by omega) ?_ Hlen1.out Hmb1.out (by have := Hn.out; show s.n + 1 ≤ 1000000; omega)).mono ?_
    · rw [upd_far _ _ _ _ (by omega), upd_far _ _ _ _ (by omega), upd_at]
    rintro e w8 ⟨rfl, vl8, vw8, LV8, LU8, hS8⟩
    have HS8 := Hid.mk hS8
    clear hS8 HS7
    go_wp2_with fail
    refine (keep_stt W _ A _ (m + 1 + 1 + 1 + 1) _ (m + 1 + 1 + 1) G3 M0 L0 HS8.out (by omega) ?_ Hlen0.out Hmb0.out (by have := Hn.out; show s.n + 1 + 1 ≤ 1000000; omega)).mono ?_
    · rw [upd_far _ _ _ _ (by omega), upd_far _ _ _ _ (by omega), upd_at]
    rintro e w9 ⟨rfl, vl9, vw9, LV9, LU9, hS9⟩
    have HS9 := Hid.mk hS9
    clear hS9 HS8
    go_wp2
    go_ret2
    refine ⟨rfl, vl9, vw9, LV9, LU9, HS9.out.pop.pop.pop.pop.congrX (fun i hi => ?_)⟩
    rw [upd_far _ _ _ _ (by omega), upd_far _ _ _ _ (by omega), upd_far _ _ _ _ (by omega), upd_far _ _ _ _ (by omega), upd_far _ _ _ _ (by omega), upd_far _ _ _ _ (by omega), upd_far _ _ _ _ (by omega)]

end Go.Proofs.Ytoghkbajdljheaa
