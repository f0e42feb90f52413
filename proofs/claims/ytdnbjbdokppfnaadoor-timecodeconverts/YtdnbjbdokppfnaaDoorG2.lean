import Derived.Test.YtdnbjbdokppfnaaDoorG1
import Derived.Test.YtdnbjbdokppfnaaDoorE2
namespace Go.Proofs.YtdnbjbdokppfnaaDoor
open Go.RowKit

theorem rRate_any (r : Int) (w : World) : Calls Tryd.prog 27 #[.int .i64 r] w fun e w' => e = .returned (.bool (decide (1 ≤ r ∧ r ≤ 7))) ∧ w' = w := by
  by_cases h : 1 ≤ r ∧ r ≤ 7
  · rw [decide_eq_true h]; exact rRate_yes r w h
  · rw [decide_eq_false h]; exact rRate_no r w (by omega)
set_option maxHeartbeats 4000000 in
theorem rConvert_rate (f t n : Int) (w : World) (h : ¬ (1 ≤ f ∧ f ≤ 7) ∨ ¬ (1 ≤ t ∧ t ≤ 7)) : Calls Tryd.prog 22 #[.int .i64 f, .int .i64 t, .int .i64 n] w fun e w' => e = .returned (.tuple #[.int .i64 0, .int .i64 181]) ∧ w' = w := by
  have C1 := Hid.mk (fun u => rRate_any f u)
  have C2 := Hid.mk (fun u => rRate_any t u)
  by_cases hf : 1 ≤ f ∧ f ≤ 7
  · have ht : ¬ (1 ≤ t ∧ t ≤ 7) := by omega
    rw [decide_eq_true hf] at C1
    rw [decide_eq_false ht] at C2
    clear h hf ht
    go_enter Tryd.func22, Tryd.ntmps22
    go_wp2_with (fail)
    refine (C1.out _).mono ?_
    rintro e w1 ⟨rfl, rfl⟩
    go_wp2_with (fail)
    refine (C2.out _).mono ?_
    rintro e w1 ⟨rfl, rfl⟩
    go_wp2
    go_ret2
    exact ⟨rfl, rfl⟩
  · rw [decide_eq_false hf] at C1
    generalize decide (1 ≤ t ∧ t ≤ 7) = B at *
    clear h hf
    go_enter Tryd.func22, Tryd.ntmps22
    go_wp2_with (fail)
    refine (C1.out _).mono ?_
    rintro e w1 ⟨rfl, rfl⟩
    go_wp2_with (fail)
    refine (C2.out _).mono ?_
    rintro e w1 ⟨rfl, rfl⟩
    go_wp2
    go_ret2
    exact ⟨rfl, rfl⟩
set_option maxHeartbeats 4000000 in
theorem rConvert_day (f t n : Int) (w : World) (hf : Rt f) (ht : Rt t) (hn : n < 0 ∨ dy f ≤ n) : Calls Tryd.prog 22 #[.int .i64 f, .int .i64 t, .int .i64 n] w fun e w' => e = .returned (.tuple #[.int .i64 0, .int .i64 184]) ∧ w' = w := by
  have C1 := Hid.mk (fun u => rRate_yes f u hf)
  have C2 := Hid.mk (fun u => rRate_yes t u ht)
  have C3 := Hid.mk (fun u => rasked_any f n u)
  rw [show ask f n = 184 by unfold ask; obtain ⟨h0, h1⟩ := hf; rw [if_neg (by omega), if_pos hn]] at C3
  clear hf ht hn
  go_enter Tryd.func22, Tryd.ntmps22
  go_wp2_with (fail)
  refine (C1.out _).mono ?_
  rintro e w1 ⟨rfl, rfl⟩
  go_wp2_with (fail)
  refine (C2.out _).mono ?_
  rintro e w1 ⟨rfl, rfl⟩
  go_wp2_with (go_at_call 34; refine (C3.out _).mono ?_; rintro e w1 ⟨rfl, rfl⟩)
  go_ret2
  exact ⟨rfl, rfl⟩
set_option maxHeartbeats 4000000 in
theorem rConvert_go (f t n E : Int) (w : World) (hf : Rt f) (ht : Rt t) (n0 : 0 ≤ n) (n1 : n < dy f) (hE : ask t (cv f t n) = E) : Calls Tryd.prog 22 #[.int .i64 f, .int .i64 t, .int .i64 n] w fun e w' => e = .returned (.tuple #[.int .i64 (if E = 0 then cv f t n else 0), .int .i64 E]) ∧ w' = w := by
  have hd := dy_le hf
  have C1 := Hid.mk (fun u => rRate_yes f u hf)
  have C2 := Hid.mk (fun u => rRate_yes t u ht)
  have C3 := Hid.mk (fun u => rasked_any f n u)
  rw [show ask f n = 0 by unfold ask; obtain ⟨h0, h1⟩ := hf; rw [if_neg (by omega), if_neg (by omega)]] at C3
  have C4 := Hid.mk (fun u => rspeed_any f u hf)
  have C5 := Hid.mk (fun u => rspeed_any t u ht)
  have C6 := Hid.mk (fun u => rasked_any t (cv f t n) u)
  rw [hE] at C6
  obtain ⟨⟨x0, x1⟩, ⟨y0, y1⟩, ⟨z0, z1⟩, v0, v1⟩ := cv_facts (rb f) (ra t) (ra f) (rb t) n n0 (by omega) hf.pb.b0 hf.pb.b1 ht.pb.a0 ht.pb.a1 hf.pb.a0 hf.pb.a1 ht.pb.b0 ht.pb.b1
  unfold cv at C6 ⊢
  clear hf ht hd hE n1
  generalize ra t = a at *
  generalize rb t = b at *
  generalize ra f = a2 at *
  generalize rb f = b2 at *
  obtain ⟨x, hx⟩ : ∃ x, n * b2 = x := ⟨_, rfl⟩
  rw [hx] at x0 x1 y0 y1 v0 v1 C6 ⊢
  obtain ⟨y, hy⟩ : ∃ y, x * a = y := ⟨_, rfl⟩
  rw [hy] at y0 y1 v0 v1 C6 ⊢
  obtain ⟨z, hz⟩ : ∃ z, a2 * b = z := ⟨_, rfl⟩
  rw [hz] at z0 z1 v0 v1 C6 ⊢
  obtain ⟨v, hv⟩ : ∃ v, y / z = v := ⟨_, rfl⟩
  rw [hv] at v0 v1 C6 ⊢
  have zn : ¬ z = 0 := by omega
  by_cases h0 : E = 0
  · rw [if_pos h0]
    subst h0
    go_enter Tryd.func22, Tryd.ntmps22
    go_wp2_with (fail)
    refine (C1.out _).mono ?_
    rintro e w1 ⟨rfl, rfl⟩
    go_wp2_with (fail)
    refine (C2.out _).mono ?_
    rintro e w1 ⟨rfl, rfl⟩
    go_wp2_with (fail)
    refine (C3.out _).mono ?_
    rintro e w1 ⟨rfl, rfl⟩
    go_wp2_with (fail)
    refine (C4.out _).mono ?_
    rintro e w1 ⟨rfl, rfl⟩
    go_wp2_with (fail)
    refine (C5.out _).mono ?_
    rintro e w1 ⟨rfl, rfl⟩
    go_wp2_with (fail)
    refine (C6.out _).mono ?_
    rintro e w1 ⟨rfl, rfl⟩
    go_wp2
    go_ret2
    exact ⟨rfl, rfl⟩
  · rw [if_neg h0]
    have t1 : (E != 0) = true := by simpa using h0
    go_enter Tryd.func22, Tryd.ntmps22
    go_wp2_with (fail)
    refine (C1.out _).mono ?_
    rintro e w1 ⟨rfl, rfl⟩
    go_wp2_with (fail)
    refine (C2.out _).mono ?_
    rintro e w1 ⟨rfl, rfl⟩
    go_wp2_with (fail)
    refine (C3.out _).mono ?_
    rintro e w1 ⟨rfl, rfl⟩
    go_wp2_with (fail)
    refine (C4.out _).mono ?_
    rintro e w1 ⟨rfl, rfl⟩
    go_wp2_with (fail)
    refine (C5.out _).mono ?_
    rintro e w1 ⟨rfl, rfl⟩
    go_wp2_with (fail)
    refine (C6.out _).mono ?_
    rintro e w1 ⟨rfl, rfl⟩
    go_wp2
    go_ret2
    exact ⟨rfl, rfl⟩
/-- Both answer alike. -/
theorem convert_both (f t n : Int) : ∃ x E, (∀ w, Tb w → Calls Tryd.prog 21 #[.int .i64 f, .int .i64 t, .int .i64 n] w fun e w' => e = .returned (.tuple #[.int .i64 x, .int .i64 E]) ∧ Kept [] w w') ∧ (∀ w, Calls Tryd.prog 22 #[.int .i64 f, .int .i64 t, .int .i64 n] w fun e w' => e = .returned (.tuple #[.int .i64 x, .int .i64 E]) ∧ w' = w) := by
  by_cases ht : 1 ≤ t ∧ t ≤ 7
  · by_cases hf : 1 ≤ f ∧ f ≤ 7
    · have hf' : Rt f := hf
      have ht' : Rt t := ht
      by_cases hn : n < 0 ∨ dy f ≤ n
      · exact ⟨0, 184, fun w hT => Convert_e f t n 184 w ht' (by decide) (fun u hu => paceOfFrame_day f n u hf' hu hn) hT, fun w => rConvert_day f t n w hf' ht' hn⟩
      · have n0 : 0 ≤ n := by omega
        have n1 : n < dy f := by omega
        have c0 : 0 ≤ cv f t n := (cv_facts (rb f) (ra t) (ra f) (rb t) n n0 (by have := dy_le hf'; omega) hf'.pb.b0 hf'.pb.b1 ht'.pb.a0 ht'.pb.a1 hf'.pb.a0 hf'.pb.a1 ht'.pb.b0 ht'.pb.b1).2.2.2.1
        by_cases hc : cv f t n < dy t
        · exact ⟨cv f t n, 0, fun w hT => Convert_yes f t n w hf' ht' hT n0 n1 hc, fun w => rConvert_go f t n 0 w hf' ht' n0 n1 (by unfold ask; rw [if_neg (by omega), if_neg (by omega)])⟩
        · exact ⟨0, 184, fun w hT => Convert_far f t n w hf' ht' hT n0 n1 hc, fun w => rConvert_go f t n 184 w hf' ht' n0 n1 (by unfold ask; rw [if_neg (by omega), if_pos (by omega)])⟩
    · exact ⟨0, 181, fun w hT => Convert_e f t n 181 w ht (by decide) (fun u _ => paceOfFrame_no f n u (by omega)) hT, fun w => rConvert_rate f t n w (.inl hf)⟩
  · exact ⟨0, 181, fun w _ => Convert_to f t n w (by omega), fun w => rConvert_rate f t n w (.inr ht)⟩
set_option maxHeartbeats 4000000 in
theorem converts_any (f t n : Int) (w : World) (hT : Tb w) : Calls Tryd.prog 5 #[.int .i64 f, .int .i64 t, .int .i64 n] w fun e w' => e = .returned (.bool true) ∧ Kept [] w w' := by
  obtain ⟨x, E, D1, D2⟩ := convert_both f t n
  have C1 := Hid.mk D1
  have C2 := Hid.mk D2
  have CS := Hid.mk (fun u x => shown_any u x)
  have HT := Hid.mk hT
  clear hT D1 D2
  go_enter Tryd.func5, Tryd.ntmps5
  go_wp2_with (first | (go_at_call 9; refine (CS.out _ HT.out).mono ?_; rintro e w1 ⟨rfl, k1⟩; have HT1 := Hid.mk (HT.out.keep k1)) | (go_at_call 21; refine (C1.out _ HT1.out).mono ?_; rintro e w2 ⟨rfl, k2⟩) | (go_at_call 22; refine (C2.out _).mono ?_; rintro e w3 ⟨rfl, rfl⟩))
  go_ret
  exact ⟨by simp, k1.trans k2⟩
end Go.Proofs.YtdnbjbdokppfnaaDoor
