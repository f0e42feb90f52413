import Derived.Test.YtdnbjbdokppfnaaDoorJ2
namespace Go.Proofs.YtdnbjbdokppfnaaDoor
open Go.RowKit Go.Lib

/-- What both sides answer of a rate and a number. -/
structure Both (r n d E0 : Int) (s : ByteArray) (x : Int) (f : Nat) (E : Int) : Prop where
  p1 : ∀ w, Tb w → Calls Tryd.prog 10 #[.int .i64 r] w fun e w' => e = .returned (.tuple #[.int .i64 d, .int .i64 E0]) ∧ Kept [] w w'
  p2 : ∀ w, Calls Tryd.prog 11 #[.int .i64 r] w fun e w' => e = .returned (.tuple #[.int .i64 d, .int .i64 E0]) ∧ w' = w
  n1 : ∀ w, Tb w → Calls Tryd.prog 12 #[.int .i64 r, .int .i64 n] w fun e w' => e = .returned (.tuple #[.string s, .int .i64 E]) ∧ Kept [] w w'
  n2 : ∀ w, Calls Tryd.prog 13 #[.int .i64 r, .int .i64 n] w fun e w' => e = .returned (.tuple #[.string s, .int .i64 E]) ∧ Kept [] w w'
  d1 : ∀ w, Tb w → Calls Tryd.prog 14 #[.int .i64 r, .int .i64 n] w fun e w' => e = .returned (.tuple #[.int .i64 x, .int .i64 E]) ∧ Kept [] w w'
  d2 : ∀ w, Calls Tryd.prog 15 #[.int .i64 r, .int .i64 n] w fun e w' => e = .returned (.tuple #[.int .i64 x, .int .i64 E]) ∧ w' = w
  s1 : ∀ w, Tb w → Calls Tryd.prog 16 #[.int .i64 r, .int .i64 n] w fun e w' => e = .returned (.tuple #[.float .f64 f, .int .i64 E]) ∧ Kept [] w w'
  s2 : ∀ w, Calls Tryd.prog 17 #[.int .i64 r, .int .i64 n] w fun e w' => e = .returned (.tuple #[.float .f64 f, .int .i64 E]) ∧ w' = w
  eq : (FloatKind.f64.format.order f f == some Ordering.eq) = true
theorem both_ex (r n : Int) : ∃ d E0 s x f E, Both r n d E0 s x f E := by
  by_cases hr : 1 ≤ r ∧ r ≤ 7
  · have h : Rt r := hr
    by_cases hn : n < 0 ∨ dy r ≤ n
    · have ha : ask r n = 184 := by unfold ask; rw [if_neg (by omega), if_pos hn]
      have hc := fun u (hu : Tb u) => paceOfFrame_day r n u h hu hn
      exact ⟨dy r, 0, ⟨#[]⟩, 0, 0, 184, fun w t => PerDay_yes r w h t, fun w => rPerDay_yes r w h, fun w t => Name_e r n 184 w (by decide) hc t, fun w => (rName_e r n 184 w (by decide) ha).mono fun _ _ ⟨h1, h2⟩ => ⟨h1, h2 ▸ Kept.refl _ _⟩, fun w t => Dropped_e r n 184 w (by decide) hc t, fun w => rDropped_e r n 184 w (by decide) ha, fun w t => Seconds_e r n 184 w (by decide) hc t, fun w => rSeconds_e r n 184 w (by decide) ha, by decide⟩
    · have n0 : 0 ≤ n := by omega
      have n1 : n < dy r := by omega
      obtain ⟨M, k, M0, M1, k0, k1, e1, e2, hl⟩ := plc h n0 n1
      have e3 : n + (M - M / 10) * rl r = 60 * rc r * M + k := by rw [← e2]; exact e1
      refine ⟨dy r, 0, nms (rc r) M k (lm (rl r)), (M - M / 10) * rl r, scB r n, 0, fun w t => PerDay_yes r w h t, fun w => rPerDay_yes r w h, fun w t => Name_yes r n M k w h t n0 n1 M0 M1 k0 k1 e1, fun w => rName_yes r n M k w h n0 n1 M0 M1 k0 k1 hl e3, fun w t => ?_, fun w => rDropped_yes r n M k w h n0 n1 k0 k1 hl e3, fun w t => Seconds_yes r n w h t n0 n1, fun w => rSeconds_yes r n w h n0 n1, (scB_ok r n h n0 (by have := dy_le h; omega)).2⟩
      have := Dropped_yes r n w h t n0 n1
      rw [e2] at this
      exact this
  · have ho : r < 1 ∨ 7 < r := by omega
    have ha : ask r n = 181 := by unfold ask; rw [if_pos ho]
    have hc := fun u (_ : Tb u) => paceOfFrame_no r n u ho
    exact ⟨0, 181, ⟨#[]⟩, 0, 0, 181, fun w _ => PerDay_no r w ho, fun w => rPerDay_no r w ho, fun w t => Name_e r n 181 w (by decide) hc t, fun w => (rName_e r n 181 w (by decide) ha).mono fun _ _ ⟨h1, h2⟩ => ⟨h1, h2 ▸ Kept.refl _ _⟩, fun w t => Dropped_e r n 181 w (by decide) hc t, fun w => rDropped_e r n 181 w (by decide) ha, fun w t => Seconds_e r n 181 w (by decide) hc t, fun w => rSeconds_e r n 181 w (by decide) ha, by decide⟩
set_option maxHeartbeats 8000000 in
set_option maxRecDepth 1000000 in
theorem numbers_any (r n : Int) (w : World) (hT : Tb w) : Calls Tryd.prog 3 #[.int .i64 r, .int .i64 n] w fun e w' => e = .returned (.bool true) ∧ Kept [] w w' := by
  obtain ⟨d, E0, s, x, f, E, B⟩ := both_ex r n
  have HB := Hid.mk B
  have hf := B.eq
  have hs : (s.toList == s.toList) = true := by simp
  have CS := Hid.mk (fun u x => shown_any u x)
  have FIN : Hid (∀ w1, Kept [] w w1 → Tb w1) := Hid.mk fun w1 k => hT.keep k
  clear B hT
  go_enter Tryd.func3, Tryd.ntmps3
  go_wp2_with (fail)
  refine (CS.out _ (FIN.out _ (Kept.refl _ _))).mono ?_
  rintro e w1 ⟨rfl, k1⟩
  go_wp2_with (fail)
  refine (HB.out.p1 _ (FIN.out _ k1)).mono ?_
  rintro e w2 ⟨rfl, k2⟩
  have K2 := Hid.mk (k1.trans k2)
  clear k1 k2
  go_wp2_with (fail)
  refine (HB.out.p2 _).mono ?_
  rintro e w2 ⟨rfl, rfl⟩
  go_wp2_with (fail)
  refine (HB.out.n1 _ (FIN.out _ K2.out)).mono ?_
  rintro e w3 ⟨rfl, k3⟩
  have K3 := Hid.mk (K2.out.trans k3)
  clear k3
  go_wp2_with (fail)
  refine (HB.out.n2 _).mono ?_
  rintro e w4 ⟨rfl, k4⟩
  have K4 := Hid.mk (K3.out.trans k4)
  clear k4
  go_wp2_with (fail)
  refine (HB.out.d1 _ (FIN.out _ K4.out)).mono ?_
  rintro e w5 ⟨rfl, k5⟩
  have K5 := Hid.mk (K4.out.trans k5)
  clear k5
  go_wp2_with (fail)
  refine (HB.out.d2 _).mono ?_
  rintro e w5 ⟨rfl, rfl⟩
  go_wp2_with (fail)
  refine (HB.out.s1 _ (FIN.out _ K5.out)).mono ?_
  rintro e w6 ⟨rfl, k6⟩
  have K6 := Hid.mk (K5.out.trans k6)
  clear k6
  go_wp2_with (fail)
  refine (HB.out.s2 _).mono ?_
  rintro e w6 ⟨rfl, rfl⟩
  go_wp2
  go_ret
  exact ⟨by first | rfl | simp, K6.out⟩
end Go.Proofs.YtdnbjbdokppfnaaDoor
