import Derived.Test.YtdnbjbdokppfnaaDoorE1
namespace Go.Proofs.YtdnbjbdokppfnaaDoor
open Go.RowKit Go.Lib

theorem nms_one : nms 30 1 2 59 = ⟨#[48, 48, 58, 48, 49, 58, 48, 48, 59, 48, 50]⟩ := by kernel_rfl
theorem nms_two : nms 60 1 4 59 = ⟨#[48, 48, 58, 48, 49, 58, 48, 48, 59, 48, 52]⟩ := by kernel_rfl
theorem rt4 : Rt 4 := ⟨by decide, by decide⟩
theorem rt7 : Rt 7 := ⟨by decide, by decide⟩
theorem Name_one (w : World) (hT : Tb w) : Calls Tryd.prog 12 #[.int .i64 4, .int .i64 1800] w fun e w' => e = .returned (.tuple #[.string ⟨#[48, 48, 58, 48, 49, 58, 48, 48, 59, 48, 50]⟩, .int .i64 0]) ∧ Kept [] w w' := by
  have := Name_yes 4 1800 1 2 w rt4 hT (by decide) (by decide) (by decide) (by decide) (by decide) (by decide) (by decide)
  rw [show rc 4 = 30 from rfl, show lm (rl 4) = 59 from rfl, nms_one] at this
  exact this
theorem Number_one (w : World) (hT : Tb w) : Calls Tryd.prog 18 #[.int .i64 7, .string ⟨#[48, 48, 58, 48, 49, 58, 48, 48, 59, 48, 52]⟩] w fun e w' => e = .returned (.tuple #[.int .i64 3600, .nilIface]) ∧ Kept [] w w' := by
  refine (Number_any 7 _ w hT (by decide)).mono ?_
  rintro e w' ⟨x, A, E, v, hn, rfl, he, hk⟩
  rw [← nms_two] at hn
  obtain ⟨rfl, rfl, rfl⟩ := NR_name (M := 1) (k := 4) rt7 (by decide) (by decide) (by decide) (by decide) (by decide) hn
  rcases he with ⟨_, _, rfl⟩ | ⟨h, _⟩
  · exact ⟨rfl, hk⟩
  · exact (h rfl).elim

set_option maxHeartbeats 4000000 in
theorem shown_any (w : World) (hT : Tb w) : Calls Tryd.prog 9 #[] w fun e w' => e = .returned (.bool true) ∧ Kept [] w w' := by
  have HT := Hid.mk hT
  have C1 := Hid.mk Name_one
  have C2 := Hid.mk Number_one
  clear hT
  go_enter Tryd.func9, Tryd.ntmps9
  go_wp2_with (first | (go_at_call 12; refine (C1.out _ HT.out).mono ?_; rintro e w1 ⟨rfl, k1⟩; have HT1 := Hid.mk (HT.out.keep k1)) | (go_at_call 18; refine (C2.out _ HT1.out).mono ?_; rintro e w2 ⟨rfl, k2⟩))
  go_ret
  exact ⟨rfl, k1.trans k2⟩

/-- Which of n things a raw number speaks of. -/
def pick (c n : Int) : Int := if c < 0 then (-(c + 1)) % n else c % n
theorem pick_lo (c n : Int) (h : 0 < n) : 0 ≤ pick c n := by
  unfold pick; split <;> exact Int.emod_nonneg _ (by omega)
theorem pick_hi (c n : Int) (h : 0 < n) : pick c n < n := by
  unfold pick; split <;> exact Int.emod_lt_of_pos _ h
set_option maxHeartbeats 1000000 in
theorem place_any (c n : Int) (w : World) (c0 : -9223372036854775808 ≤ c) (c1 : c ≤ 9223372036854775807) (h : 0 < n) (h1 : n ≤ 9223372036854775807) :
    Calls Tryd.prog 23 #[.int .i64 c, .int .i64 n] w fun e w' => e = .returned (.int .i64 (pick c n)) ∧ w' = w := by
  have hn : ¬ n = 0 := by omega
  by_cases hc : c < 0
  · go_enter Tryd.func23, Tryd.ntmps23
    go_wp2
    go_ret
    exact ⟨ret_int (by unfold pick; rw [if_pos hc, ← Int.neg_tmod, Int.tmod_eq_emod_of_nonneg (by omega)]), rfl⟩
  · go_enter Tryd.func23, Tryd.ntmps23
    go_wp2
    go_ret
    exact ⟨ret_int (by unfold pick; rw [if_neg (by omega)]), rfl⟩
end Go.Proofs.YtdnbjbdokppfnaaDoor
