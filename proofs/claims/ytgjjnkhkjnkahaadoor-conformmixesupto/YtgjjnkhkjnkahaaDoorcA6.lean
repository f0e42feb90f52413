import Derived.Test.YtgjjnkhkjnkahaaDoorcA5
namespace Go.Proofs.YtgjjnkhkjnkahaaDoor.Tc
open Go.RowKit

/-- The number of a name that is given. -/
def nmb (c l h m s f : Int) : Int := c * (60 * (60 * h + m) + s) + f - (60 * h + m - (60 * h + m) / 10) * l

set_option maxHeartbeats 2000000 in
theorem PerDay_no (r : Int) (w : World) (h : r < 1 ∨ 7 < r) : Calls Tryd.prog 50 #[.int .i64 r] w fun e w' => e = .returned (.tuple #[.int .i64 0, .int .i64 181]) ∧ Kept [] w w' := by
  have C1 := Hid.mk (fun u => paceOf_no r u h)
  clear h
  go_enter Tryd.func50, Tryd.ntmps50
  go_wp2_with (go_at_call 54; refine (C1.out _).mono ?_; rintro e w1 ⟨rfl, k1⟩)
  go_ret2
  exact ⟨rfl, k1.alloc _⟩
set_option maxHeartbeats 2000000 in
theorem PerDay_yes (r : Int) (w : World) (h : Rt r) (hT : Tb w) : Calls Tryd.prog 50 #[.int .i64 r] w fun e w' => e = .returned (.tuple #[.int .i64 (dy r), .int .i64 0]) ∧ Kept [] w w' := by
  have C1 := Hid.mk (fun u t => paceOf_yes r u h t)
  have C2 := Hid.mk (fun u => perDay_any (rc r) (ra r) (rb r) (rl r) u h.pb)
  have HT := Hid.mk hT
  unfold dy
  obtain ⟨D, hD⟩ : ∃ D, 144 * (600 * rc r - 9 * rl r) = D := ⟨_, rfl⟩
  rw [hD] at C2 ⊢
  generalize rc r = c at *
  generalize ra r = a at *
  generalize rb r = b at *
  generalize rl r = l at *
  clear h hT hD
  go_enter Tryd.func50, Tryd.ntmps50
  go_wp2_with (first | (go_at_call 54; refine (C1.out _ HT.out).mono ?_; rintro e w1 ⟨rfl, k1⟩) | (go_at_call 55; refine (C2.out _).mono ?_; rintro e w2 ⟨rfl, k2⟩))
  go_ret2
  exact ⟨rfl, (k1.alloc _).trans k2⟩
theorem dy_le {r : Int} (h : Rt r) : dy r ≤ 5184000 := by
  rcases h.cs with rfl | rfl | rfl | rfl | rfl | rfl | rfl <;> decide
theorem dy_pos {r : Int} (h : Rt r) : 2073600 ≤ dy r := by
  rcases h.cs with rfl | rfl | rfl | rfl | rfl | rfl | rfl <;> decide
end Go.Proofs.YtgjjnkhkjnkahaaDoor.Tc
