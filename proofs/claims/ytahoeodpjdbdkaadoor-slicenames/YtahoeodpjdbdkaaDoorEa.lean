import Derived.Test.YtahoeodpjdbdkaaDoorSl
namespace Go.Proofs.YtahoeodpjdbdkaaDoor
open Go.RowKit

/-- May a block have these sides? -/
def szd (w h : Int) : Bool := decide (1 ≤ w ∧ w ≤ 4096 ∧ 1 ≤ h ∧ h ≤ 4096 ∧ w * h ≤ 4194304)
theorem szd_in {w h : Int} (e : szd w h = true) : 1 ≤ w ∧ w ≤ 4096 ∧ 1 ≤ h ∧ h ≤ 4096 ∧ w * h ≤ 4194304 := by unfold szd at e; exact of_decide_eq_true e
def rsz (w h D : Int) : Int × Int := if D ≠ 10 ∧ D ≠ 12 then (0, 91) else if szd w h then (1 + (D * w * h + 7) / 8, 0) else (0, 101)

set_option maxHeartbeats 1000000 in
theorem sized_any (w h : Int) (W : World) : Calls Tryd.prog 16 #[.int .i64 w, .int .i64 h] W fun e W' => e = .returned (.bool (szd w h)) ∧ W' = W := by
  by_cases h1 : 1 ≤ w
  · by_cases h2 : w ≤ 4096
    · by_cases h3 : 1 ≤ h
      · by_cases h4 : h ≤ 4096
        · have p1 : 0 ≤ w * h := Int.mul_nonneg (by omega) (by omega)
          have p2 : w * h ≤ 4096 * 4096 := Int.mul_le_mul h2 h4 (by omega) (by omega)
          obtain ⟨m, hm⟩ : ∃ m, w * h = m := ⟨_, rfl⟩
          have hx : wrap64 (w * h) = m := (w64_in (by omega) (by omega)).trans hm
          have e : szd w h = decide (m ≤ 4194304) := by unfold szd; rw [hm]; simp [h1, h2, h3, h4]
          rw [e]
          clear e hm p1 p2
          go_enter Tryd.func16, Tryd.ntmps16
          go_wp2
          go_ret
          exact ⟨rfl, rfl⟩
        · have e : szd w h = false := by unfold szd; rw [decide_eq_false]; omega
          rw [e]
          go_enter Tryd.func16, Tryd.ntmps16
          go_wp2
          go_ret
          exact ⟨rfl, rfl⟩
      · have e : szd w h = false := by unfold szd; rw [decide_eq_false]; omega
        rw [e]
        go_enter Tryd.func16, Tryd.ntmps16
        go_wp2
        go_ret
        exact ⟨rfl, rfl⟩
    · have e : szd w h = false := by unfold szd; rw [decide_eq_false]; omega
      rw [e]
      go_enter Tryd.func16, Tryd.ntmps16
      go_wp2
      go_ret
      exact ⟨rfl, rfl⟩
  · have e : szd w h = false := by unfold szd; rw [decide_eq_false]; omega
    rw [e]
    go_enter Tryd.func16, Tryd.ntmps16
    go_wp2
    go_ret
    exact ⟨rfl, rfl⟩

set_option maxHeartbeats 2000000 in
theorem rawSize_any (w h D : Int) (W : World) : Calls Tryd.prog 8 #[.int .i64 w, .int .i64 h, .int .i64 D] W fun e W' => e = .returned (.tuple #[.int .i64 (rsz w h D).1, .int .i64 (rsz w h D).2]) ∧ W' = W := by
  by_cases hD : D = 10 ∨ D = 12
  · by_cases hs : szd w h = true
    · have e : rsz w h D = (1 + (D * w * h + 7) / 8, 0) := by unfold rsz; rw [if_neg (by omega), if_pos hs]
      rw [e]
      have C := Hid.mk (fun W => sized_any w h W)
      rw [hs] at C
      have hb := szd_in hs
      have p1 : 0 ≤ w * h := Int.mul_nonneg (by omega) (by omega)
      have p2 : D * w * h = D * (w * h) := Int.mul_assoc _ _ _
      obtain ⟨y, hy⟩ : ∃ y, D * w = y := ⟨_, rfl⟩
      obtain ⟨m, hm⟩ : ∃ m, y * h = m := ⟨_, rfl⟩
      have hyb : 0 ≤ y ∧ y ≤ 12 * 4096 := by rcases hD with rfl | rfl <;> omega
      have hmb : 0 ≤ m ∧ m ≤ 12 * 4194304 := by
        rw [← hm, ← hy, p2]
        generalize w * h = z at *
        rcases hD with rfl | rfl <;> omega
      have x1 : wrap64 (D * w) = y := by rw [hy]; exact w64_in (by omega) (by omega)
      have x2 : wrap64 (y * h) = m := by rw [hm]; exact w64_in (by omega) (by omega)
      rw [hy, hm]
      have d1 : (D != 10 && D != 12) = false := by rcases hD with rfl | rfl <;> rfl
      clear p1 p2 hy hm e hs hb
      rcases hD with rfl | rfl
      all_goals
        go_enter Tryd.func8, Tryd.ntmps8
        go_wp2_with (go_at_call 16; refine (C.out _).mono ?_; rintro e w' ⟨rfl, rfl⟩)
        go_ret2
        exact ⟨rfl, rfl⟩
    · have hs : szd w h = false := by simpa using hs
      have e : rsz w h D = (0, 101) := by unfold rsz; rw [if_neg (by omega), if_neg (by rw [hs]; decide)]
      rw [e]
      have C := Hid.mk (fun W => sized_any w h W)
      rw [hs] at C
      clear e hs
      rcases hD with rfl | rfl
      all_goals
        go_enter Tryd.func8, Tryd.ntmps8
        go_wp2_with (go_at_call 16; refine (C.out _).mono ?_; rintro e w' ⟨rfl, rfl⟩)
        go_ret2
        exact ⟨rfl, rfl⟩
  · have e : rsz w h D = (0, 91) := by unfold rsz; rw [if_pos (by omega)]
    rw [e]
    have d1 : (D != 10) = true := by simp; omega
    have d2 : (D != 12) = true := by simp; omega
    clear e hD
    go_enter Tryd.func8, Tryd.ntmps8
    go_wp2
    go_ret2
    exact ⟨rfl, rfl⟩

set_option maxHeartbeats 1000000 in
theorem sizedD_any (w h : Int) (W : World) : Calls Tryd.prog 17 #[.int .i64 w, .int .i64 h] W fun e W' => e = .returned (.bool (szd w h)) ∧ W' = W := by
  by_cases h1 : 1 ≤ w
  · by_cases h2 : w ≤ 4096
    · by_cases h3 : 1 ≤ h
      · by_cases h4 : h ≤ 4096
        · have p1 : 0 ≤ w * h := Int.mul_nonneg (by omega) (by omega)
          have p2 : w * h ≤ 4096 * 4096 := Int.mul_le_mul h2 h4 (by omega) (by omega)
          obtain ⟨m, hm⟩ : ∃ m, w * h = m := ⟨_, rfl⟩
          have hx : wrap64 (w * h) = m := (w64_in (by omega) (by omega)).trans hm
          have e : szd w h = decide (m ≤ 4194304) := by unfold szd; rw [hm]; simp [h1, h2, h3, h4]
          rw [e]
          clear e hm p1 p2
          go_enter Tryd.func17, Tryd.ntmps17
          go_wp2
          go_ret
          exact ⟨rfl, rfl⟩
        · have e : szd w h = false := by unfold szd; rw [decide_eq_false]; omega
          rw [e]
          go_enter Tryd.func17, Tryd.ntmps17
          go_wp2
          go_ret
          exact ⟨rfl, rfl⟩
      · have e : szd w h = false := by unfold szd; rw [decide_eq_false]; omega
        rw [e]
        go_enter Tryd.func17, Tryd.ntmps17
        go_wp2
        go_ret
        exact ⟨rfl, rfl⟩
    · have e : szd w h = false := by unfold szd; rw [decide_eq_false]; omega
      rw [e]
      go_enter Tryd.func17, Tryd.ntmps17
      go_wp2
      go_ret
      exact ⟨rfl, rfl⟩
  · have e : szd w h = false := by unfold szd; rw [decide_eq_false]; omega
    rw [e]
    go_enter Tryd.func17, Tryd.ntmps17
    go_wp2
    go_ret
    exact ⟨rfl, rfl⟩

set_option maxHeartbeats 2000000 in
theorem rawSizeD_any (w h D : Int) (W : World) : Calls Tryd.prog 9 #[.int .i64 w, .int .i64 h, .int .i64 D] W fun e W' => e = .returned (.tuple #[.int .i64 (rsz w h D).1, .int .i64 (rsz w h D).2]) ∧ W' = W := by
  by_cases hD : D = 10 ∨ D = 12
  · by_cases hs : szd w h = true
    · have e : rsz w h D = (1 + (D * w * h + 7) / 8, 0) := by unfold rsz; rw [if_neg (by omega), if_pos hs]
      rw [e]
      have C := Hid.mk (fun W => sizedD_any w h W)
      rw [hs] at C
      have hb := szd_in hs
      have p1 : 0 ≤ w * h := Int.mul_nonneg (by omega) (by omega)
      have p2 : D * w * h = D * (w * h) := Int.mul_assoc _ _ _
      obtain ⟨y, hy⟩ : ∃ y, D * w = y := ⟨_, rfl⟩
      obtain ⟨m, hm⟩ : ∃ m, y * h = m := ⟨_, rfl⟩
      have hyb : 0 ≤ y ∧ y ≤ 12 * 4096 := by rcases hD with rfl | rfl <;> omega
      have hmb : 0 ≤ m ∧ m ≤ 12 * 4194304 := by
        rw [← hm, ← hy, p2]
        generalize w * h = z at *
        rcases hD with rfl | rfl <;> omega
      have x1 : wrap64 (D * w) = y := by rw [hy]; exact w64_in (by omega) (by omega)
      have x2 : wrap64 (y * h) = m := by rw [hm]; exact w64_in (by omega) (by omega)
      rw [hy, hm]
      have d1 : (D != 10 && D != 12) = false := by rcases hD with rfl | rfl <;> rfl
      clear p1 p2 hy hm e hs hb
      rcases hD with rfl | rfl
      all_goals
        go_enter Tryd.func9, Tryd.ntmps9
        go_wp2_with (go_at_call 17; refine (C.out _).mono ?_; rintro e w' ⟨rfl, rfl⟩)
        go_ret2
        exact ⟨rfl, rfl⟩
    · have hs : szd w h = false := by simpa using hs
      have e : rsz w h D = (0, 101) := by unfold rsz; rw [if_neg (by omega), if_neg (by rw [hs]; decide)]
      rw [e]
      have C := Hid.mk (fun W => sizedD_any w h W)
      rw [hs] at C
      clear e hs
      rcases hD with rfl | rfl
      all_goals
        go_enter Tryd.func9, Tryd.ntmps9
        go_wp2_with (go_at_call 17; refine (C.out _).mono ?_; rintro e w' ⟨rfl, rfl⟩)
        go_ret2
        exact ⟨rfl, rfl⟩
  · have e : rsz w h D = (0, 91) := by unfold rsz; rw [if_pos (by omega)]
    rw [e]
    have d1 : (D != 10) = true := by simp; omega
    have d2 : (D != 12) = true := by simp; omega
    clear e hD
    go_enter Tryd.func9, Tryd.ntmps9
    go_wp2
    go_ret2
    exact ⟨rfl, rfl⟩
end Go.Proofs.YtahoeodpjdbdkaaDoor
