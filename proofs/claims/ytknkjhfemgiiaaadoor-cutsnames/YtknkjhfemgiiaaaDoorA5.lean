import Derived.Test.YtknkjhfemgiiaaaDoorA4
namespace Go.Proofs.YtknkjhfemgiiaaaDoor
open Go.RowKit

/-- The sign ahead of a name's frame. -/
def lm (l : Int) : Int := if 0 < l then 59 else 58
set_option maxHeartbeats 1000000 in
theorem drops_any (c a b l : Int) (w : World) : Calls Tryd.prog 80 #[pv c a b l] w fun e w' => e = .returned (.bool (decide (0 < l))) ∧ Kept [] w w' := by
  go_enter Tryd.func80, Tryd.ntmps80
  go_wp2
  go_ret
  exact ⟨rfl, alloc_kept _ _⟩
set_option maxHeartbeats 1000000 in
theorem lastMark_any (c a b l : Int) (w : World) : Calls Tryd.prog 79 #[pv c a b l] w fun e w' => e = .returned (.int .i32 (lm l)) ∧ Kept [] w w' := by
  have C1 := Hid.mk (fun u => drops_any c a b l u)
  unfold lm
  by_cases h : 0 < l
  · rw [if_pos h]
    go_enter Tryd.func79, Tryd.ntmps79
    go_wp2_with (go_at_call 80; refine (C1.out _).mono ?_; rintro e w1 ⟨rfl, k1⟩)
    go_ret
    exact ⟨rfl, (alloc_kept _ _).trans k1⟩
  · rw [if_neg h]
    go_enter Tryd.func79, Tryd.ntmps79
    go_wp2_with (go_at_call 80; refine (C1.out _).mono ?_; rintro e w1 ⟨rfl, k1⟩)
    go_ret
    exact ⟨rfl, (alloc_kept _ _).trans k1⟩
set_option maxHeartbeats 1000000 in
theorem digitAt_any (i : Int) (w : World) (h : 0 ≤ i) (h1 : i ≤ 9223372036854775807) : Calls Tryd.prog 76 #[.int .i64 i] w fun e w' => e = .returned (.bool (decide (i % 3 < 2))) ∧ w' = w := by
  go_enter Tryd.func76, Tryd.ntmps76
  go_wp2
  go_ret
  exact ⟨rfl, rfl⟩
set_option maxHeartbeats 1000000 in
theorem dayMinute_any (h m s f : Int) (w : World) (h0 : 0 ≤ h) (h1 : h ≤ 99) (m0 : 0 ≤ m) (m1 : m ≤ 99) : Calls Tryd.prog 77 #[pv h m s f] w fun e w' => e = .returned (.int .i64 (60 * h + m)) ∧ Kept [] w w' := by
  go_enter Tryd.func77, Tryd.ntmps77
  go_wp2
  go_ret
  exact ⟨rfl, alloc_kept _ _⟩

/-- What is wrong with what a name tells: the place, the number. -/
def ckA (c h m s f l : Int) : Int := if 23 < h then 0 else if 59 < m then 3 else if 59 < s then 6 else if c ≤ f then 9 else if m % 10 ≠ 0 ∧ s = 0 ∧ f < l then 9 else 0
def ckE (c h m s f l : Int) : Int := if 23 < h then 184 else if 59 < m then 182 else if 59 < s then 182 else if c ≤ f then 182 else if m % 10 ≠ 0 ∧ s = 0 ∧ f < l then 183 else 0
theorem two_kept (w : World) (o o' : Obj) : Kept [] w ((w.alloc o).alloc o') := (alloc_kept w o).alloc o'
set_option maxHeartbeats 4000000 in
theorem check_any (c a b l h m s f : Int) (w : World) (m0 : 0 ≤ m) : Calls Tryd.prog 67 #[pv c a b l, pv h m s f] w fun e w' => e = .returned (.tuple #[.int .i64 (ckA c h m s f l), .int .i64 (ckE c h m s f l)]) ∧ Kept [] w w' := by
  unfold ckA ckE
  by_cases h1 : 23 < h
  · rw [if_pos h1, if_pos h1]
    go_enter Tryd.func67, Tryd.ntmps67
    go_wp2
    go_ret2
    exact ⟨rfl, two_kept _ _ _⟩
  rw [if_neg h1, if_neg h1]
  by_cases h2 : 59 < m
  · rw [if_pos h2, if_pos h2]
    go_enter Tryd.func67, Tryd.ntmps67
    go_wp2
    go_ret2
    exact ⟨rfl, two_kept _ _ _⟩
  rw [if_neg h2, if_neg h2]
  by_cases h3 : 59 < s
  · rw [if_pos h3, if_pos h3]
    go_enter Tryd.func67, Tryd.ntmps67
    go_wp2
    go_ret2
    exact ⟨rfl, two_kept _ _ _⟩
  rw [if_neg h3, if_neg h3]
  by_cases h4 : c ≤ f
  · rw [if_pos h4, if_pos h4]
    go_enter Tryd.func67, Tryd.ntmps67
    go_wp2
    go_ret2
    exact ⟨rfl, two_kept _ _ _⟩
  rw [if_neg h4, if_neg h4]
  by_cases h5 : m % 10 = 0
  · rw [if_neg (fun e => e.1 h5), if_neg (fun e => e.1 h5)]
    go_enter Tryd.func67, Tryd.ntmps67
    go_wp2
    go_ret2
    exact ⟨rfl, two_kept _ _ _⟩
  by_cases h6 : s = 0
  · by_cases h7 : f < l
    · rw [if_pos ⟨h5, h6, h7⟩, if_pos ⟨h5, h6, h7⟩]
      subst h6
      go_enter Tryd.func67, Tryd.ntmps67
      go_wp2
      go_ret2
      exact ⟨rfl, two_kept _ _ _⟩
    · rw [if_neg (fun e => h7 e.2.2), if_neg (fun e => h7 e.2.2)]
      subst h6
      go_enter Tryd.func67, Tryd.ntmps67
      go_wp2
      go_ret2
      exact ⟨rfl, two_kept _ _ _⟩
  · rw [if_neg (fun e => h6 e.2.1), if_neg (fun e => h6 e.2.1)]
    go_enter Tryd.func67, Tryd.ntmps67
    go_wp2
    go_ret2
    exact ⟨rfl, two_kept _ _ _⟩
end Go.Proofs.YtknkjhfemgiiaaaDoor
