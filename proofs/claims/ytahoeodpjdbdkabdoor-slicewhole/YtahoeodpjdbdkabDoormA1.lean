import Derived.Test.YtahoeodpjdbdkabDoormK0Z
import Derived.Deep.RegionHeldLaw
import Derived.Deep.RegionLaw
namespace Go.Proofs.YtahoeodpjdbdkabDoor
open Go.RowKit

theorem wrap_i {x : Int} (h0 : -9223372036854775808 ≤ x) (h1 : x ≤ 9223372036854775807) : IntKind.i64.wrap x = x := by
  simp only [IntKind.wrap, IntKind.bits, IntKind.signed]; simp; omega
theorem w64_in {x : Int} (h0 : -9223372036854775808 ≤ x) (h1 : x ≤ 9223372036854775807) : wrap64 x = x := by unfold wrap64; omega
theorem alloc_cell (w : World) (cs : Array Value) (t i : Nat) (v : Value) (h : cs[i]? = some v) : (w.alloc (.cells cs t (0, 0))).cell? ⟨w.heap.size, i, none⟩ = some v := by
  rw [cell_of_row _ _ _ _ _ _ (heap_alloc_new w _)]; exact h
theorem alloc_kept (w : World) (o : Obj) : Kept [] w (w.alloc o) := (Kept.refl [] w).alloc o

/-- A model's head in memory. -/
structure Hd (w : World) (P : Nat) (T d : Int) : Prop where
  c0 : w.cell? ⟨P, 0, none⟩ = some (.int .i64 T)
  c1 : w.cell? ⟨P, 1, none⟩ = some (.int .i64 d)
  c2 : w.cell? ⟨P, 2, none⟩ = some (.int .i64 (2 * d + 1))
  c3 : w.cell? ⟨P, 3, none⟩ = some (.int .i64 (rg T d))
  c4 : w.cell? ⟨P, 4, none⟩ = some (.int .i64 (e1 T d))
  c5 : w.cell? ⟨P, 5, none⟩ = some (.int .i64 (e2 T d))
  c6 : w.cell? ⟨P, 6, none⟩ = some (.int .i64 (e3 T d))

set_option maxHeartbeats 1000000 in
theorem cut_any (n l h : Int) (w : World) : Calls Tryd.prog 87 #[.int .i64 n, .int .i64 l, .int .i64 h] w fun e w' => e = .returned (.int .i64 (ct n l h)) ∧ w' = w := by
  go_enter Tryd.func87, Tryd.ntmps87
  go_wp2
  all_goals (go_ret; exact ⟨ret_int (by unfold ct; omega), rfl⟩)

set_option maxHeartbeats 1000000 in
theorem mag_any (n : Int) (w : World) (h0 : -9223372036854775807 ≤ n) (h1 : n ≤ 9223372036854775807) : Calls Tryd.prog 75 #[.int .i64 n] w fun e w' => e = .returned (.int .i64 (mg n)) ∧ w' = w := by
  by_cases h : n < 0
  · go_enter Tryd.func75, Tryd.ntmps75
    go_wp2
    go_ret
    exact ⟨ret_int (by unfold mg; rw [if_pos h]), rfl⟩
  · go_enter Tryd.func75, Tryd.ntmps75
    go_wp2
    go_ret
    exact ⟨ret_int (by unfold mg; rw [if_neg (by omega)]), rfl⟩

set_option maxHeartbeats 1000000 in
theorem sample_any (P : Nat) (T d v : Int) (w : World) (H : Hd w P T d) : Calls Tryd.prog 78 #[.pointer (some ⟨P, 0, none⟩), .int .i64 v] w fun e w' => e = .returned (.int .i64 (ct v 0 T)) ∧ w' = w := by
  have h0 := H.c0
  go_enter Tryd.func78, Tryd.ntmps78
  go_wp2_with (go_at_call 87; refine (cut_any _ _ _ _).mono ?_; rintro e w' ⟨rfl, rfl⟩)
  go_ret
  exact ⟨rfl, rfl⟩

set_option maxHeartbeats 1000000 in
theorem range_any (P : Nat) (T d : Int) (w : World) (H : Hd w P T d) : Calls Tryd.prog 58 #[.pointer (some ⟨P, 0, none⟩)] w fun e w' => e = .returned (.int .i64 (rg T d)) ∧ w' = w := by
  have h0 := H.c3
  go_enter Tryd.func58, Tryd.ntmps58
  go_wp2
  go_ret
  exact ⟨rfl, rfl⟩

set_option maxHeartbeats 1000000 in
theorem quotient_any (P : Nat) (T d v : Int) (w : World) (H : Hd w P T d) (G : Gd T d) : Calls Tryd.prog 74 #[.pointer (some ⟨P, 0, none⟩), .int .i64 v] w fun e w' => e = .returned (.int .i64 (ct v (-rg T d) (rg T d))) ∧ ∃ m, w' = w.drewN m := by
  have h0 := H.c3
  have ⟨g0, g1⟩ := rg_pos T d G
  generalize rg T d = R at *
  go_enter Tryd.func74, Tryd.ntmps74
  go_wp2
  go_quiet ((go_at_call 87; refine Calls.quiet_of_same (cut_any _ _ _ _)))
  go_wp2
  go_ret
  exact ⟨rfl, _, rfl⟩

set_option maxHeartbeats 1000000 in
theorem size_any (P : Nat) (T d g : Int) (w : World) (H : Hd w P T d) : Calls Tryd.prog 97 #[.pointer (some ⟨P, 0, none⟩), .int .i64 g] w fun e w' => e = .returned (.int .i64 (sz T d g)) ∧ w' = w := by
  obtain ⟨-, h1, -, -, h4, h5, h6⟩ := H
  unfold sz
  generalize e1 T d = a1 at *
  generalize e2 T d = a2 at *
  generalize e3 T d = a3 at *
  by_cases k0 : g ≤ d
  · rw [if_pos k0]
    go_enter Tryd.func97, Tryd.ntmps97
    go_wp2
    go_ret
    exact ⟨rfl, rfl⟩
  · rw [if_neg k0]
    by_cases k1 : g < a1
    · rw [if_pos k1]
      go_enter Tryd.func97, Tryd.ntmps97
      go_wp2
      go_ret
      exact ⟨rfl, rfl⟩
    · rw [if_neg k1]
      by_cases k2 : g < a2
      · rw [if_pos k2]
        go_enter Tryd.func97, Tryd.ntmps97
        go_wp2
        go_ret
        exact ⟨rfl, rfl⟩
      · rw [if_neg k2]
        by_cases k3 : g < a3
        · rw [if_pos k3]
          go_enter Tryd.func97, Tryd.ntmps97
          go_wp2
          go_ret
          exact ⟨rfl, rfl⟩
        · rw [if_neg k3]
          go_enter Tryd.func97, Tryd.ntmps97
          go_wp2
          go_ret
          exact ⟨rfl, rfl⟩

set_option maxHeartbeats 1000000 in
theorem degree_any (P : Nat) (T d g : Int) (w : World) (H : Hd w P T d) (g0 : -4096 ≤ g) (g1 : g ≤ 4096) : Calls Tryd.prog 90 #[.pointer (some ⟨P, 0, none⟩), .int .i64 g] w fun e w' => e = .returned (.int .i64 (dg T d g)) ∧ w' = w := by
  unfold dg
  have C := fun x => size_any P T d x w H
  by_cases h : g < 0
  · rw [if_pos h]
    have s0 := sz_lo T d (-g)
    have s1 := sz_hi T d (-g)
    have C := Hid.mk (C (-g))
    generalize sz T d (-g) = s at *
    go_enter Tryd.func90, Tryd.ntmps90
    go_wp2_with (go_at_call 97; refine C.out.mono ?_; rintro e w' ⟨rfl, rfl⟩)
    go_ret
    exact ⟨rfl, rfl⟩
  · rw [if_neg h]
    have C := Hid.mk (C g)
    generalize sz T d g = s at *
    go_enter Tryd.func90, Tryd.ntmps90
    go_wp2_with (go_at_call 97; refine C.out.mono ?_; rintro e w' ⟨rfl, rfl⟩)
    go_ret
    exact ⟨rfl, rfl⟩
end Go.Proofs.YtahoeodpjdbdkabDoor
