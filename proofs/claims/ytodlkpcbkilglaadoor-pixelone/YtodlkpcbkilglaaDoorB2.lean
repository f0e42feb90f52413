import Derived.Test.YtodlkpcbkilglaaDoorA3
import Derived.Deep.RegionHeldLaw
namespace Go.Proofs.YtodlkpcbkilglaaDoor
open Go.RowKit

/-- Which of n a raw number speaks of. -/
def plc (c n : Int) : Int := (if c < 0 then -(c + 1) else c) % n
theorem plc_lo (c : Int) {n : Int} (h : 1 ≤ n) : 0 ≤ plc c n := Int.emod_nonneg _ (by omega)
theorem plc_hi (c : Int) {n : Int} (h : 1 ≤ n) : plc c n < n := Int.emod_lt_of_pos _ (by omega)

set_option maxHeartbeats 4000000 in
set_option maxRecDepth 1000000 in
/-- Two lists are the same. -/
def eqL (f g : Nat → Nat) (n m : Nat) : Bool := decide (n = m) && (List.range n).all fun i => decide (f i = g i)
theorem eqL_yes {f g : Nat → Nat} {n : Nat} (h : ∀ i, i < n → f i = g i) : eqL f g n n = true := by
  unfold eqL
  rw [decide_eq_true rfl, Bool.true_and, List.all_eq_true]
  intro i hi
  simpa using h i (by simpa using hi)
theorem eqL_no {f g : Nat → Nat} {n i : Nat} (hi : i < n) (h : f i ≠ g i) : eqL f g n n = false := by
  unfold eqL
  rw [decide_eq_true rfl, Bool.true_and, List.all_eq_false]
  exact ⟨i, by simpa using hi, by simpa using h⟩
theorem eqL_len {f g : Nat → Nat} {n m : Nat} (h : n ≠ m) : eqL f g n m = false := by
  unfold eqL
  rw [decide_eq_false h, Bool.false_and]

set_option maxHeartbeats 4000000 in
set_option maxRecDepth 1000000 in
/-- All planes are the same. -/
def alF (F G : Nat → Nat → Nat) (n : Nat) (ln lm : Nat → Nat) : Bool := (List.range n).all fun i => eqL (F i) (G i) (ln i) (lm i)
theorem alF_yes {F G : Nat → Nat → Nat} {n : Nat} {ln lm : Nat → Nat} (h : ∀ i, i < n → eqL (F i) (G i) (ln i) (lm i) = true) : alF F G n ln lm = true := by
  unfold alF
  rw [List.all_eq_true]
  intro i hi
  exact h i (by simpa using hi)
theorem alF_no {F G : Nat → Nat → Nat} {n i : Nat} {ln lm : Nat → Nat} (hi : i < n) (h : eqL (F i) (G i) (ln i) (lm i) = false) : alF F G n ln lm = false := by
  unfold alF
  rw [List.all_eq_false]
  exact ⟨i, by simpa using hi, by rw [h]; decide⟩

set_option maxHeartbeats 4000000 in
set_option maxRecDepth 1000000 in
set_option maxHeartbeats 4000000 in
set_option maxRecDepth 1000000 in
theorem top_any (D : Int) (w : World) (hD : D = 10 ∨ D = 12) : Calls Tryd.prog 77 #[.int .i64 D] w fun e w' => e = .returned (.int .i64 (mx D : Int)) ∧ w' = w := by
  rcases hD with rfl | rfl
  · go_enter Tryd.func77, Tryd.ntmps77
    go_wp2
    go_ret
    exact ⟨rfl, rfl⟩
  · go_enter Tryd.func77, Tryd.ntmps77
    go_wp2
    go_ret
    exact ⟨rfl, rfl⟩

set_option maxHeartbeats 4000000 in
set_option maxRecDepth 1000000 in
theorem beyond_any (ao : Option Addr) (n c : Nat) (f : Nat → Nat) (D : Int) (w : World) (hr : Rd w ao n f) (hD : D = 10 ∨ D = 12) (hn : n ≤ 9223372036854775807) (hf : ∀ i, i < n → f i < 65536) :
    Calls Tryd.prog 56 #[.slice ao n c, .int .i64 D] w fun e w' => e = .returned (.bool (abv f n (mx D))) ∧ Kept [] w w' := by
  have Hr := Hid.mk hr
  have Hf := Hid.mk hf
  have C := Hid.mk (fun u => top_any D u hD)
  obtain ⟨M, eM⟩ : ∃ M, M = mx D := ⟨_, rfl⟩
  rw [← eM] at C ⊢
  clear hr hf eM hD
  go_enter Tryd.func56, Tryd.ntmps56
  go_wp2
  go_loopw [5] (fun i wr => ∃ k : Nat, k ≤ n ∧ i = .int .i64 (k : Int) ∧ (∀ j, j < k → f j ≤ M) ∧ Kept [] w wr) (fun i _ => n - (intOf i).toNat)
  case atStart => exact ⟨0, by omega, rfl, fun j hj => by omega, Kept.refl _ _⟩
  case round =>
    obtain ⟨k, hk, rfl, hall, hkr⟩ := hrel
    have Hall := Hid.mk hall
    have Hkr := Hid.mk hkr
    clear hall
    by_cases hlt : k < n
    · obtain ⟨g1, o1, rfl, c1⟩ := (Hr.out.keep hkr).at hlt
      have ix : (k : Int) < (n : Int) := by omega
      have HY := Hid.mk (fun h => abv_yes (f := f) (M := M) hlt h)
      have HN : Hid (f k ≤ M → ∀ j, j < k + 1 → f j ≤ M) := Hid.mk (fun h j hj => by
        by_cases e : j = k
        · subst e; exact h
        · exact Hall.out j (by omega))
      have hx := Hf.out k hlt
      obtain ⟨x, ex⟩ : ∃ x, x = f k := ⟨_, rfl⟩
      rw [← ex] at c1 HN HY hx
      clear ex hkr
      by_cases hM : (M : Int) < (x : Int)
      · go_wp2
        go_quiet ((go_at_call 77; refine Calls.quiet_of_same (C.out _)))
        go_wp2
        go_ret
        exact ⟨ret_bool (HY.out (by omega)).symm, Hkr.out.drewN _⟩
      · go_wp2
        go_quiet ((go_at_call 77; refine Calls.quiet_of_same (C.out _)))
        go_wp2
        go_roundw
        case rel => exact ⟨k + 1, by omega, by go_num, HN.out (by omega), Hkr.out.drewN _⟩
        case measure => simp [intOf]; omega
    · obtain rfl : n = k := by omega
      have H2 := Hid.mk (abv_no.2 Hall.out)
      go_wp2
      go_ret
      exact ⟨ret_bool H2.out.symm, Hkr.out⟩
end Go.Proofs.YtodlkpcbkilglaaDoor
