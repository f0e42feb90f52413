import Derived.Test.YthihennifigchabB1
namespace Go.Proofs.Ythihennifigchab
open Go.RowKit

/-- Which of n a raw number speaks of. -/
def plc (c n : Int) : Int := (if c < 0 then -(c + 1) else c) % n
theorem plc_lo (c : Int) {n : Int} (h : 1 ≤ n) : 0 ≤ plc c n := Int.emod_nonneg _ (by omega)
theorem plc_hi (c : Int) {n : Int} (h : 1 ≤ n) : plc c n < n := Int.emod_lt_of_pos _ (by omega)

set_option maxHeartbeats 4000000 in
set_option maxRecDepth 1000000 in
theorem place_any (c n : Int) (w : World) (hc : -9223372036854775808 ≤ c ∧ c ≤ 9223372036854775807) (h1 : 1 ≤ n) (h2 : n ≤ 9223372036854775807) :
    Calls Try.prog 14 #[.int .i64 c, .int .i64 n] w fun e w' => e = .returned (.int .i64 (plc c n)) ∧ w' = w := by
  by_cases h0 : c < 0
  · have E : Hid (plc c n = (-(c + 1)) % n) := Hid.mk (by unfold plc; rw [if_pos h0])
    go_enter Try.func14, Try.ntmps14
    go_wp2
    go_ret
    refine ⟨ret_int ?_, rfl⟩
    rw [E.out, ← Int.tmod_eq_emod_of_nonneg (by omega), Int.neg_tmod]
  · have E : Hid (plc c n = c % n) := Hid.mk (by unfold plc; rw [if_neg h0])
    go_enter Try.func14, Try.ntmps14
    go_wp2
    go_ret
    exact ⟨ret_int E.out.symm, rfl⟩

/-- Two lists are the same. -/
def eqL (f g : Nat → Nat) (n m : Nat) : Bool := decide (n = m) && (List.range n).all fun i => decide (f i = g i)
theorem eqL_yes {f g : Nat → Nat} {n : Nat} (h : ∀ i, i < n → f i = g i) : eqL f g n n = true := by
  unfold eqL
  rw [decide_eq_true rfl, Bool.true_and, List.all_eq_true]
  intro i hi
  simpa using h i (by simpa using hi)
theorem eqL_no {f g : Nat → Nat} {n i : Nat} (hi : i < n) (h : f i ≠ g i) : eqL f g n n = false := by
  unfold eqL
  rw [decide_eq_true rfl, Bool.true_and, List.all_eq_false]
  exact ⟨i, by simpa using hi, by simpa using h⟩
theorem eqL_len {f g : Nat → Nat} {n m : Nat} (h : n ≠ m) : eqL f g n m = false := by
  unfold eqL
  rw [decide_eq_false h, Bool.false_and]

set_option maxHeartbeats 4000000 in
set_option maxRecDepth 1000000 in
theorem equal_any (ao bo : Option Addr) (n c m d : Nat) (f g : Nat → Nat) (w : World) (hr : Rd w ao n f) (hs : Rd w bo m g) (hn : n ≤ 9223372036854775807) (hm : m ≤ 9223372036854775807) :
    Calls Try.prog 47 #[.slice ao n c, .slice bo m d] w fun e w' => e = .returned (.bool (eqL f g n m)) ∧ Kept [] w w' := by
  have Hr := Hid.mk hr
  have Hs := Hid.mk hs
  clear hr hs
  by_cases hnm : n = m
  · subst hnm
    go_enter Try.func47, Try.ntmps47
    go_wp2
    go_loopw [13] (fun i wr => ∃ k : Nat, k ≤ n ∧ i = .int .i64 (k : Int) ∧ (∀ j, j < k → f j = g j) ∧ Kept [] w wr) (fun i _ => n - (intOf i).toNat)
    case atStart => exact ⟨0, by omega, rfl, fun j hj => by omega, Kept.refl _ _⟩
    case round =>
      obtain ⟨k, hk, rfl, hall, hkr⟩ := hrel
      have Hall := Hid.mk hall
      have Hkr := Hid.mk hkr
      clear hall
      by_cases hlt : k < n
      · obtain ⟨g1, o1, rfl, c1⟩ := (Hr.out.keep hkr).at hlt
        obtain ⟨g2, o2, rfl, c2⟩ := (Hs.out.keep hkr).at hlt
        have ix : (k : Int) < (n : Int) := by omega
        have HN := Hid.mk (fun h => eqL_no (f := f) (g := g) hlt h)
        have HY : Hid (f k = g k → ∀ j, j < k + 1 → f j = g j) := Hid.mk (fun h j hj => by
          by_cases e : j = k
          · subst e; exact h
          · exact Hall.out j (by omega))
        obtain ⟨x, ex⟩ : ∃ x, x = f k := ⟨_, rfl⟩
        rw [← ex] at c1 HN HY
        obtain ⟨y, ey⟩ : ∃ y, y = g k := ⟨_, rfl⟩
        rw [← ey] at c2 HN HY
        clear ex ey hkr
        by_cases hxy : x = y
        · have HY2 := Hid.mk (HY.out hxy)
          subst hxy
          clear HN HY
          go_wp2
          go_quiet (fail)
          go_wp2
          go_roundw
          case rel => exact ⟨k + 1, by omega, by go_num, HY2.out, Hkr.out.drewN _⟩
          case measure => simp [intOf]; omega
        · have HN2 := Hid.mk (HN.out hxy)
          have hne : ((x : Int) != (y : Int)) = true := by simp; omega
          clear hxy HN HY
          go_wp2
          go_quiet (fail)
          go_wp2
          go_ret
          exact ⟨ret_bool HN2.out.symm, Hkr.out.drewN _⟩
      · obtain rfl : n = k := by omega
        have H := Hid.mk (eqL_yes Hall.out)
        go_wp2
        go_ret
        exact ⟨ret_bool H.out.symm, Hkr.out⟩
  · have E := Hid.mk (eqL_len (f := f) (g := g) hnm)
    have hne : ((n : Int) != (m : Int)) = true := by simp; omega
    clear hnm
    go_enter Try.func47, Try.ntmps47
    go_wp2
    go_ret
    exact ⟨ret_bool E.out.symm, Kept.refl _ _⟩

/-- All planes are the same. -/
def alF (F G : Nat → Nat → Nat) (n : Nat) (ln lm : Nat → Nat) : Bool := (List.range n).all fun i => eqL (F i) (G i) (ln i) (lm i)
theorem alF_yes {F G : Nat → Nat → Nat} {n : Nat} {ln lm : Nat → Nat} (h : ∀ i, i < n → eqL (F i) (G i) (ln i) (lm i) = true) : alF F G n ln lm = true := by
  unfold alF
  rw [List.all_eq_true]
  intro i hi
  exact h i (by simpa using hi)
theorem alF_no {F G : Nat → Nat → Nat} {n i : Nat} {ln lm : Nat → Nat} (hi : i < n) (h : eqL (F i) (G i) (ln i) (lm i) = false) : alF F G n ln lm = false := by
  unfold alF
  rw [List.all_eq_false]
  exact ⟨i, by simpa using hi, by rw [h]; decide⟩

set_option maxHeartbeats 4000000 in
set_option maxRecDepth 1000000 in
theorem same_any (W H D : Int) (A : Bool) (po qo : Option Addr) (n c m d : Nat) (ln lm : Nat → Nat) (F G : Nat → Nat → Nat) (w : World) (hr : Pl w po n ln F) (hs : Pl w qo m lm G) (hnm : n = m) (hn : n ≤ 9223372036854775807) (hln : ∀ i, i < n → ln i ≤ 9223372036854775807) (hlm : ∀ i, i < n → lm i ≤ 9223372036854775807) :
    Calls Try.prog 19 #[frv W H D A po n c, frv W H D A qo m d] w fun e w' => e = .returned (.bool (alF F G n ln lm)) ∧ Kept [] w w' := by
  subst hnm
  have Hr := Hid.mk hr
  have Hs := Hid.mk hs
  have Hln := Hid.mk hln
  have Hlm := Hid.mk hlm
  clear hr hs hln hlm
  have ha : (A == A) = true := by cases A <;> rfl
  have K1 := Hid.mk ((alloc_kept w (.cells #[.int .i64 W, .int .i64 H, .int .i64 D, .bool A, .slice po n c] 26 (0, 0))).trans (alloc_kept _ (.cells #[.int .i64 W, .int .i64 H, .int .i64 D, .bool A, .slice qo n d] 26 (0, 0))))
  have Q4 := alloc_cell (w.alloc (.cells #[.int .i64 W, .int .i64 H, .int .i64 D, .bool A, .slice po n c] 26 (0, 0))) #[.int .i64 W, .int .i64 H, .int .i64 D, .bool A, .slice qo n d] 26 4 (.slice qo n d) rfl
  rw [World.size_alloc] at Q4
  have HQ4 := Hid.mk Q4
  clear Q4
  go_enter Try.func19, Try.ntmps19
  go_wp2
  obtain ⟨w1, ew1⟩ : ∃ w1, w1 = (w.alloc (.cells #[.int .i64 W, .int .i64 H, .int .i64 D, .bool A, .slice po n c] 26 (0, 0))).alloc (.cells #[.int .i64 W, .int .i64 H, .int .i64 D, .bool A, .slice qo n d] 26 (0, 0)) := ⟨_, rfl⟩
  rw [← ew1] at K1 HQ4 ⊢
  obtain ⟨b, eb⟩ : ∃ b, b = w.heap.size := ⟨_, rfl⟩
  rw [← eb] at HQ4 ⊢
  clear eb ew1
  go_loopw [24] (fun i wr => ∃ k : Nat, k ≤ n ∧ i = .int .i64 (k : Int) ∧ (∀ j, j < k → eqL (F j) (G j) (ln j) (lm j) = true) ∧ Kept [] w1 wr) (fun i _ => n - (intOf i).toNat)
  case atStart => exact ⟨0, by omega, rfl, fun j hj => by omega, Kept.refl _ _⟩
  case round =>
    obtain ⟨k, hk, rfl, hall, hkr⟩ := hrel
    have Hall := Hid.mk hall
    have Hkr := Hid.mk hkr
    clear hall
    by_cases hlt : k < n
    · have q4 := cell_keep hkr HQ4.out (by simp)
      obtain ⟨g1, o1, ro, c1, rfl, z1, r1⟩ := (Hr.out.keep (K1.out.trans hkr)).at hlt
      obtain ⟨g2, o2, so, c2, rfl, z2, r2⟩ := (Hs.out.keep (K1.out.trans hkr)).at hlt
      have ix : (k : Int) < (n : Int) := by omega
      have CE := Hid.mk (equal_any ro so (ln k) c1 (lm k) c2 (F k) (G k) wr r1 r2 (Hln.out k hlt) (Hlm.out k hlt))
      have HN := Hid.mk (fun h => alF_no (F := F) (G := G) (ln := ln) (lm := lm) hlt h)
      have HY : Hid (eqL (F k) (G k) (ln k) (lm k) = true → ∀ j, j < k + 1 → eqL (F j) (G j) (ln j) (lm j) = true) := Hid.mk (fun h j hj => by
        by_cases e : j = k
        · subst e; exact h
        · exact Hall.out j (by omega))
      obtain ⟨x, ex⟩ : ∃ x, x = eqL (F k) (G k) (ln k) (lm k) := ⟨_, rfl⟩
      rw [← ex] at CE HN HY
      obtain ⟨y1, ey1⟩ : ∃ y, y = ln k := ⟨_, rfl⟩
      rw [← ey1] at z1 CE
      obtain ⟨y2, ey2⟩ : ∃ y, y = lm k := ⟨_, rfl⟩
      rw [← ey2] at z2 CE
      clear ex ey1 ey2 hkr r1 r2
      cases x
      · have HN2 := Hid.mk (HN.out rfl)
        clear HN HY
        go_wp2_with (go_at_call 47; refine CE.out.mono ?_; rintro e w2 ⟨rfl, hk2⟩)
        go_ret
        exact ⟨ret_bool HN2.out.symm, (K1.out.trans Hkr.out).trans hk2⟩
      · have HY2 := Hid.mk (HY.out rfl)
        clear HN HY
        go_wp2_with (go_at_call 47; refine CE.out.mono ?_; rintro e w2 ⟨rfl, hk2⟩)
        go_roundw
        case rel => exact ⟨k + 1, by omega, by go_num, HY2.out, Hkr.out.trans hk2⟩
        case measure => simp [intOf]; omega
    · obtain rfl : n = k := by omega
      have H2 := Hid.mk (alF_yes Hall.out)
      go_wp2
      go_ret
      exact ⟨ret_bool H2.out.symm, K1.out.trans Hkr.out⟩

set_option maxHeartbeats 4000000 in
set_option maxRecDepth 1000000 in
theorem top_any (D : Int) (w : World) (hD : D = 10 ∨ D = 12) : Calls Try.prog 59 #[.int .i64 D] w fun e w' => e = .returned (.int .i64 (mx D : Int)) ∧ w' = w := by
  rcases hD with rfl | rfl
  · go_enter Try.func59, Try.ntmps59
    go_wp2
    go_ret
    exact ⟨rfl, rfl⟩
  · go_enter Try.func59, Try.ntmps59
    go_wp2
    go_ret
    exact ⟨rfl, rfl⟩

set_option maxHeartbeats 4000000 in
set_option maxRecDepth 1000000 in
theorem beyond_any (ao : Option Addr) (n c : Nat) (f : Nat → Nat) (D : Int) (w : World) (hr : Rd w ao n f) (hD : D = 10 ∨ D = 12) (hn : n ≤ 9223372036854775807) (hf : ∀ i, i < n → f i < 65536) :
    Calls Try.prog 39 #[.slice ao n c, .int .i64 D] w fun e w' => e = .returned (.bool (abv f n (mx D))) ∧ Kept [] w w' := by
  have Hr := Hid.mk hr
  have Hf := Hid.mk hf
  have C := Hid.mk (fun u => top_any D u hD)
  obtain ⟨M, eM⟩ : ∃ M, M = mx D := ⟨_, rfl⟩
  rw [← eM] at C ⊢
  clear hr hf eM hD
  go_enter Try.func39, Try.ntmps39
  go_wp2
  go_loopw [5] (fun i wr => ∃ k : Nat, k ≤ n ∧ i = .int .i64 (k : Int) ∧ (∀ j, j < k → f j ≤ M) ∧ Kept [] w wr) (fun i _ => n - (intOf i).toNat)
  case atStart => exact ⟨0, by omega, rfl, fun j hj => by omega, Kept.refl _ _⟩
  case round =>
    obtain ⟨k, hk, rfl, hall, hkr⟩ := hrel
    have Hall := Hid.mk hall
    have Hkr := Hid.mk hkr
    clear hall
    by_cases hlt : k < n
    · obtain ⟨g1, o1, rfl, c1⟩ := (Hr.out.keep hkr).at hlt
      have ix : (k : Int) < (n : Int) := by omega
      have HY := Hid.mk (fun h => abv_yes (f := f) (M := M) hlt h)
      have HN : Hid (f k ≤ M → ∀ j, j < k + 1 → f j ≤ M) := Hid.mk (fun h j hj => by
        by_cases e : j = k
        · subst e; exact h
        · exact Hall.out j (by omega))
      have hx := Hf.out k hlt
      obtain ⟨x, ex⟩ : ∃ x, x = f k := ⟨_, rfl⟩
      rw [← ex] at c1 HN HY hx
      clear ex hkr
      by_cases hM : (M : Int) < (x : Int)
      · go_wp2
        go_quiet ((go_at_call 59; refine Calls.quiet_of_same (C.out _)))
        go_wp2
        go_ret
        exact ⟨ret_bool (HY.out (by omega)).symm, Hkr.out.drewN _⟩
      · go_wp2
        go_quiet ((go_at_call 59; refine Calls.quiet_of_same (C.out _)))
        go_wp2
        go_roundw
        case rel => exact ⟨k + 1, by omega, by go_num, HN.out (by omega), Hkr.out.drewN _⟩
        case measure => simp [intOf]; omega
    · obtain rfl : n = k := by omega
      have H2 := Hid.mk (abv_no.2 Hall.out)
      go_wp2
      go_ret
      exact ⟨ret_bool H2.out.symm, Hkr.out⟩
end Go.Proofs.Ythihennifigchab
