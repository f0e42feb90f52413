import Derived.Test.YtodlkpcbkilglaaDoorA3
import Derived.Deep.RegionHeldLaw
import Derived.Test.YtodlkpcbkilglaaDoorA7
namespace Go.Proofs.YtodlkpcbkilglaaDoor
open Go.RowKit

/-- Which of n a raw number speaks of. -/
def plc (c n : Int) : Int := (if c < 0 then -(c + 1) else c) % n
theorem plc_lo (c : Int) {n : Int} (h : 1 ≤ n) : 0 ≤ plc c n := Int.emod_nonneg _ (by omega)
theorem plc_hi (c : Int) {n : Int} (h : 1 ≤ n) : plc c n < n := Int.emod_lt_of_pos _ (by omega)

set_option maxHeartbeats 4000000 in
set_option maxRecDepth 1000000 in
/-- Two lists are the same. -/
def eqL (f g : Nat → Nat) (n m : Nat) : Bool := decide (n = m) && (List.range n).all fun i => decide (f i = g i)
theorem eqL_yes {f g : Nat → Nat} {n : Nat} (h : ∀ i, i < n → f i = g i) : eqL f g n n = true := by
  unfold eqL
  rw [decide_eq_true rfl, Bool.true_and, List.all_eq_true]
  intro i hi
  simpa using h i (by simpa using hi)
theorem eqL_no {f g : Nat → Nat} {n i : Nat} (hi : i < n) (h : f i ≠ g i) : eqL f g n n = false := by
  unfold eqL
  rw [decide_eq_true rfl, Bool.true_and, List.all_eq_false]
  exact ⟨i, by simpa using hi, by simpa using h⟩
theorem eqL_len {f g : Nat → Nat} {n m : Nat} (h : n ≠ m) : eqL f g n m = false := by
  unfold eqL
  rw [decide_eq_false h, Bool.false_and]

set_option maxHeartbeats 4000000 in
set_option maxRecDepth 1000000 in
/-- All planes are the same. -/
def alF (F G : Nat → Nat → Nat) (n : Nat) (ln lm : Nat → Nat) : Bool := (List.range n).all fun i => eqL (F i) (G i) (ln i) (lm i)
theorem alF_yes {F G : Nat → Nat → Nat} {n : Nat} {ln lm : Nat → Nat} (h : ∀ i, i < n → eqL (F i) (G i) (ln i) (lm i) = true) : alF F G n ln lm = true := by
  unfold alF
  rw [List.all_eq_true]
  intro i hi
  exact h i (by simpa using hi)
theorem alF_no {F G : Nat → Nat → Nat} {n i : Nat} {ln lm : Nat → Nat} (hi : i < n) (h : eqL (F i) (G i) (ln i) (lm i) = false) : alF F G n ln lm = false := by
  unfold alF
  rw [List.all_eq_false]
  exact ⟨i, by simpa using hi, by rw [h]; decide⟩

set_option maxHeartbeats 4000000 in
set_option maxRecDepth 1000000 in
set_option maxHeartbeats 4000000 in
set_option maxRecDepth 1000000 in
theorem top_any (D : Int) (w : World) (hD : D = 10 ∨ D = 12) : Calls Tryd.prog 77 #[.int .i64 D] w fun e w' => e = .returned (.int .i64 (mx D : Int)) ∧ w' = w := by
  rcases hD with rfl | rfl
  · go_enter Tryd.func77, Tryd.ntmps77
    go_wp2
    go_ret
    exact ⟨rfl, rfl⟩
  · go_enter Tryd.func77, Tryd.ntmps77
    go_wp2
    go_ret
    exact ⟨rfl, rfl⟩

set_option maxHeartbeats 4000000 in
set_option maxRecDepth 1000000 in
theorem beyond_any (ao : Option Addr) (n c : Nat) (f : Nat → Nat) (D : Int) (w : World) (hr : Rd w ao n f) (hD : D = 10 ∨ D = 12) (hn : n ≤ 9223372036854775807) (hf : ∀ i, i < n → f i < 65536) :
    Calls Tryd.prog 56 #[.slice ao n c, .int .i64 D] w fun e w' => e = .returned (.bool (abv f n (mx D))) ∧ Kept [] w w' := by
  have Hr := Hid.mk hr
  have Hf := Hid.mk hf
  have C := Hid.mk (fun u => top_any D u hD)
  obtain ⟨M, eM⟩ : ∃ M, M = mx D := ⟨_, rfl⟩
  rw [← eM] at C ⊢
  clear hr hf eM hD
  go_enter Tryd.func56, Tryd.ntmps56
  go_wp2
  go_loopw [5] (fun i wr => ∃ k : Nat, k ≤ n ∧ i = .int .i64 (k : Int) ∧ (∀ j, j < k → f j ≤ M) ∧ Kept [] w wr) (fun i _ => n - (intOf i).toNat)
  case atStart => exact ⟨0, by omega, rfl, fun j hj => by omega, Kept.refl _ _⟩
  case round =>
    obtain ⟨k, hk, rfl, hall, hkr⟩ := hrel
    have Hall := Hid.mk hall
    have Hkr := Hid.mk hkr
    clear hall
    by_cases hlt : k < n
    · obtain ⟨g1, o1, rfl, c1⟩ := (Hr.out.keep hkr).at hlt
      have ix : (k : Int) < (n : Int) := by omega
      have HY := Hid.mk (fun h => abv_yes (f := f) (M := M) hlt h)
      have HN : Hid (f k ≤ M → ∀ j, j < k + 1 → f j ≤ M) := Hid.mk (fun h j hj => by
        by_cases e : j = k
        · subst e; exact h
        · exact Hall.out j (by omega))
      have hx := Hf.out k hlt
      obtain ⟨x, ex⟩ : ∃ x, x = f k := ⟨_, rfl⟩
      rw [← ex] at c1 HN HY hx
      clear ex hkr
      by_cases hM : (M : Int) < (x : Int)
      · go_wp2
        go_quiet ((go_at_call 77; refine Calls.quiet_of_same (C.out _)))
        go_wp2
        go_ret
        exact ⟨ret_bool (HY.out (by omega)).symm, Hkr.out.drewN _⟩
      · go_wp2
        go_quiet ((go_at_call 77; refine Calls.quiet_of_same (C.out _)))
        go_wp2
        go_roundw
        case rel => exact ⟨k + 1, by omega, by go_num, HN.out (by omega), Hkr.out.drewN _⟩
        case measure => simp [intOf]; omega
    · obtain rfl : n = k := by omega
      have H2 := Hid.mk (abv_no.2 Hall.out)
      go_wp2
      go_ret
      exact ⟨ret_bool H2.out.symm, Hkr.out⟩
end Go.Proofs.YtodlkpcbkilglaaDoor

namespace Go.Proofs.YtodlkpcbkilglaaDoor
open Go.RowKit

/-- A frame lies there. -/
structure Fat (w : World) (b : Nat) (W H D : Int) (A : Bool) (v : Value) : Prop where
  c0 : w.cell? ⟨b, 0, none⟩ = some (.int .i64 W)
  c1 : w.cell? ⟨b, 1, none⟩ = some (.int .i64 H)
  c2 : w.cell? ⟨b, 2, none⟩ = some (.int .i64 D)
  c3 : w.cell? ⟨b, 3, none⟩ = some (.bool A)
  c4 : w.cell? ⟨b, 4, none⟩ = some v
theorem Fat.new (w : World) (W H D : Int) (A : Bool) (v : Value) (t : Nat) : Fat (w.alloc (.cells #[.int .i64 W, .int .i64 H, .int .i64 D, .bool A, v] t (0, 0))) w.heap.size W H D A v :=
  ⟨alloc_cell _ _ _ _ _ rfl, alloc_cell _ _ _ _ _ rfl, alloc_cell _ _ _ _ _ rfl, alloc_cell _ _ _ _ _ rfl, alloc_cell _ _ _ _ _ rfl⟩
theorem Fat.keep {w w' : World} {b : Nat} {W H D : Int} {A : Bool} {v : Value} {ks : List Nat} (h : Fat w b W H D A v) (hk : Kept ks w w') (hn : b ∉ ks) : Fat w' b W H D A v :=
  ⟨cell_keep hk h.c0 hn, cell_keep hk h.c1 hn, cell_keep hk h.c2 hn, cell_keep hk h.c3 hn, cell_keep hk h.c4 hn⟩

set_option maxHeartbeats 8000000 in
set_option maxRecDepth 1000000 in
theorem rvalid_any (W H D : Int) (A : Bool) (po : Option Addr) (n c : Nat) (ln : Nat → Nat) (F : Nat → Nat → Nat) (w : World) (hr : Pl w po n ln F) (hn : n ≤ 9223372036854775807) (hln : ∀ i, i < n → ln i ≤ 9223372036854775807) (hF : ∀ i, i < n → ∀ j, j < ln i → F i j < 65536) :
    Calls Tryd.prog 31 #[frv W H D A po n c] w fun e w' => e = .returned (.int .i64 (vE W H D A n ln F)) ∧ Kept [] w w' := by
  have Hr := Hid.mk hr
  have Hln := Hid.mk hln
  have HF := Hid.mk hF
  clear hr hln hF
  have C := Hid.mk (fun u => rshaped_any W H D A u)
  have CP := Hid.mk (fun u => count_any W H D A u)
  have hk0 := Hid.mk (alloc_kept w (.cells #[.int .i64 W, .int .i64 H, .int .i64 D, .bool A, .slice po n c] 31))
  have Q0 := Hid.mk (Fat.new w W H D A (.slice po n c) 31)
  rcases shE_two W H D A with ⟨e1, h1⟩ | ⟨e1, h1⟩
  · rw [e1] at C
    obtain ⟨N, eN⟩ : ∃ N : Nat, N = np A := ⟨_, rfl⟩
    rw [← eN] at CP
    have C3 := Hid.mk (fun u (p : Nat) => wide_any W H D p A u (by have := h1.1; omega) h1.1.2)
    have HP := Hid.mk (fun p => wpH p h1.1.1 h1.1.2 h1.2.1.1 h1.2.1.2)
    have EQ : Hid (n = N → vE W H D A n ln F = if lnO W H n ln = true then (if smB n ln F (mx D) = true then 64 else 0) else 63) := Hid.mk (fun hN => by unfold vE; rw [if_pos e1, if_pos (hN.trans eN)])
    have E2 : Hid (n ≠ N → vE W H D A n ln F = 62) := Hid.mk (fun hN => by unfold vE; rw [if_pos e1, if_neg (fun h => hN (h.trans eN.symm))])
    have CA := Hid.mk (fun u (i : Nat) (hi : i < n) bo cc (hrd : Rd u bo (ln i) (F i)) => beyond_any bo (ln i) cc (F i) D u hrd h1.2.2.1 (Hln.out i hi) (HF.out i hi))
    have hn4 : N ≤ 4 := by rw [eN]; exact np_hi A
    clear e1 h1 eN
    go_enter Tryd.func31, Tryd.ntmps31
    go_wp2_with (first | (go_at_call 39; refine (C.out _).mono ?_; rintro e w1 ⟨rfl, hk1⟩; obtain ⟨r0, r1, r2, r3, r4⟩ := Q0.out.keep hk1 (by simp)))
    have hk01 := Hid.mk (hk0.out.trans hk1)
    have Q1 := Hid.mk (Q0.out.keep hk1 (by simp))
    obtain ⟨b, eb⟩ : ∃ b, b = w.heap.size := ⟨_, rfl⟩
    rw [← eb] at r0 r1 r2 r3 r4 Q1 ⊢
    clear eb hk1 C Q0 hk0
    go_cut [19] (fun s wc => s = .bool ((n : Int) != (N : Int)) ∧ Kept [] w1 wc)
    case first =>
      go_region_held_law (fun w' => w'.cell? ⟨b, 0, none⟩ = some (.int .i64 W) ∧ w'.cell? ⟨b, 1, none⟩ = some (.int .i64 H) ∧ w'.cell? ⟨b, 2, none⟩ = some (.int .i64 D) ∧ w'.cell? ⟨b, 3, none⟩ = some (.bool A) ∧ w'.cell? ⟨b, 4, none⟩ = some (.slice po n c)) (first | exact ⟨r0, r1, r2, r3, r4⟩ | exact ⟨t0, t1, t2, t3, t4⟩ | go_keep) (first | (go_at_call 54; refine (CP.out _).mono ?_; rintro e w2 ⟨rfl, hk2⟩; obtain ⟨t0, t1, t2, t3, t4⟩ := Q1.out.keep hk2.undrew (by simp)))
      all_goals go_wp2
      all_goals go_meet
      all_goals exact ⟨rfl, hk2.undrew⟩
    case rest =>
      obtain ⟨rfl, hkc⟩ := hcut
      have hk0c := Hid.mk (hk01.out.trans hkc)
      have Q2 := Hid.mk (Q1.out.keep hkc (by simp))
      clear hkc r0 r1 r2 r3 r4 hk01 CP Q1
      by_cases hN : n = N
      · subst hN
        have EV := Hid.mk (EQ.out rfl)
        clear EQ E2
        rw [show ((n : Int) != (n : Int)) = false by simp]
        go_wp2
        go_loopw [4] (fun i wr => ∃ k : Nat, k ≤ n ∧ i = .int .i64 (k : Int) ∧ (∀ j, j < k → (ln j : Int) = wp W (j : Int) * H) ∧ Kept [] wc wr) (fun i _ => n - (intOf i).toNat)
        case atStart => exact ⟨0, by omega, rfl, fun j hj => by omega, Kept.refl _ _⟩
        case round =>
          obtain ⟨k, hk, rfl, hall, hkr⟩ := hrel
          have Hall := Hid.mk hall
          have Hkr := Hid.mk hkr
          have Q3 := Hid.mk (Q2.out.keep hkr (by simp))
          obtain ⟨t0, t1, t2, t3, t4⟩ := Q3.out
          clear hall
          by_cases hlt : k < n
          · obtain ⟨g, off, bo, cc, rfl, hc, _⟩ := (Hr.out.keep (hk0c.out.trans hkr)).at hlt
            have ix : (k : Int) < (n : Int) := by omega
            have b1 := HP.out (k : Int)
            have D2 := Hid.mk (fun u => C3.out u k)
            have HN := Hid.mk (fun h => lnO_no (W := W) (H := H) (ln := ln) hlt h)
            have HY : Hid ((ln k : Int) = wp W (k : Int) * H → ∀ j, j < k + 1 → (ln j : Int) = wp W (j : Int) * H) := Hid.mk (fun h j hj => by
              by_cases e : j = k
              · subst e; exact h
              · exact Hall.out j (by omega))
            obtain ⟨x, ex⟩ : ∃ x, x = wp W k := ⟨_, rfl⟩
            rw [← ex] at b1 HN HY D2
            obtain ⟨y, ey⟩ : ∃ y, y = ln k := ⟨_, rfl⟩
            rw [← ey] at hc HN HY
            have hwr : IntKind.i64.wrap (x * H) = x * H := wrap_i (by omega) (by omega)
            have HC := Hid.mk hc
            clear ex ey hkr
            go_upto_region 9 with (fail)
            go_cut [41] (fun s wd => s = .bool ((y : Int) != x * H) ∧ Kept [] wr wd)
            case first =>
              go_region_held_law (fun w' => w'.cell? ⟨b, 0, none⟩ = some (.int .i64 W) ∧ w'.cell? ⟨b, 1, none⟩ = some (.int .i64 H) ∧ w'.cell? ⟨b, 2, none⟩ = some (.int .i64 D) ∧ w'.cell? ⟨b, 3, none⟩ = some (.bool A) ∧ w'.cell? ⟨b, 4, none⟩ = some (.slice (some ⟨g, off, none⟩) n c) ∧ w'.cell? ⟨g, off + k, none⟩ = some (.slice bo y cc)) (first | exact ⟨t0, t1, t2, t3, t4, hc⟩ | exact ⟨z0, z1, z2, z3, z4, z5⟩ | go_keep) (first | (go_at_call 55; refine (D2.out _).mono ?_; rintro e w2 ⟨rfl, hk2⟩; obtain ⟨z0, z1, z2, z3, z4⟩ := Q3.out.keep hk2.undrew (by simp); have z5 := cell_keep hk2.undrew HC.out (by simp)))
              all_goals go_wp2
              all_goals go_meet
              all_goals exact ⟨rfl, hk2.undrew⟩
            case rest =>
              obtain ⟨rfl, hkd⟩ := hcut
              have Kd := Hid.mk (Hkr.out.trans hkd)
              clear hkd t0 t1 t2 t3 t4 hc Q3 HC
              by_cases hy : (y : Int) = x * H
              · have hy' : ((y : Int) != x * H) = false := by simpa using hy
                rw [hy']
                have HY2 := Hid.mk (HY.out hy)
                clear hy HY HN hy'
                go_wp2
                go_roundw
                case rel => exact ⟨k + 1, by omega, by go_num, HY2.out, Kd.out⟩
                case measure => simp [intOf]; omega
              · have hy' : ((y : Int) != x * H) = true := by simpa using hy
                rw [hy']
                have HN2 := Hid.mk (HN.out hy)
                clear hy HY HN hy'
                go_wp2
                go_ret
                rw [HN2.out] at EV
                exact ⟨ret_int EV.out.symm, hk0c.out.trans Kd.out⟩
          · obtain rfl : n = k := by omega
            have E3 := Hid.mk (EV.out.trans (if_pos (lnO_yes.2 Hall.out)))
            have K := Hid.mk (hk0c.out.trans hkr)
            clear EV Hall HP hkr Hkr hk0c C3
            go_wp2
            go_loopw [5] (fun i wz => ∃ k : Nat, k ≤ n ∧ i = .int .i64 (k : Int) ∧ (∀ j, j < k → abv (F j) (ln j) (mx D) = false) ∧ Kept [] wr wz) (fun i _ => n - (intOf i).toNat)
            case atStart => exact ⟨0, by omega, rfl, fun j hj => by omega, Kept.refl _ _⟩
            case round =>
              obtain ⟨k, hk2, rfl, hall, hkz⟩ := hrel
              have Hall := Hid.mk hall
              have Hkz := Hid.mk (K.out.trans hkz)
              have Hkz2 := Hid.mk hkz
              have Q4 := Hid.mk (Q3.out.keep hkz (by simp))
              obtain ⟨z0, z1, z2, z3, z4⟩ := Q4.out
              clear t0 t1 t2 t3 t4 hall
              by_cases hlt : k < n
              · obtain ⟨g, off, bo, cc, rfl, hc, hrd⟩ := (Hr.out.keep Hkz.out).at hlt
                have ix : (k : Int) < (n : Int) := by omega
                have D2 := Hid.mk (CA.out wr.drew k hlt bo cc (hrd.keep ((Kept.refl [] _).drew)))
                have HN := Hid.mk (fun h => smB_yes (F := F) (ln := ln) (M := mx D) hlt h)
                have HY : Hid (abv (F k) (ln k) (mx D) = false → ∀ j, j < k + 1 → abv (F j) (ln j) (mx D) = false) := Hid.mk (fun h j hj => by
                  by_cases e : j = k
                  · subst e; exact h
                  · exact Hall.out j (by omega))
                obtain ⟨x, ex⟩ : ∃ x, x = abv (F k) (ln k) (mx D) := ⟨_, rfl⟩
                rw [← ex] at D2 HN HY
                obtain ⟨y, ey⟩ : ∃ y, y = ln k := ⟨_, rfl⟩
                rw [← ey] at hc D2
                have HC := Hid.mk hc
                clear ex ey hkz hrd
                go_upto_region 14 with (fail)
                go_cut [6] (fun s wd => s = .bool x ∧ Kept [] wr wd)
                case first =>
                  go_region_held_law (fun w' => w'.cell? ⟨b, 0, none⟩ = some (.int .i64 W) ∧ w'.cell? ⟨b, 1, none⟩ = some (.int .i64 H) ∧ w'.cell? ⟨b, 2, none⟩ = some (.int .i64 D) ∧ w'.cell? ⟨b, 3, none⟩ = some (.bool A) ∧ w'.cell? ⟨b, 4, none⟩ = some (.slice (some ⟨g, off, none⟩) n c) ∧ w'.cell? ⟨g, off + k, none⟩ = some (.slice bo y cc)) (first | exact ⟨z0, z1, z2, z3, z4, hc⟩ | exact ⟨t0, t1, t2, t3, t4, t5⟩ | go_keep) (first | (go_at_call 56; refine D2.out.mono ?_; rintro e w2 ⟨rfl, hk2⟩; obtain ⟨t0, t1, t2, t3, t4⟩ := Q4.out.keep hk2.undrew (by simp); have t5 := cell_keep hk2.undrew HC.out (by simp)))
                  all_goals go_wp2
                  all_goals go_meet
                  all_goals exact ⟨rfl, hk2.undrew⟩
                case rest =>
                  obtain ⟨rfl, hkd⟩ := hcut
                  have Kd := Hid.mk (Hkz2.out.trans hkd)
                  have Kd2 := Hid.mk (Hkz.out.trans hkd)
                  clear hkd z0 z1 z2 z3 z4 hc Q4 HC
                  cases x
                  · have HY2 := Hid.mk (HY.out rfl)
                    clear HY HN
                    go_wp2
                    go_roundw
                    case rel => exact ⟨k + 1, by omega, by go_num, HY2.out, Kd.out⟩
                    case measure => simp [intOf]; omega
                  · have HN2 := Hid.mk (HN.out rfl)
                    clear HY HN
                    go_wp2
                    go_ret
                    rw [HN2.out] at E3
                    exact ⟨ret_int E3.out.symm, Kd2.out⟩
              · obtain rfl : n = k := by omega
                have HN2 := Hid.mk (smB_no.2 Hall.out)
                clear Hall
                go_wp2
                go_ret
                rw [HN2.out] at E3
                exact ⟨ret_int E3.out.symm, Hkz.out⟩
      · have EV := Hid.mk (E2.out hN)
        have hN' : ((n : Int) != (N : Int)) = true := by simp; omega
        clear EQ E2
        go_wp2
        go_ret
        exact ⟨ret_int EV.out.symm, hk0c.out⟩
  · rw [e1] at C
    have E : Hid (vE W H D A n ln F = 61) := Hid.mk (by unfold vE; rw [e1]; rfl)
    clear e1 h1
    go_enter Tryd.func31, Tryd.ntmps31
    go_wp2_with (first | (go_at_call 39; refine (C.out _).mono ?_; rintro e w1 ⟨rfl, hk1⟩))
    go_ret
    exact ⟨ret_int E.out.symm, hk0.out.trans hk1⟩
end Go.Proofs.YtodlkpcbkilglaaDoor

namespace Go.Proofs.YtodlkpcbkilglaaDoor
open Go.RowKit

set_option maxHeartbeats 8000000 in
set_option maxRecDepth 1000000 in
theorem rsame_eq (W H D : Int) (A : Bool) (po qo : Option Addr) (n c d : Nat) (ln lm : Nat → Nat) (F G : Nat → Nat → Nat) (w : World) (hr : Pl w po n ln F) (hs : Pl w qo n lm G) (hn : n ≤ 9223372036854775807) (hln : ∀ i, i < n → ln i ≤ 9223372036854775807) (hlm : ∀ i, i < n → lm i ≤ 9223372036854775807) :
    Calls Tryd.prog 26 #[frv W H D A po n c, frv W H D A qo n d] w fun e w' => e = .returned (.bool (alF F G n ln lm)) ∧ Kept [] w w' := by
  have Hr := Hid.mk hr
  have Hs := Hid.mk hs
  have Hln := Hid.mk hln
  have Hlm := Hid.mk hlm
  clear hr hs hln hlm
  have ha : (A == A) = true := by cases A <;> rfl
  have h1 := heap_alloc_new w (.cells #[.int .i64 W, .int .i64 H, .int .i64 D, .bool A, .slice po n c] 31)
  have k1 := alloc_kept w (.cells #[.int .i64 W, .int .i64 H, .int .i64 D, .bool A, .slice po n c] 31)
  have h2 := heap_alloc_new (w.alloc (.cells #[.int .i64 W, .int .i64 H, .int .i64 D, .bool A, .slice po n c] 31)) (.cells #[.int .i64 W, .int .i64 H, .int .i64 D, .bool A, .slice qo n d] 31)
  have k2 := alloc_kept (w.alloc (.cells #[.int .i64 W, .int .i64 H, .int .i64 D, .bool A, .slice po n c] 31)) (.cells #[.int .i64 W, .int .i64 H, .int .i64 D, .bool A, .slice qo n d] 31)
  rw [World.size_alloc] at h2
  have hh1 := k2.heap h1 (by simp)
  have K1 := Hid.mk (k1.trans k2)
  have P1 := Hid.mk (And.intro hh1 h2)
  clear h1 k1 h2 k2 hh1
  go_enter Tryd.func26, Tryd.ntmps26
  go_wp2
  obtain ⟨w1, ew1⟩ : ∃ w1, w1 = (w.alloc (.cells #[.int .i64 W, .int .i64 H, .int .i64 D, .bool A, .slice po n c] 31)).alloc (.cells #[.int .i64 W, .int .i64 H, .int .i64 D, .bool A, .slice qo n d] 31) := ⟨_, rfl⟩
  rw [← ew1] at P1 K1 ⊢
  obtain ⟨FB, eFB⟩ : ∃ FB, FB = w.heap.size := ⟨_, rfl⟩
  obtain ⟨BB, eBB⟩ : ∃ BB, BB = w.heap.size + 1 := ⟨_, rfl⟩
  rw [← eBB, ← eFB] at P1 ⊢
  clear ew1 eFB eBB
  go_loopw [5] (fun i wr => ∃ k : Nat, k ≤ n ∧ i = .int .i64 (k : Int) ∧ (∀ j, j < k → eqL (F j) (G j) (ln j) (lm j) = true) ∧ Kept [] w1 wr) (fun i _ => n - (intOf i).toNat)
  case atStart => exact ⟨0, by omega, rfl, fun j hj => by omega, Kept.refl _ _⟩
  case round =>
    obtain ⟨k, hk, rfl, hall, hkr⟩ := hrel
    have Hall := Hid.mk hall
    have Hkr := Hid.mk hkr
    obtain ⟨⟨_, _, _, _, f4⟩, _⟩ := five (hkr.heap P1.out.1 (by simp))
    obtain ⟨⟨_, _, _, _, b4⟩, _⟩ := five (hkr.heap P1.out.2 (by simp))
    clear hall
    by_cases hlt : k < n
    · obtain ⟨g1, o1, ro, c1, rfl, z1, r1⟩ := (Hr.out.keep (K1.out.trans hkr)).at hlt
      obtain ⟨g2, o2, so, c2, rfl, z2, r2⟩ := (Hs.out.keep (K1.out.trans hkr)).at hlt
      have ix : (k : Int) < (n : Int) := by omega
      have hb1 := Hln.out k hlt
      have hb2 := Hlm.out k hlt
      have HRR := Hid.mk (And.intro r1 r2)
      have HN := Hid.mk (fun h => alF_no (F := F) (G := G) (ln := ln) (lm := lm) hlt h)
      have HY : Hid (eqL (F k) (G k) (ln k) (lm k) = true → ∀ j, j < k + 1 → eqL (F j) (G j) (ln j) (lm j) = true) := Hid.mk (fun h j hj => by
        by_cases e : j = k
        · subst e; exact h
        · exact Hall.out j (by omega))
      obtain ⟨x1, ex1⟩ : ∃ x, x = ln k := ⟨_, rfl⟩
      obtain ⟨x2, ex2⟩ : ∃ x, x = lm k := ⟨_, rfl⟩
      obtain ⟨f, ef⟩ : ∃ f, f = F k := ⟨_, rfl⟩
      obtain ⟨f', ef'⟩ : ∃ f', f' = G k := ⟨_, rfl⟩
      rw [← ex1] at z1 HRR HN HY hb1
      rw [← ex2] at z2 HRR HN HY hb2
      rw [← ef, ← ef'] at HRR HN HY
      clear ex1 ex2 ef ef' hkr r1 r2
      by_cases hxx : x1 = x2
      · subst hxx
        go_wp2
        go_quiet (fail)
        have Hk2 : Hid (Kept [] wr (wr.drewN nq)) := Hid.mk ((Kept.refl [] wr).drewN nq)
        have f4' := cell_keep Hk2.out f4 (by simp)
        have b4' := cell_keep Hk2.out b4 (by simp)
        have z1' := cell_keep Hk2.out z1 (by simp)
        have z2' := cell_keep Hk2.out z2 (by simp)
        obtain ⟨wr2, ewr2⟩ : ∃ wr2, wr2 = wr.drewN nq := ⟨_, rfl⟩
        rw [← ewr2] at Hk2 f4' b4' z1' z2' ⊢
        clear ewr2 f4 b4 z1 z2
        go_wp2
        go_loopw [6] (fun i wq => ∃ t : Nat, t ≤ x1 ∧ i = .int .i64 (t : Int) ∧ (∀ j, j < t → f j = f' j) ∧ Kept [] wr2 wq) (fun i _ => x1 - (intOf i).toNat)
        case atStart => exact ⟨0, by omega, rfl, fun j hj => by omega, Kept.refl _ _⟩
        case round =>
          obtain ⟨t, ht, rfl, heq, hkq⟩ := hrel
          have Heq := Hid.mk heq
          have Hkq := Hid.mk hkq
          have zf := cell_keep hkq f4' (by simp)
          have zb := cell_keep hkq b4' (by simp)
          have zc := cell_keep hkq z1' (by simp)
          have zd := cell_keep hkq z2' (by simp)
          clear heq
          by_cases htl : t < x1
          · obtain ⟨a1, q1, rfl, hf⟩ := (HRR.out.1.keep (Hk2.out.trans hkq)).at htl
            obtain ⟨a2, q2, rfl, hg⟩ := (HRR.out.2.keep (Hk2.out.trans hkq)).at htl
            have jx : (t : Int) < (x1 : Int) := by omega
            have HE : Hid (f t = f' t → ∀ j, j < t + 1 → f j = f' j) := Hid.mk (fun h j hj => by
              by_cases e : j = t
              · subst e; exact h
              · exact Heq.out j (by omega))
            have HD : Hid (f t ≠ f' t → eqL f f' x1 x1 = false) := Hid.mk (fun h => eqL_no htl h)
            obtain ⟨u, eu⟩ : ∃ u, u = f t := ⟨_, rfl⟩
            obtain ⟨u', eu'⟩ : ∃ u', u' = f' t := ⟨_, rfl⟩
            rw [← eu] at hf HE HD
            rw [← eu'] at hg HE HD
            clear eu eu' hkq
            by_cases hu : u = u'
            · subst hu
              go_wp2
              go_quiet (fail)
              go_wp2
              exact ⟨⟨t + 1, by omega, by go_num, HE.out trivial, Hkq.out.drewN _⟩, by simp [intOf]; omega⟩
            · have hui : ¬ (u : Int) = (u' : Int) := by omega
              have H2 := Hid.mk (HN.out (HD.out hu))
              go_wp2
              go_quiet (fail)
              go_wp2
              go_ret
              exact ⟨ret_bool H2.out.symm, (K1.out.trans Hkr.out).trans (Hk2.out.trans (Hkq.out.drewN _))⟩
          · obtain rfl : x1 = t := by omega
            have H2 := Hid.mk (HY.out (eqL_yes Heq.out))
            clear hkq
            go_wp2
            exact ⟨⟨k + 1, by omega, by go_num, H2.out, Hkr.out.trans (Hk2.out.trans Hkq.out)⟩, by simp [intOf]; omega⟩
      · have hxi : ¬ (x1 : Int) = (x2 : Int) := by omega
        have H2 := Hid.mk (HN.out (eqL_len hxx))
        go_wp2
        go_quiet (fail)
        go_wp2
        go_ret
        exact ⟨ret_bool H2.out.symm, (K1.out.trans Hkr.out).drewN _⟩
    · obtain rfl : n = k := by omega
      have H2 := Hid.mk (alF_yes Hall.out)
      clear hkr
      go_wp2
      go_ret
      exact ⟨ret_bool H2.out.symm, K1.out.trans Hkr.out⟩
end Go.Proofs.YtodlkpcbkilglaaDoor
