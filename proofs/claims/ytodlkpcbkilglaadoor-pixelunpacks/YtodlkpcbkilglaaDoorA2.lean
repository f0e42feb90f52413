import Derived.Test.YtodlkpcbkilglaaDoorA1
namespace Go.Proofs.YtodlkpcbkilglaaDoor
open Go.RowKit

/-- A list whose samples are read. -/
def Rd (w : World) (ao : Option Addr) (n : Nat) (f : Nat → Nat) : Prop := n = 0 ∨ ∃ g off, ao = some ⟨g, off, none⟩ ∧ ∀ i, i < n → w.cell? ⟨g, off + i, none⟩ = some (.int .u16 (f i : Int))
theorem Rd.kept {w w' : World} {ao : Option Addr} {n : Nat} {f : Nat → Nat} {ks : List Nat} (h : Rd w ao n f) (hk : Kept ks w w') (hn : ∀ g off, ao = some ⟨g, off, none⟩ → g ∉ ks) : Rd w' ao n f := by
  rcases h with h | ⟨g, off, e, hc⟩
  · exact .inl h
  · exact .inr ⟨g, off, e, fun i hi => cell_keep hk (hc i hi) (hn g off e)⟩
theorem Rd.keep {w w' : World} {ao : Option Addr} {n : Nat} {f : Nat → Nat} (h : Rd w ao n f) (hk : Kept [] w w') : Rd w' ao n f := h.kept hk (by simp)
theorem Rd.at {w : World} {ao : Option Addr} {n : Nat} {f : Nat → Nat} (h : Rd w ao n f) {i : Nat} (hi : i < n) : ∃ g off, ao = some ⟨g, off, none⟩ ∧ w.cell? ⟨g, off + i, none⟩ = some (.int .u16 (f i : Int)) := by
  rcases h with h | ⟨g, off, e, hc⟩
  · omega
  · exact ⟨g, off, e, hc i hi⟩
theorem Rd.congr {w : World} {ao : Option Addr} {n : Nat} {f f' : Nat → Nat} (h : Rd w ao n f) (hf : ∀ i, i < n → f i = f' i) : Rd w ao n f' := by
  rcases h with h | ⟨g, off, e, hc⟩
  · exact .inl h
  · exact .inr ⟨g, off, e, fun i hi => by rw [hc i hi, hf i hi]⟩
/-- Planes that are read. -/
def Pl (w : World) (po : Option Addr) (n : Nat) (ln : Nat → Nat) (F : Nat → Nat → Nat) : Prop := n = 0 ∨ ∃ g off, po = some ⟨g, off, none⟩ ∧ ∀ i, i < n → ∃ bo c, w.cell? ⟨g, off + i, none⟩ = some (.slice bo (ln i) c) ∧ Rd w bo (ln i) (F i)
theorem Pl.keep {w w' : World} {po : Option Addr} {n : Nat} {ln : Nat → Nat} {F : Nat → Nat → Nat} (h : Pl w po n ln F) (hk : Kept [] w w') : Pl w' po n ln F := by
  rcases h with h | ⟨g, off, e, hc⟩
  · exact .inl h
  · refine .inr ⟨g, off, e, fun i hi => ?_⟩
    obtain ⟨bo, c, h1, h2⟩ := hc i hi
    exact ⟨bo, c, cell_keep hk h1 (by simp), h2.keep hk⟩
theorem Pl.at {w : World} {po : Option Addr} {n : Nat} {ln : Nat → Nat} {F : Nat → Nat → Nat} (h : Pl w po n ln F) {i : Nat} (hi : i < n) : ∃ g off bo c, po = some ⟨g, off, none⟩ ∧ w.cell? ⟨g, off + i, none⟩ = some (.slice bo (ln i) c) ∧ Rd w bo (ln i) (F i) := by
  rcases h with h | ⟨g, off, e, hc⟩
  · omega
  · obtain ⟨bo, c, h1, h2⟩ := hc i hi
    exact ⟨g, off, bo, c, e, h1, h2⟩

/-- The greatest sample of a depth. -/
def mx (D : Int) : Nat := if D = 10 then 1023 else 4095
/-- A sample is above. -/
def abv (f : Nat → Nat) (n M : Nat) : Bool := (List.range n).any fun i => decide (M < f i)
theorem abv_no {f : Nat → Nat} {n M : Nat} : abv f n M = false ↔ ∀ i, i < n → f i ≤ M := by
  unfold abv
  rw [List.any_eq_false]
  constructor
  · intro h i hi
    have := h i (by simpa using hi)
    simpa using this
  · intro h i hi
    have := h i (by simpa using hi)
    simpa using this
theorem abv_yes {f : Nat → Nat} {n M i : Nat} (hi : i < n) (h : M < f i) : abv f n M = true := by
  cases e : abv f n M
  · have := abv_no.1 e i hi; omega
  · rfl

set_option maxHeartbeats 4000000 in
set_option maxRecDepth 1000000 in
theorem above_any (ao : Option Addr) (n c : Nat) (f : Nat → Nat) (D : Int) (w : World) (hr : Rd w ao n f) (hD : D = 10 ∨ D = 12) (hn : n ≤ 9223372036854775807) :
    Calls Tryd.prog 92 #[.slice ao n c, .int .i64 D] w fun e w' => e = .returned (.bool (abv f n (mx D))) ∧ w' = w := by
  have Hr := Hid.mk hr
  clear hr
  rcases hD with rfl | rfl
  · go_enter Tryd.func92, Tryd.ntmps92
    go_wp2
    go_loop [13] (fun i => ∃ k : Nat, k ≤ n ∧ i = .int .i64 (k : Int) ∧ ∀ j, j < k → f j ≤ 1023) (fun i => n - (intOf i).toNat)
    case atStart => exact ⟨0, Nat.zero_le _, rfl, fun j hj => by omega⟩
    case round =>
      obtain ⟨k, hk, rfl, hall⟩ := hrel
      have Hall := Hid.mk hall
      clear hall
      by_cases hlt : k < n
      · obtain ⟨g, off, rfl, hc⟩ := Hr.out.at hlt
        have ix : (k : Int) < (n : Int) := by omega
        have HY := Hid.mk (fun h => abv_yes (f := f) (M := 1023) hlt h)
        have HN : Hid (f k ≤ 1023 → ∀ j, j < k + 1 → f j ≤ 1023) := Hid.mk (fun h j hj => by
          by_cases e : j = k
          · subst e; exact h
          · exact Hall.out j (by omega))
        obtain ⟨x, ex⟩ : ∃ x, x = f k := ⟨_, rfl⟩
        rw [← ex] at hc HY HN
        clear ex
        by_cases hx : (1023 : Int) < (x : Int)
        · go_wp2
          go_ret
          exact ⟨ret_bool (HY.out (by omega)).symm, rfl⟩
        · go_wp2
          go_round
          case rel => exact ⟨k + 1, by omega, by go_num, HN.out (by omega)⟩
          case measure => simp [intOf]; omega
      · obtain rfl : n = k := by omega
        have H := Hid.mk (abv_no.2 Hall.out)
        go_wp2
        go_ret
        exact ⟨ret_bool H.out.symm, rfl⟩
  · go_enter Tryd.func92, Tryd.ntmps92
    go_wp2
    go_loop [13] (fun i => ∃ k : Nat, k ≤ n ∧ i = .int .i64 (k : Int) ∧ ∀ j, j < k → f j ≤ 4095) (fun i => n - (intOf i).toNat)
    case atStart => exact ⟨0, Nat.zero_le _, rfl, fun j hj => by omega⟩
    case round =>
      obtain ⟨k, hk, rfl, hall⟩ := hrel
      have Hall := Hid.mk hall
      clear hall
      by_cases hlt : k < n
      · obtain ⟨g, off, rfl, hc⟩ := Hr.out.at hlt
        have ix : (k : Int) < (n : Int) := by omega
        have HY := Hid.mk (fun h => abv_yes (f := f) (M := 4095) hlt h)
        have HN : Hid (f k ≤ 4095 → ∀ j, j < k + 1 → f j ≤ 4095) := Hid.mk (fun h j hj => by
          by_cases e : j = k
          · subst e; exact h
          · exact Hall.out j (by omega))
        obtain ⟨x, ex⟩ : ∃ x, x = f k := ⟨_, rfl⟩
        rw [← ex] at hc HY HN
        clear ex
        by_cases hx : (4095 : Int) < (x : Int)
        · go_wp2
          go_ret
          exact ⟨ret_bool (HY.out (by omega)).symm, rfl⟩
        · go_wp2
          go_round
          case rel => exact ⟨k + 1, by omega, by go_num, HN.out (by omega)⟩
          case measure => simp [intOf]; omega
      · obtain rfl : n = k := by omega
        have H := Hid.mk (abv_no.2 Hall.out)
        go_wp2
        go_ret
        exact ⟨ret_bool H.out.symm, rfl⟩

/-- A frame as a value. -/
abbrev frv (W H D : Int) (A : Bool) (po : Option Addr) (n c : Nat) : Value := .agg #[.int .i64 W, .int .i64 H, .int .i64 D, .bool A, .slice po n c]
/-- All planes are as long as they must be. -/
def lnO (W H : Int) (n : Nat) (ln : Nat → Nat) : Bool := (List.range n).all fun i => decide ((ln i : Int) = wp W (i : Int) * H)
theorem lnO_yes {W H : Int} {n : Nat} {ln : Nat → Nat} : lnO W H n ln = true ↔ ∀ i, i < n → (ln i : Int) = wp W (i : Int) * H := by
  unfold lnO
  rw [List.all_eq_true]
  constructor
  · intro h i hi
    have := h i (by simpa using hi)
    simpa using this
  · intro h i hi
    have := h i (by simpa using hi)
    simpa using this
theorem lnO_no {W H : Int} {n i : Nat} {ln : Nat → Nat} (hi : i < n) (h : (ln i : Int) ≠ wp W (i : Int) * H) : lnO W H n ln = false := by
  cases e : lnO W H n ln
  · rfl
  · exact absurd (lnO_yes.1 e i hi) h
/-- A plane has a sample that is above. -/
def smB (n : Nat) (ln : Nat → Nat) (F : Nat → Nat → Nat) (M : Nat) : Bool := (List.range n).any fun i => abv (F i) (ln i) M
theorem smB_no {n : Nat} {ln : Nat → Nat} {F : Nat → Nat → Nat} {M : Nat} : smB n ln F M = false ↔ ∀ i, i < n → abv (F i) (ln i) M = false := by
  unfold smB
  rw [List.any_eq_false]
  constructor
  · intro h i hi
    have := h i (by simpa using hi)
    simpa using this
  · intro h i hi
    have := h i (by simpa using hi)
    simpa using this
theorem smB_yes {n : Nat} {ln : Nat → Nat} {F : Nat → Nat → Nat} {M i : Nat} (hi : i < n) (h : abv (F i) (ln i) M = true) : smB n ln F M = true := by
  cases e : smB n ln F M
  · have := smB_no.1 e i hi; rw [this] at h; cases h
  · rfl
/-- Valid's answer. -/
def vE (W H D : Int) (A : Bool) (n : Nat) (ln : Nat → Nat) (F : Nat → Nat → Nat) : Int :=
  if shE W H D A = 0 then (if n = np A then (if lnO W H n ln = true then (if smB n ln F (mx D) = true then 64 else 0) else 63) else 62) else 61
/-- A frame may be. -/
structure Vld (W H D : Int) (A : Bool) (n : Nat) (ln : Nat → Nat) (F : Nat → Nat → Nat) : Prop where
  shp : Shp W H D A
  num : n = np A
  len : ∀ i, i < n → (ln i : Int) = wp W (i : Int) * H
  top : ∀ i, i < n → ∀ j, j < ln i → F i j ≤ mx D
theorem vE_zero {W H D : Int} {A : Bool} {n : Nat} {ln : Nat → Nat} {F : Nat → Nat → Nat} : vE W H D A n ln F = 0 ↔ Vld W H D A n ln F := by
  unfold vE
  constructor
  · intro h
    split at h
    · split at h
      · split at h
        · split at h
          · cases h
          · rename_i h1 h2 h3 h4
            rcases shE_two W H D A with ⟨_, h5⟩ | ⟨h5, _⟩
            · exact ⟨h5, h2, lnO_yes.1 h3, fun i hi => abv_no.1 (smB_no.1 (by simpa using h4) i hi)⟩
            · rw [h5] at h1; cases h1
        · cases h
      · cases h
    · cases h
  · intro h
    rw [if_pos (shE_ok h.shp), if_pos h.num, if_pos (lnO_yes.2 h.len), if_neg]
    rw [smB_no.2 (fun i hi => abv_no.2 (h.top i hi))]
    decide
theorem np_lo (A : Bool) : 3 ≤ np A := by cases A <;> decide
theorem np_hi (A : Bool) : np A ≤ 4 := by cases A <;> decide

set_option maxHeartbeats 8000000 in
set_option maxRecDepth 1000000 in
theorem valid_any (W H D : Int) (A : Bool) (po : Option Addr) (n c : Nat) (ln : Nat → Nat) (F : Nat → Nat → Nat) (w : World) (hr : Pl w po n ln F) (hn : n ≤ 9223372036854775807) (hln : ∀ i, i < n → ln i ≤ 9223372036854775807) :
    Calls Tryd.prog 71 #[frv W H D A po n c] w fun e w' => e = .returned (.int .i64 (vE W H D A n ln F)) ∧ Kept [] w w' := by
  have Hr := Hid.mk hr
  have Hln := Hid.mk hln
  clear hr hln
  have C := Hid.mk (fun u => shaped_any W H D A u)
  have CP := Hid.mk (fun u => planes_any W H D A u)
  have hk0 := Hid.mk (alloc_kept w (.cells #[.int .i64 W, .int .i64 H, .int .i64 D, .bool A, .slice po n c] 31))
  have q0 := Hid.mk (alloc_cell w #[.int .i64 W, .int .i64 H, .int .i64 D, .bool A, .slice po n c] 31 0 _ rfl)
  have q1 := Hid.mk (alloc_cell w #[.int .i64 W, .int .i64 H, .int .i64 D, .bool A, .slice po n c] 31 1 _ rfl)
  have q2 := Hid.mk (alloc_cell w #[.int .i64 W, .int .i64 H, .int .i64 D, .bool A, .slice po n c] 31 2 _ rfl)
  have q3 := Hid.mk (alloc_cell w #[.int .i64 W, .int .i64 H, .int .i64 D, .bool A, .slice po n c] 31 3 _ rfl)
  have q4 := Hid.mk (alloc_cell w #[.int .i64 W, .int .i64 H, .int .i64 D, .bool A, .slice po n c] 31 4 _ rfl)
  rcases shE_two W H D A with ⟨e1, h1⟩ | ⟨e1, h1⟩
  · rw [e1] at C
    obtain ⟨N, eN⟩ : ∃ N : Nat, N = np A := ⟨_, rfl⟩
    rw [← eN] at CP
    have C3 := Hid.mk (fun u (p : Nat) => sides_any W H D p A u (by have := h1.1; omega) h1.1.2)
    have HP := Hid.mk (fun p => wpH p h1.1.1 h1.1.2 h1.2.1.1 h1.2.1.2)
    have EQ : Hid (n = N → vE W H D A n ln F = if lnO W H n ln = true then (if smB n ln F (mx D) = true then 64 else 0) else 63) := Hid.mk (fun hN => by unfold vE; rw [if_pos e1, if_pos (hN.trans eN)])
    have E2 : Hid (n ≠ N → vE W H D A n ln F = 62) := Hid.mk (fun hN => by unfold vE; rw [if_pos e1, if_neg (fun h => hN (h.trans eN.symm))])
    have CA := Hid.mk (fun u (i : Nat) (hi : i < n) bo cc (hrd : Rd u bo (ln i) (F i)) => above_any bo (ln i) cc (F i) D u hrd h1.2.2.1 (Hln.out i hi))
    have hn4 : N ≤ 4 := by rw [eN]; exact np_hi A
    clear e1 h1 eN
    go_enter Tryd.func71, Tryd.ntmps71
    go_wp2_with (first | (go_at_call 63; refine (C.out _).mono ?_; rintro e w1 ⟨rfl, hk1⟩; have r0 := cell_keep hk1 q0.out (by simp); have r1 := cell_keep hk1 q1.out (by simp); have r2 := cell_keep hk1 q2.out (by simp); have r3 := cell_keep hk1 q3.out (by simp); have r4 := cell_keep hk1 q4.out (by simp)))
    have hk01 := Hid.mk (hk0.out.trans hk1)
    obtain ⟨b, eb⟩ : ∃ b, b = w.heap.size := ⟨_, rfl⟩
    rw [← eb] at r0 r1 r2 r3 r4 ⊢
    clear eb hk1 C q0 q1 q2 q3 q4 hk0
    go_cut [22] (fun s wc => s = .bool ((n : Int) != (N : Int)) ∧ Kept [] w1 wc)
    case first =>
      go_region_law (first | (go_simp; go_at_call 91; refine (CP.out _).mono ?_; rintro e w2 ⟨rfl, hk2⟩; have s4 := cell_keep hk2 (show w1.drew.cell? _ = _ from r4) (by simp)))
      all_goals go_wp2
      all_goals go_meet
      all_goals exact ⟨rfl, hk2.undrew⟩
    case rest =>
      obtain ⟨rfl, hkc⟩ := hcut
      have hk0c := Hid.mk (hk01.out.trans hkc)
      have s0 := cell_keep hkc r0 (by simp)
      have s1 := cell_keep hkc r1 (by simp)
      have s2 := cell_keep hkc r2 (by simp)
      have s3 := cell_keep hkc r3 (by simp)
      have s4 := cell_keep hkc r4 (by simp)
      clear hkc r0 r1 r2 r3 r4 hk01 CP
      by_cases hN : n = N
      · subst hN
        have EV := Hid.mk (EQ.out rfl)
        clear EQ E2
        rw [show ((n : Int) != (n : Int)) = false by simp]
        go_wp2
        go_loopw [26] (fun i wr => ∃ k : Nat, k ≤ n ∧ i = .int .i64 (k : Int) ∧ (∀ j, j < k → (ln j : Int) = wp W (j : Int) * H) ∧ Kept [] wc wr) (fun i _ => n - (intOf i).toNat)
        case atStart => exact ⟨0, by omega, rfl, fun j hj => by omega, Kept.refl _ _⟩
        case round =>
          obtain ⟨k, hk, rfl, hall, hkr⟩ := hrel
          have Hall := Hid.mk hall
          have Hkr := Hid.mk hkr
          have t0 := cell_keep hkr s0 (by simp)
          have t1 := cell_keep hkr s1 (by simp)
          have t2 := cell_keep hkr s2 (by simp)
          have t3 := cell_keep hkr s3 (by simp)
          have t4 := cell_keep hkr s4 (by simp)
          clear s0 s1 s2 s3 s4 hall
          by_cases hlt : k < n
          · obtain ⟨g, off, bo, cc, rfl, hc, _⟩ := (Hr.out.keep (hk0c.out.trans hkr)).at hlt
            have ix : (k : Int) < (n : Int) := by omega
            have b1 := HP.out (k : Int)
            have D2 := Hid.mk (fun u => C3.out u k)
            have HN := Hid.mk (fun h => lnO_no (W := W) (H := H) (ln := ln) hlt h)
            have HY : Hid ((ln k : Int) = wp W (k : Int) * H → ∀ j, j < k + 1 → (ln j : Int) = wp W (j : Int) * H) := Hid.mk (fun h j hj => by
              by_cases e : j = k
              · subst e; exact h
              · exact Hall.out j (by omega))
            obtain ⟨x, ex⟩ : ∃ x, x = wp W k := ⟨_, rfl⟩
            rw [← ex] at b1 HN HY D2
            obtain ⟨y, ey⟩ : ∃ y, y = ln k := ⟨_, rfl⟩
            rw [← ey] at hc HN HY
            clear ex ey hkr
            by_cases hy : (y : Int) = x * H
            · have hy' : ((y : Int) != x * H) = false := by simpa using hy
              have HY2 := Hid.mk (HY.out hy)
              clear hy HY HN
              go_wp2_with (go_at_call 89; refine (D2.out _).mono ?_; rintro e w2 ⟨rfl, hk2⟩)
              go_roundw
              case rel => exact ⟨k + 1, by omega, by go_num, HY2.out, Hkr.out.trans hk2⟩
              case measure => simp [intOf]; omega
            · have hy' : ((y : Int) != x * H) = true := by simpa using hy
              have HN2 := Hid.mk (HN.out hy)
              clear hy HY HN
              go_wp2_with (go_at_call 89; refine (D2.out _).mono ?_; rintro e w2 ⟨rfl, hk2⟩)
              go_ret
              rw [HN2.out] at EV
              exact ⟨ret_int EV.out.symm, (hk0c.out.trans Hkr.out).trans hk2⟩
          · obtain rfl : n = k := by omega
            have E3 := Hid.mk (EV.out.trans (if_pos (lnO_yes.2 Hall.out)))
            have K := Hid.mk (hk0c.out.trans hkr)
            clear EV Hall HP hkr Hkr hk0c C3
            go_wp2
            go_loopw [48] (fun i wz => ∃ k : Nat, k ≤ n ∧ i = .int .i64 (k : Int) ∧ (∀ j, j < k → abv (F j) (ln j) (mx D) = false) ∧ Kept [] wr wz) (fun i _ => n - (intOf i).toNat)
            case atStart => exact ⟨0, by omega, rfl, fun j hj => by omega, Kept.refl _ _⟩
            case round =>
              obtain ⟨k, hk2, rfl, hall, hkz⟩ := hrel
              have Hall := Hid.mk hall
              have Hkz := Hid.mk (K.out.trans hkz)
              have Hkz2 := Hid.mk hkz
              have z2 := cell_keep hkz t2 (by simp)
              clear t0 t1 t2 t3 t4 hall
              by_cases hlt : k < n
              · obtain ⟨g, off, bo, cc, rfl, hc, hrd⟩ := (Hr.out.keep Hkz.out).at hlt
                have ix : (k : Int) < (n : Int) := by omega
                have D2 := Hid.mk (CA.out wr k hlt bo cc hrd)
                have HN := Hid.mk (fun h => smB_yes (F := F) (ln := ln) (M := mx D) hlt h)
                have HY : Hid (abv (F k) (ln k) (mx D) = false → ∀ j, j < k + 1 → abv (F j) (ln j) (mx D) = false) := Hid.mk (fun h j hj => by
                  by_cases e : j = k
                  · subst e; exact h
                  · exact Hall.out j (by omega))
                obtain ⟨x, ex⟩ : ∃ x, x = abv (F k) (ln k) (mx D) := ⟨_, rfl⟩
                rw [← ex] at D2 HN HY
                obtain ⟨y, ey⟩ : ∃ y, y = ln k := ⟨_, rfl⟩
                rw [← ey] at hc D2
                clear ex ey hkz hrd
                cases x
                · have HY2 := Hid.mk (HY.out rfl)
                  clear HY HN
                  go_wp2_with (go_at_call 92; refine D2.out.mono ?_; rintro e w2 ⟨rfl, hw⟩; obtain rfl := hw.symm)
                  go_roundw
                  case rel => exact ⟨k + 1, by omega, by go_num, HY2.out, Hkz2.out⟩
                  case measure => simp [intOf]; omega
                · have HN2 := Hid.mk (HN.out rfl)
                  clear HY HN
                  go_wp2_with (go_at_call 92; refine D2.out.mono ?_; rintro e w2 ⟨rfl, hw⟩; obtain rfl := hw.symm)
                  go_ret
                  rw [HN2.out] at E3
                  exact ⟨ret_int E3.out.symm, Hkz.out⟩
              · obtain rfl : n = k := by omega
                have HN2 := Hid.mk (smB_no.2 Hall.out)
                clear Hall
                go_wp2
                go_ret
                rw [HN2.out] at E3
                exact ⟨ret_int E3.out.symm, Hkz.out⟩
      · have EV := Hid.mk (E2.out hN)
        have hN' : ((n : Int) != (N : Int)) = true := by simp; omega
        clear EQ E2
        go_wp2
        go_ret
        exact ⟨ret_int EV.out.symm, hk0c.out⟩
  · rw [e1] at C
    have E : Hid (vE W H D A n ln F = 61) := Hid.mk (by unfold vE; rw [e1]; rfl)
    clear e1 h1
    go_enter Tryd.func71, Tryd.ntmps71
    go_wp2_with (first | (go_at_call 63; refine (C.out _).mono ?_; rintro e w1 ⟨rfl, hk1⟩))
    go_ret
    exact ⟨ret_int E.out.symm, hk0.out.trans hk1⟩
end Go.Proofs.YtodlkpcbkilglaaDoor
