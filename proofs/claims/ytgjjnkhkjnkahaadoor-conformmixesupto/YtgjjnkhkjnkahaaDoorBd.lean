import Derived.Test.YtgjjnkhkjnkahaaDoorSf
import Derived.Test.YtgjjnkhkjnkahaaDoorAc
namespace Go.Proofs.YtgjjnkhkjnkahaaDoor
open Go.RowKit

theorem mxv_zero (x y : Nat) {o : Nat} (ho : 1 ≤ o) : mxv x y 0 o = x := by
  unfold mxv
  rw [Nat.sub_zero, Nat.mul_zero, Nat.add_zero, Nat.mul_comm, Nat.mul_add_div (by omega), Nat.div_eq_of_lt (by omega), Nat.add_zero]
theorem mxv_all (x y : Nat) {o : Nat} (ho : 1 ≤ o) : mxv x y o o = y := by
  unfold mxv
  rw [Nat.sub_self, Nat.mul_zero, Nat.zero_add, Nat.mul_comm, Nat.mul_add_div (by omega), Nat.div_eq_of_lt (by omega), Nat.add_zero]
theorem mxv_self (x : Nat) {p o : Nat} (hp : p ≤ o) (ho : 1 ≤ o) : mxv x x p o = x := by
  unfold mxv
  rw [← Nat.mul_add, Nat.sub_add_cancel hp, Nat.mul_comm, Nat.mul_add_div (by omega), Nat.div_eq_of_lt (by omega), Nat.add_zero]
theorem mxv_ge {x y p o M : Nat} (hx : M ≤ x) (hy : M ≤ y) (hp : p ≤ o) (ho : 1 ≤ o) : M ≤ mxv x y p o := by
  unfold mxv
  rw [Nat.le_div_iff_mul_le (by omega)]
  have h1 : M * (o - p) ≤ x * (o - p) := Nat.mul_le_mul_right _ hx
  have h2 : M * p ≤ y * p := Nat.mul_le_mul_right _ hy
  have h3 : M * (o - p) + M * p = M * o := by rw [← Nat.mul_add, Nat.sub_add_cancel hp]
  omega
theorem mxv_sum (x y : Nat) {p o : Nat} (hp : p < o) : x * (o - p) = x * (o - (p + 1)) + x ∧ y * (p + 1) = y * p + y := by
  constructor
  · rw [show o - p = o - (p + 1) + 1 by omega, Nat.mul_add, Nat.mul_one]
  · rw [Nat.mul_add, Nat.mul_one]
theorem mxv_up {x y p o : Nat} (h : x ≤ y) (hp : p < o) : mxv x y p o ≤ mxv x y (p + 1) o := by
  unfold mxv
  have h1 := mxv_sum x y hp
  rw [h1.1, h1.2]
  generalize x * (o - (p + 1)) = a
  generalize y * p = b
  exact Nat.div_le_div_right (by omega)
theorem mxv_down {x y p o : Nat} (h : y ≤ x) (hp : p < o) : mxv x y (p + 1) o ≤ mxv x y p o := by
  unfold mxv
  have h1 := mxv_sum x y hp
  rw [h1.1, h1.2]
  generalize x * (o - (p + 1)) = a
  generalize y * p = b
  exact Nat.div_le_div_right (by omega)
theorem mixE_in {W H D : Int} {A : Bool} {n : Nat} {ln : Nat → Nat} {F : Nat → Nat → Nat} {W2 H2 D2 : Int} {A2 : Bool} {n2 : Nat} {ln2 : Nat → Nat} {G : Nat → Nat → Nat} {p o : Int} (h1 : 1 ≤ o) (h2 : o ≤ 101) (h3 : 0 ≤ p) (h4 : p ≤ o) : mixE W H D A n ln F W2 H2 D2 A2 n2 ln2 G p o = mixE W H D A n ln F W2 H2 D2 A2 n2 ln2 G 0 1 := by
  unfold mixE
  rw [if_neg (show ¬ (o < 1 ∨ 101 < o ∨ p < 0 ∨ o < p) by omega), if_neg (show ¬ ((1 : Int) < 1 ∨ (101 : Int) < 1 ∨ (0 : Int) < 0 ∨ (1 : Int) < 0) by omega)]
theorem mixE_ok {W H D : Int} {A : Bool} {n : Nat} {ln : Nat → Nat} {F : Nat → Nat → Nat} {W2 H2 D2 : Int} {A2 : Bool} {n2 : Nat} {ln2 : Nat → Nat} {G : Nat → Nat → Nat} {p o : Int} (h : mixE W H D A n ln F W2 H2 D2 A2 n2 ln2 G p o = 0) : (1 ≤ o ∧ o ≤ 101 ∧ 0 ≤ p ∧ p ≤ o) ∧ Vld W H D A n ln F ∧ Vld W2 H2 D2 A2 n2 ln2 G ∧ W = W2 ∧ H = H2 ∧ D = D2 ∧ A = A2 := by
  unfold mixE at h
  split at h
  · cases h
  · rename_i h0
    split at h
    · rename_i h1; exact absurd h h1
    · rename_i h1
      split at h
      · rename_i h2; exact absurd h h2
      · rename_i h2
        split at h
        · rename_i h3
          simp only [ne_eq, Decidable.not_not] at h1 h2
          exact ⟨by omega, vE_zero.1 h1, vE_zero.1 h2, h3⟩
        · cases h
theorem mixE_yes {W H D : Int} {A : Bool} {n : Nat} {ln : Nat → Nat} {F : Nat → Nat → Nat} {ln2 : Nat → Nat} {G : Nat → Nat → Nat} {p o : Int} (h0 : 1 ≤ o ∧ o ≤ 101 ∧ 0 ≤ p ∧ p ≤ o) (h1 : Vld W H D A n ln F) (h2 : Vld W H D A n ln2 G) : mixE W H D A n ln F W H D A n ln2 G p o = 0 := by
  unfold mixE
  rw [if_neg (by omega), vE_zero.2 h1, vE_zero.2 h2, if_neg (by simp), if_neg (by simp), if_pos ⟨rfl, rfl, rfl, rfl⟩]

theorem Pl.lens {w : World} {po : Option Addr} {n : Nat} {ln ln2 : Nat → Nat} {F : Nat → Nat → Nat} (h : Pl w po n ln F) (hl : ∀ i, i < n → ln i = ln2 i) : Pl w po n ln2 F := by
  rcases h with h | ⟨g, off, e, hc⟩
  · exact .inl h
  · refine .inr ⟨g, off, e, fun i hi => ?_⟩
    rw [← hl i hi]
    exact hc i hi
set_option maxHeartbeats 16000000 in
set_option maxRecDepth 1000000 in
theorem between_no (W H D : Int) (A : Bool) (po : Option Addr) (n c : Nat) (ln : Nat → Nat) (F : Nat → Nat → Nat) (W2 H2 D2 : Int) (A2 : Bool) (po2 : Option Addr) (n2 c2 : Nat) (ln2 : Nat → Nat) (G : Nat → Nat → Nat) (p0 o0 : Int) (w : World) (hT : Tc.Tb w)
    (hr : Pl w po n ln F) (hn : n ≤ 9223372036854775807) (hln : ∀ i, i < n → ln i ≤ 9223372036854775807) (hr2 : Pl w po2 n2 ln2 G) (hn2 : n2 ≤ 9223372036854775807) (hln2 : ∀ i, i < n2 → ln2 i ≤ 9223372036854775807) (hE : mixE W H D A n ln F W2 H2 D2 A2 n2 ln2 G 0 1 ≠ 0) (hp0 : -9223372036854775808 ≤ p0 ∧ p0 ≤ 9223372036854775807) (ho0 : -9223372036854775808 ≤ o0 ∧ o0 ≤ 9223372036854775807) :
    Calls Tryd.prog 4 #[frv W H D A po n c, frv W2 H2 D2 A2 po2 n2 c2, .int .i64 p0, .int .i64 o0] w fun e w' => e = .returned (.bool true) ∧ Kept [] w w' := by
  obtain ⟨w1, e1⟩ : ∃ w1, w.alloc (.cells #[.int .i64 W, .int .i64 H, .int .i64 D, .bool A, .slice po n c] 29 (0, 0)) = w1 := ⟨_, rfl⟩
  obtain ⟨w2, e2⟩ : ∃ w2, w1.alloc (.cells #[.int .i64 W2, .int .i64 H2, .int .i64 D2, .bool A2, .slice po2 n2 c2] 29 (0, 0)) = w2 := ⟨_, rfl⟩
  have k1 : Kept [] w w1 := by rw [← e1]; exact alloc_kept _ _
  have k2 : Kept [] w1 w2 := by rw [← e2]; exact alloc_kept _ _
  have b1 : w1.heap[w.heap.size]? = some (.cells #[.int .i64 W, .int .i64 H, .int .i64 D, .bool A, .slice po n c] 29 (0, 0)) := by rw [← e1]; exact heap_alloc_new _ _
  have b2 : w2.heap[w1.heap.size]? = some (.cells #[.int .i64 W2, .int .i64 H2, .int .i64 D2, .bool A2, .slice po2 n2 c2] 29 (0, 0)) := by rw [← e2]; exact heap_alloc_new _ _
  rw [show w1.heap.size = w.heap.size + 1 by rw [← e1, World.size_alloc]] at b2
  have K2 := Hid.mk (k1.trans k2)
  have HB := Hid.mk (And.intro (k2.heap b1 (by simp)) b2)
  have E1 := Hid.mk e1
  have E2 := Hid.mk e2
  have CA := Hid.mk (awake_any w2 (hT.keep (k1.trans k2)))
  obtain ⟨o, eo⟩ : ∃ o : Nat, 1 + plc o0 101 = (o : Int) := ⟨(1 + plc o0 101).toNat, by have := plc_lo o0 (n := 101) (by omega); omega⟩
  have ho : 1 ≤ o ∧ o ≤ 101 := by have := plc_lo o0 (n := 101) (by omega); have := plc_hi o0 (n := 101) (by omega); omega
  obtain ⟨p, ep⟩ : ∃ p : Nat, plc p0 (o : Int) = (p : Int) := ⟨(plc p0 (o : Int)).toNat, by have := plc_lo p0 (n := (o : Int)) (by omega); omega⟩
  have hp : p < o := by have := plc_hi p0 (n := (o : Int)) (by omega); omega
  obtain ⟨q, eq⟩ : ∃ q, plc o0 101 = q := ⟨_, rfl⟩
  have CO := Hid.mk (fun u => pick_any o0 101 u ho0 (by omega) (by omega))
  have CQ := Hid.mk (fun u => pick_any p0 (o : Int) u hp0 (by omega) (by omega))
  have hq := And.intro (plc_lo o0 (n := 101) (by omega)) (plc_hi o0 (n := 101) (by omega))
  rw [eq] at CO eo hq
  obtain ⟨hq0, hq1⟩ := hq
  rw [ep] at CQ
  have wo : wrap64 (1 + q) = (o : Int) := by rw [eo]; exact w64_in (by omega) (by omega)
  have wp1 : wrap64 ((p : Int) + 1) = ((p + 1 : Nat) : Int) := by rw [show (p : Int) + 1 = ((p + 1 : Nat) : Int) by omega]; exact w64_in (by omega) (by omega)
  have HO := Hid.mk (And.intro ho hp)
  have CM : Hid (∀ u (z : Nat), Kept [] w u → z ≤ o → Calls Tryd.prog 7 #[frv W H D A po n c, frv W2 H2 D2 A2 po2 n2 c2, .int .i64 (z : Int), .int .i64 (o : Int)] u fun e w' => e = .returned (.tuple #[frv 0 0 0 false none 0 0, .int .i64 (mixE W H D A n ln F W2 H2 D2 A2 n2 ln2 G 0 1)]) ∧ Kept [] u w') := Hid.mk (fun u z hu hz => by
    have e9 := mixE_in (W := W) (H := H) (D := D) (A := A) (n := n) (ln := ln) (F := F) (W2 := W2) (H2 := H2) (D2 := D2) (A2 := A2) (n2 := n2) (ln2 := ln2) (G := G) (p := (z : Int)) (o := (o : Int)) (by omega) (by omega) (by omega) (by omega)
    have h := mix_no W H D A po n c ln F W2 H2 D2 A2 po2 n2 c2 ln2 G (z : Int) (o : Int) u (hr.keep hu) hn hln (hr2.keep hu) hn2 hln2 (by rw [e9]; exact hE)
    rw [e9] at h
    exact h)
  obtain ⟨E, eE⟩ : ∃ E, mixE W H D A n ln F W2 H2 D2 A2 n2 ln2 G 0 1 = E := ⟨_, rfl⟩
  rw [eE] at CM hE
  have hE1 : (E != 0) = true := by simpa using hE
  clear hT k1 k2 b1 b2 e1 e2 eq ep ho hp hr hn hln hr2 hn2 hln2 hp0 ho0 eE
  go_enter Tryd.func4, Tryd.ntmps4
  go_upto_region 1 with (fail)
  rw [E1.out, E2.out]
  obtain ⟨b, eb⟩ : ∃ b, w.heap.size = b := ⟨_, rfl⟩
  simp only [eb] at HB ⊢
  have EB := Hid.mk eb
  clear eb
  go_wp2_with (fail)
  refine CA.out.mono ?_
  rintro e w3 ⟨rfl, k3⟩
  have K3 := Hid.mk (K2.out.trans k3)
  obtain ⟨⟨x0, x1, x2, x3, x4⟩, _⟩ := five (k3.heap HB.out.1 (by simp))
  obtain ⟨⟨y0, y1, y2, y3, y4⟩, _⟩ := five (k3.heap HB.out.2 (by simp))
  have HB3 := Hid.mk (And.intro (k3.heap HB.out.1 (by simp)) (k3.heap HB.out.2 (by simp)))
  clear k3 CA
  go_wp2_with (fail)
  refine (CO.out _).mono ?_
  rintro e w3' ⟨rfl, hw⟩
  obtain rfl := hw.symm
  go_wp2_with (fail)
  try rw [wo]
  clear wo hq0 hq1 eo
  refine (CQ.out _).mono ?_
  rintro e w3' ⟨rfl, hw⟩
  obtain rfl := hw.symm
  clear CO CQ
  go_wp2_with (fail)
  refine (CM.out _ p K3.out (by have := HO.out; omega)).mono ?_
  rintro e w4 ⟨rfl, k4⟩
  obtain ⟨w5, e5⟩ : ∃ w5, w4.alloc (.cells #[.int .i64 0, .int .i64 0, .int .i64 0, .bool false, .slice none 0 0] 29 (0, 0)) = w5 := ⟨_, rfl⟩
  have k5 : Kept [] w4 w5 := by rw [← e5]; exact alloc_kept _ _
  have b5 : w5.heap[w4.heap.size]? = some (.cells #[.int .i64 0, .int .i64 0, .int .i64 0, .bool false, .slice none 0 0] 29 (0, 0)) := by rw [← e5]; exact heap_alloc_new _ _
  have K5 := Hid.mk (K3.out.trans (k4.trans k5))
  have HF := Hid.mk b5
  obtain ⟨⟨a0, a1, a2, a3, a4⟩, _⟩ := five ((k4.trans k5).heap HB3.out.1 (by simp))
  obtain ⟨⟨d0, d1, d2, d3, d4⟩, _⟩ := five ((k4.trans k5).heap HB3.out.2 (by simp))
  have E5 := Hid.mk e5
  clear k4 k5 b5 e5 x0 x1 x2 x3 x4 y0 y1 y2 y3 y4
  go_upto_region 5 with (fail)
  rw [E5.out]
  go_wp2_with (fail)
  refine (CM.out _ (p + 1) K5.out (by have := HO.out; omega)).mono ?_
  rintro e w6 ⟨rfl, k6⟩
  obtain ⟨w7, e7⟩ : ∃ w7, w6.alloc (.cells #[.int .i64 0, .int .i64 0, .int .i64 0, .bool false, .slice none 0 0] 29 (0, 0)) = w7 := ⟨_, rfl⟩
  have k7 : Kept [] w6 w7 := by rw [← e7]; exact alloc_kept _ _
  have b7 : w7.heap[w6.heap.size]? = some (.cells #[.int .i64 0, .int .i64 0, .int .i64 0, .bool false, .slice none 0 0] 29 (0, 0)) := by rw [← e7]; exact heap_alloc_new _ _
  obtain ⟨⟨_, _, _, _, f4⟩, _⟩ := five ((k6.trans k7).heap HF.out (by simp))
  obtain ⟨⟨_, _, _, _, g4⟩, _⟩ := five b7
  have K7 := Hid.mk (K5.out.trans (k6.trans k7))
  have E7 := Hid.mk e7
  clear k6 k7 b7 e7 a0 a1 a2 a3 a4 d0 d1 d2 d3 d4
  go_upto_region 6 with (fail)
  rw [E7.out]
  go_wp2_with (fail)
  go_ret
  exact ⟨rfl, K7.out⟩

end Go.Proofs.YtgjjnkhkjnkahaaDoor
