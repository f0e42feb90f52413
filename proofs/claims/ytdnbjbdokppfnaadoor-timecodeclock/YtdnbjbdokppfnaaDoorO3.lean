import Derived.Test.YtdnbjbdokppfnaaDoorO2
namespace Go.Proofs.YtdnbjbdokppfnaaDoor
open Go.RowKit

theorem round_sg (neg : Bool) (mag : Nat) (place : Int) (hp : -1074 ≤ place) (hV : wth mag place < pw 1091) :
    ∃ m p, Ieee.double.read (Ieee.double.write (.number neg mag place)) = .number neg m p ∧ -1074 ≤ p ∧ sg neg (wth m p) ≤ sg neg (wth mag place) + pw 1038 ∧ sg neg (wth mag place) ≤ sg neg (wth m p) + pw 1038 := by
  obtain ⟨m, p, h1, h2, h3, h4⟩ := round_near neg mag place hp hV
  refine ⟨m, p, h1, h2, ?_, ?_⟩
  all_goals
    unfold sg
    generalize wth m p = A at *
    generalize wth mag place = B at *
    generalize pw 1038 = U at *
    cases neg
    · simp only [Bool.false_eq_true, if_false]; omega
    · simp only [if_true]; omega
theorem sum_wth (s t : Bool) (m n : Nat) (i j : Int) (hi : -1074 ≤ i) (hj : -1074 ≤ j) : ∃ neg M b, (Ieee.Datum.number s m i).sum (.number t n j) = some (.number neg M b) ∧ -1074 ≤ b ∧ sg neg (wth M b) = sg s (wth m i) + sg t (wth n j) := by
  refine ⟨_, _, _, rfl, by omega, ?_⟩
  have e1 := signed_sg s m (i - min i j).toNat (min i j + 1074).toNat
  have e2 := signed_sg t n (j - min i j).toNat (min i j + 1074).toNat
  rw [show (i - min i j).toNat + (min i j + 1074).toNat = (i + 1074).toNat by omega] at e1
  rw [show (j - min i j).toNat + (min i j + 1074).toNat = (j + 1074).toNat by omega] at e2
  unfold wth
  rw [← e1, ← e2, ← Int.add_mul]
  generalize Ieee.signed s m (i - min i j).toNat + Ieee.signed t n (j - min i j).toNat = T
  generalize 2 ^ (min i j + 1074).toNat = k
  unfold sg
  by_cases h0 : T = 0
  · subst h0; simp
  · rw [if_neg h0]
    by_cases h1 : T < 0
    · rw [decide_eq_true h1, if_pos rfl, Int.natCast_mul, ← Int.neg_mul]
      congr 1
      omega
    · rw [decide_eq_false h1, if_neg (by decide), Int.natCast_mul]
      congr 1
      omega
/-- A float's word whose worth is known: signed, in the least place. -/
def Fw (r : Nat) (v : Int) : Prop := ∃ s m p, Ieee.double.read r = .number s m p ∧ -1074 ≤ p ∧ v = sg s (wth m p)
theorem sg_abs (s : Bool) (x : Nat) (L : Nat) (h1 : sg s x < L) (h2 : -(L : Int) < sg s x) : x < L := by
  unfold sg at h1 h2
  cases s
  · simp at h1; omega
  · simp at h2; omega
theorem add_near {a b : Nat} {va vb : Int} (ha : Fw a va) (hb : Fw b vb) (h1 : va + vb < (pw 1091 : Nat)) (h2 : -((pw 1091 : Nat) : Int) < va + vb) : ∃ r v, floatBits .add .f64 a b = some r ∧ Fw r v ∧ v ≤ va + vb + (pw 1038 : Nat) ∧ va + vb ≤ v + (pw 1038 : Nat) := by
  obtain ⟨s, m, i, ra, hi, rfl⟩ := ha
  obtain ⟨t, n, j, rb', hj, rfl⟩ := hb
  obtain ⟨neg, M, c, hs, hc, hv⟩ := sum_wth s t m n i j hi hj
  rw [← hv] at h1 h2 ⊢
  obtain ⟨m', p', h3, h4, h5, h6⟩ := round_sg neg M c hc (sg_abs _ _ _ h1 h2)
  refine ⟨Ieee.double.write (.number neg M c), _, ?_, ⟨neg, m', p', h3, h4, rfl⟩, h5, h6⟩
  show Option.map Ieee.double.write ((Ieee.double.read a).sum (Ieee.double.read b)) = _
  rw [ra, rb', hs]
  rfl
theorem sub_near {a b : Nat} {va vb : Int} (ha : Fw a va) (hb : Fw b vb) (h1 : va - vb < (pw 1091 : Nat)) (h2 : -((pw 1091 : Nat) : Int) < va - vb) : ∃ r v, floatBits .sub .f64 a b = some r ∧ Fw r v ∧ v ≤ va - vb + (pw 1038 : Nat) ∧ va - vb ≤ v + (pw 1038 : Nat) := by
  obtain ⟨s, m, i, ra, hi, rfl⟩ := ha
  obtain ⟨t, n, j, rb', hj, rfl⟩ := hb
  obtain ⟨neg, M, c, hs, hc, hv⟩ := sum_wth s (!t) m n i j hi hj
  have hn : sg (!t) (wth n j) = - sg t (wth n j) := by unfold sg; cases t <;> simp
  rw [hn, ← Int.sub_eq_add_neg] at hv
  rw [← hv] at h1 h2 ⊢
  obtain ⟨m', p', h3, h4, h5, h6⟩ := round_sg neg M c hc (sg_abs _ _ _ h1 h2)
  refine ⟨Ieee.double.write (.number neg M c), _, ?_, ⟨neg, m', p', h3, h4, rfl⟩, h5, h6⟩
  show Option.map Ieee.double.write ((Ieee.double.read a).sum (Ieee.double.read b).opposite) = _
  rw [ra, rb']
  show Option.map Ieee.double.write ((Ieee.Datum.number s m i).sum (.number (!t) n j)) = _
  rw [hs]
  rfl
theorem order_fw {a b : Nat} {va vb : Int} (ha : Fw a va) (hb : Fw b vb) : FloatKind.f64.format.order a b = some (compare va vb) := by
  obtain ⟨s, m, i, ra, hi, rfl⟩ := ha
  obtain ⟨t, n, j, rb', hj, rfl⟩ := hb
  show (Ieee.double.read a).order (Ieee.double.read b) = _
  rw [ra, rb', order_wth _ _ _ _ _ _ hi hj]
theorem pw_mk (a b c : Nat) (h : a + b = c) : 2 ^ a * 2 ^ b = pw c := by subst h; exact (Nat.pow_add 2 a b).symm
theorem pow_four (a b c d e : Nat) (h : a + (b + (c + 1)) = d + e) : 2 ^ a * (2 ^ b * (2 * 2 ^ c)) = pw d * 2 ^ e := by
  unfold pw
  rw [show 2 * 2 ^ c = 2 ^ (c + 1) by rw [Nat.pow_succ]; omega, ← Nat.pow_add, ← Nat.pow_add, ← Nat.pow_add, h]
theorem int_fw (x : Nat) (h : x < 4503599627370496) : Fw (floatOfInt .f64 (x : Int)) ((x * pw 1074 : Nat) : Int) := by
  rcases Nat.eq_zero_or_pos x with rfl | h0
  · obtain ⟨m, p, h1, h2, h3, _⟩ := read_rung false 0 0 (by omega) (by omega) (by omega)
    refine ⟨false, m, p, ?_, h2, ?_⟩
    · rw [show floatOfInt .f64 ((0 : Nat) : Int) = Ieee.double.word false (0 * 4503599627370496 + 0) by decide]; exact h1
    · rw [h3]; unfold sg; simp
  · obtain ⟨m, h1, h2, h3, h4⟩ := int_exact x h0 h
    have e : wth m ((x.log2 : Int) - 52) = x * pw 1074 := by
      unfold wth
      rw [h2, Nat.mul_assoc, pw_mk (52 - x.log2) ((x.log2 : Int) - 52 + 1074).toNat 1074 (by omega)]
    refine ⟨false, m, _, h1, by omega, ?_⟩
    rw [e]
    rfl
set_option maxHeartbeats 2000000 in
/-- A quotient of two whole numbers as floats. -/
theorem quo_near (x y : Nat) (hx : x < 4503599627370496) (hy0 : 0 < y) (hy : y < 4503599627370496) (hxy : x ≤ y * 100000) :
    ∃ r V, floatBits .quo .f64 (floatOfInt .f64 (x : Int)) (floatOfInt .f64 (y : Int)) = some r ∧ Fw r (V : Nat) ∧ V * y ≤ x * pw 1074 + 2 * y * pw 1038 ∧ x * pw 1074 ≤ V * y + 2 * y * pw 1038 := by
  obtain ⟨B, b1, b2, b3, b4⟩ := int_exact y hy0 hy
  have hB : B ≠ 0 := by rintro rfl; revert b3; decide
  rcases Nat.eq_zero_or_pos x with rfl | h0
  · obtain ⟨m, p, h1, h2, h3, _⟩ := read_rung false 0 0 (by omega) (by omega) (by omega)
    have h4 : Ieee.double.read (floatOfInt .f64 ((0 : Nat) : Int)) = .number false 0 (-1074) := by decide
    refine ⟨0, 0, ?_, ⟨false, m, p, h1, h2, ?_⟩, ?_, ?_⟩
    · show Option.map Ieee.double.write ((Ieee.double.read _).quotient (Ieee.double.fractionBits + 2) (Ieee.double.read _)) = _
      rw [h4, b1]
      unfold Ieee.Datum.quotient
      simp only
      rw [if_neg hB]
      simp only [Nat.zero_shiftLeft, Nat.zero_div, Nat.zero_mod]
      rfl
    · rw [h3]; unfold sg; simp
    · rw [Nat.zero_mul]; exact Nat.zero_le _
    · rw [Nat.zero_mul]; exact Nat.zero_le _
  · obtain ⟨A, a1, a2, a3, a4⟩ := int_exact x h0 hx
    have gx1 : 2 ^ x.log2 ≤ x := Nat.log2_self_le (by omega)
    have gy2 : y < 2 ^ (y.log2 + 1) := Nat.lt_log2_self
    obtain ⟨gx, ex⟩ : ∃ g, x.log2 = g := ⟨_, rfl⟩
    obtain ⟨gy, ey⟩ : ∃ g, y.log2 = g := ⟨_, rfl⟩
    rw [ex] at a1 a2 a4 gx1
    rw [ey] at b1 b2 b4 gy2
    have hg : gx < gy + 18 := by
      have t1 : y * 131072 < 2 ^ (gy + 1) * 131072 := Nat.mul_lt_mul_of_pos_right gy2 (by decide)
      have t2 : 2 ^ (gy + 18) = 2 ^ (gy + 1) * 131072 := by rw [show gy + 18 = gy + 1 + 17 by omega, Nat.pow_add _ (gy + 1) 17]
      rcases Nat.lt_or_ge gx (gy + 18) with h | h
      · exact h
      · have := Nat.pow_le_pow_right (show 0 < 2 by decide) h; omega
    obtain ⟨D, eD⟩ : ∃ D, A <<< 54 = D := ⟨_, rfl⟩
    have eD2 : D = A * 2 ^ 54 := by rw [← eD, Nat.shiftLeft_eq]
    obtain ⟨M, eM⟩ : ∃ M, 2 * (D / B) + (D % B != 0).toNat = M := ⟨_, rfl⟩
    have q1 := Nat.div_add_mod D B
    have q2 := Nat.mod_lt D (show 0 < B by omega)
    have bt1 : ∀ z : Bool, z.toNat ≤ 1 := by decide
    have hM1 : M * B ≤ 2 * D + B := by
      have := Nat.mul_le_mul_right B (Nat.add_le_add_left (bt1 (D % B != 0)) (2 * (D / B)))
      rw [eM, Nat.add_mul, Nat.one_mul, Nat.mul_assoc, Nat.mul_comm (D / B)] at this
      omega
    have hM2 : 2 * D ≤ M * B + 2 * B := by
      have : 2 * (D / B) * B ≤ M * B := Nat.mul_le_mul_right B (by omega)
      rw [Nat.mul_assoc, Nat.mul_comm (D / B)] at this
      omega
    have hq : Ieee.Datum.quotient (Ieee.double.fractionBits + 2) (.number false A ((gx : Int) - 52)) (.number false B ((gy : Int) - 52)) = some (.number false M ((gx : Int) - (gy : Int) - 55)) := by
      unfold Ieee.Datum.quotient
      simp only
      rw [if_neg hB, a3, b3, show Ieee.double.fractionBits + 2 + 52 - 52 = 54 by decide, eD, eM, show (gx : Int) - 52 - ((gy : Int) - 52) - ((54 : Nat) : Int) - 1 = (gx : Int) - (gy : Int) - 55 by omega]
      rfl
    obtain ⟨T, eT⟩ : ∃ T, gx + 1019 - gy = T := ⟨_, rfl⟩
    have eW : wth M ((gx : Int) - (gy : Int) - 55) = M * 2 ^ T := by unfold wth; rw [show ((gx : Int) - (gy : Int) - 55 + 1074).toNat = T by omega]
    obtain ⟨W, eW2⟩ : ∃ W, M * 2 ^ T = W := ⟨_, rfl⟩
    have key : 2 * D * 2 ^ T = x * pw 1074 * 2 ^ (52 - gy) := by
      have t1 : 2 ^ (52 - gx) * (2 ^ 54 * (2 * 2 ^ T)) = pw 1074 * 2 ^ (52 - gy) := pow_four _ _ _ _ _ (by omega)
      rw [eD2, a2, Nat.mul_assoc x (pw 1074), ← t1]
      generalize 2 ^ T = z
      generalize 2 ^ (52 - gx) = z2
      generalize 2 ^ 54 = z3
      rw [Nat.mul_comm 2 (x * z2 * z3), Nat.mul_assoc, Nat.mul_assoc, Nat.mul_assoc]
    have n1 : W * y ≤ x * pw 1074 + y * 2 ^ T := by
      have t1 := Nat.mul_le_mul_right (2 ^ T) hM1
      rw [Nat.add_mul, key, Nat.mul_right_comm, eW2, b2, ← Nat.mul_assoc, Nat.mul_right_comm y, ← Nat.add_mul] at t1
      exact Nat.le_of_mul_le_mul_right t1 (Nat.two_pow_pos _)
    have n2 : x * pw 1074 ≤ W * y + 2 * (y * 2 ^ T) := by
      have t1 := Nat.mul_le_mul_right (2 ^ T) hM2
      rw [Nat.add_mul, key, Nat.mul_right_comm M, eW2, b2, ← Nat.mul_assoc W, ← Nat.mul_assoc 2, Nat.mul_right_comm (2 * y), ← Nat.add_mul, Nat.mul_assoc 2] at t1
      exact Nat.le_of_mul_le_mul_right t1 (Nat.two_pow_pos _)
    have hT : 2 * 2 ^ T ≤ pw 1038 := by
      have : 2 ^ (T + 1) ≤ pw 1038 := pw_of (by omega)
      rw [Nat.pow_succ] at this
      omega
    have hyT : 2 * (y * 2 ^ T) ≤ y * pw 1038 := by
      have := Nat.mul_le_mul_left y hT
      rw [Nat.mul_left_comm] at this
      exact this
    have up := pw_pos 1038
    have hW : W < pw 1091 := by
      have t1 : x * pw 1074 ≤ y * 100000 * pw 1074 := Nat.mul_le_mul_right _ hxy
      rw [pw74] at t1 n1
      rw [pw91]
      have t2 : W * y ≤ (6871947673600001 * pw 1038) * y := by
        rw [Nat.mul_comm _ y, Nat.mul_comm _ y]
        rw [Nat.mul_comm W y] at n1
        have t3 : y * 100000 * (68719476736 * pw 1038) = 6871947673600000 * (y * pw 1038) := by
          generalize pw 1038 = u
          rw [Nat.mul_assoc, ← Nat.mul_assoc 100000, Nat.mul_left_comm]
        have t4 : y * (6871947673600001 * pw 1038) = 6871947673600001 * (y * pw 1038) := Nat.mul_left_comm _ _ _
        omega
      have t5 := Nat.le_of_mul_le_mul_right t2 hy0
      omega
    rw [← eW2, ← eW] at hW
    obtain ⟨m, p, h1, h2, h3, h4⟩ := round_near false M ((gx : Int) - (gy : Int) - 55) (by omega) hW
    rw [eW, eW2] at h3 h4
    refine ⟨Ieee.double.write (.number false M ((gx : Int) - (gy : Int) - 55)), wth m p, ?_, ⟨false, m, p, h1, h2, rfl⟩, ?_, ?_⟩
    · show Option.map Ieee.double.write ((Ieee.double.read _).quotient (Ieee.double.fractionBits + 2) (Ieee.double.read _)) = _
      rw [a1, b1, hq]
      rfl
    · have t1 := Nat.mul_le_mul_right y h3
      rw [Nat.add_mul, Nat.mul_comm (pw 1038) y] at t1
      rw [Nat.mul_assoc 2]
      omega
    · have t1 := Nat.mul_le_mul_right y h4
      rw [Nat.add_mul, Nat.mul_comm (pw 1038) y] at t1
      rw [Nat.mul_assoc 2]
      omega
end Go.Proofs.YtdnbjbdokppfnaaDoor
