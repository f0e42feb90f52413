import Derived.Test.YtdnbjbdokppfnaaDoorJ1
namespace Go.Proofs.YtdnbjbdokppfnaaDoor
open Go.RowKit

theorem dbl_binade : Ieee.double.binade = 4503599627370496 := by decide
theorem dbl_inf : Ieee.double.infRung = 9218868437227405312 := by decide
theorem dbl_least : Ieee.double.leastPlace = -1074 := by decide
theorem dbl_sign : Ieee.double.signWeight = 9223372036854775808 := by decide
theorem dbl_frac : (Ieee.double.fractionBits : Int) = 52 := by decide

/-- A number's worth, counted in the least place. -/
def wth (m : Nat) (p : Int) : Nat := m * 2 ^ (p + 1074).toNat

/-- What the word of a rung is read as. -/
theorem read_rung (neg : Bool) (q k : Nat) (hq : q ≤ 2040) (hk : k ≤ 9007199254740992) (hqk : 0 < q → 4503599627370496 ≤ k) :
    ∃ m p, Ieee.double.read (Ieee.double.word neg (q * 4503599627370496 + k)) = .number neg m p ∧ -1074 ≤ p ∧ wth m p = k * 2 ^ q ∧ (4503599627370496 ≤ k → k < 9007199254740992 → m = k ∧ p = (q : Int) - 1074) := by
  have hr : q * 4503599627370496 + k < 9218868437227405312 := by omega
  have h1 : (Ieee.double.word neg (q * 4503599627370496 + k) / Ieee.double.signWeight % 2 == 1) = neg := by
    unfold Ieee.Format.word
    rw [dbl_sign]
    cases neg
    · simp; omega
    · simp; omega
  have h2 : Ieee.double.word neg (q * 4503599627370496 + k) % Ieee.double.signWeight = q * 4503599627370496 + k := by
    unfold Ieee.Format.word
    rw [dbl_sign]
    cases neg
    · simp; omega
    · simp; omega
  unfold Ieee.Format.read
  simp only [h1, h2, dbl_binade, dbl_inf, dbl_least]
  by_cases a : q * 4503599627370496 + k < 4503599627370496
  · rw [if_pos a]
    have hq0 : q = 0 := by
      rcases Nat.eq_zero_or_pos q with h | h
      · exact h
      · have := hqk h; omega
    subst hq0
    refine ⟨_, _, rfl, by omega, by simp [wth], fun _ => by omega⟩
  · rw [if_neg a, if_pos hr]
    by_cases b : k = 9007199254740992
    · refine ⟨_, _, rfl, by omega, ?_, fun _ => by omega⟩
      have e1 : (q * 4503599627370496 + k) % 4503599627370496 = 0 := by omega
      have e2 : (q * 4503599627370496 + k) / 4503599627370496 = q + 2 := by omega
      rw [e1, e2]
      unfold wth
      have e3 : ((-1074 : Int) + ((q + 2 - 1 : Nat) : Int) + 1074).toNat = q + 1 := by omega
      rw [e3, b, Nat.pow_succ]
      omega
    · by_cases c : k < 4503599627370496
      · have hq0 : q = 0 := by
          rcases Nat.eq_zero_or_pos q with h | h
          · exact h
          · have := hqk h; omega
        omega
      · have e1 : (q * 4503599627370496 + k) % 4503599627370496 = k - 4503599627370496 := by omega
        have e2 : (q * 4503599627370496 + k) / 4503599627370496 = q + 1 := by omega
        refine ⟨_, _, rfl, by omega, ?_, fun _ _ => ⟨by omega, by omega⟩⟩
        rw [e1, e2]
        unfold wth
        have e3 : ((-1074 : Int) + ((q + 1 - 1 : Nat) : Int) + 1074).toNat = q := by omega
        rw [e3, show 4503599627370496 + (k - 4503599627370496) = k by omega]

theorem cut_zero (neg : Bool) (n : Nat) : Ieee.Toward.even.cut neg n 0 = n := by
  unfold Ieee.Toward.cut
  simp [Nat.mod_one]
theorem cut_near (neg : Bool) (n d : Nat) (hd : d ≤ n.log2 + 2) : n / 2 ^ d ≤ Ieee.Toward.even.cut neg n d ∧ Ieee.Toward.even.cut neg n d ≤ n / 2 ^ d + 1 := by
  unfold Ieee.Toward.cut
  simp only [Nat.min_eq_left hd, Nat.one_shiftLeft]
  have h2 : ∀ b : Bool, b.toNat ≤ 1 := by decide
  exact ⟨Nat.le_add_right _ _, Nat.add_le_add_left (h2 _) _⟩
/-- A power of two, as a word. -/
def pw (n : Nat) : Nat := 2 ^ n
theorem pw_of {a b : Nat} (h : a ≤ b) : 2 ^ a ≤ pw b := Nat.pow_le_pow_right (by decide) h
theorem lt_pw {a b : Nat} (h : 2 ^ a < pw b) : a < b := by
  rcases Nat.lt_or_ge a b with h1 | h1
  · exact h1
  · have : pw b ≤ 2 ^ a := Nat.pow_le_pow_right (by decide) h1
    omega
/-- To round a number below 2 to the 17 errs by at most 2 to the -36. -/
theorem round_near (neg : Bool) (mag : Nat) (place : Int) (hp : -1074 ≤ place) (hV : wth mag place < pw 1091) :
    ∃ m p, Ieee.double.read (Ieee.double.nearest neg mag place) = .number neg m p ∧ -1074 ≤ p ∧ wth m p ≤ wth mag place + pw 1038 ∧ wth mag place ≤ wth m p + pw 1038 := by
  by_cases h0 : mag = 0
  · subst h0
    obtain ⟨m, p, h1, h2, h3, _⟩ := read_rung neg 0 0 (by omega) (by omega) (by omega)
    refine ⟨m, p, ?_, h2, by rw [h3, Nat.zero_mul]; exact Nat.zero_le _, by unfold wth; rw [Nat.zero_mul]; exact Nat.zero_le _⟩
    unfold Ieee.Format.nearest
    rw [if_pos rfl]
    exact h1
  · have g1 : 2 ^ mag.log2 ≤ mag := Nat.log2_self_le h0
    have g2 : mag < 2 ^ (mag.log2 + 1) := Nat.lt_log2_self
    obtain ⟨g, eg⟩ : ∃ g, mag.log2 = g := ⟨_, rfl⟩
    rw [eg] at g1 g2
    obtain ⟨P, eP⟩ : ∃ P : Nat, place = (P : Int) - 1074 := ⟨(place + 1074).toNat, by omega⟩
    have eW : wth mag place = mag * 2 ^ P := by unfold wth; rw [show (place + 1074).toNat = P by omega]
    rw [eW] at hV
    have hgP : g + P < 1091 := lt_pw (by
      rw [Nat.pow_add]
      exact Nat.lt_of_le_of_lt (Nat.mul_le_mul_right _ g1) hV)
    unfold Ieee.Format.nearest
    rw [if_neg h0]
    simp only [dbl_binade, dbl_inf, dbl_least, dbl_frac, eg]
    by_cases c : g ≤ 52
    · -- nothing is cut
      obtain ⟨L, hL1, hL2⟩ : ∃ L : Nat, max (place + (g : Int) - 52) (-1074) = (L : Int) - 1074 ∧ ((g + P ≥ 52 ∧ L = g + P - 52) ∨ (g + P < 52 ∧ L = 0)) := by
        by_cases d : g + P ≥ 52
        · exact ⟨g + P - 52, by omega, .inl ⟨d, rfl⟩⟩
        · exact ⟨0, by omega, .inr ⟨by omega, rfl⟩⟩
      rw [hL1]
      have hLP : L ≤ P := by omega
      have u1 : (place - ((L : Int) - 1074)).toNat = P - L := by omega
      have u2 : ((L : Int) - 1074 - place).toNat = 0 := by omega
      have u3 : ((L : Int) - 1074 - -1074).toNat = L := by omega
      rw [u1, u2, u3, cut_zero, Nat.shiftLeft_eq]
      have k1 : mag * 2 ^ (P - L) < 2 ^ (g + 1) * 2 ^ (P - L) := Nat.mul_lt_mul_of_pos_right g2 (Nat.two_pow_pos _)
      rw [← Nat.pow_add] at k1
      have k2 : 2 ^ (g + 1 + (P - L)) ≤ 2 ^ 53 := Nat.pow_le_pow_right (by decide) (by omega)
      have k3 : 0 < L → 4503599627370496 ≤ mag * 2 ^ (P - L) := fun hl => by
        have e1 : g + (P - L) = 52 := by omega
        have e2 : 2 ^ g * 2 ^ (P - L) ≤ mag * 2 ^ (P - L) := Nat.mul_le_mul_right _ g1
        rw [← Nat.pow_add, e1] at e2
        exact e2
      have e53 : (2 : Nat) ^ 53 = 9007199254740992 := by decide
      have k4 : mag * 2 ^ (P - L) ≤ 9007199254740992 := by omega
      rw [Nat.min_eq_left (by omega)]
      obtain ⟨m, p, h1, h2, h3, _⟩ := read_rung neg L (mag * 2 ^ (P - L)) (by omega) k4 k3
      refine ⟨m, p, h1, h2, ?_, ?_⟩
      all_goals
        rw [h3, eW, Nat.mul_assoc, ← Nat.pow_add, show P - L + L = P by omega]
        exact Nat.le_add_right _ _
    · -- some digits are cut
      have hL1 : max (place + (g : Int) - 52) (-1074) = ((g + P - 52 : Nat) : Int) - 1074 := by omega
      rw [hL1]
      obtain ⟨L, eL⟩ : ∃ L, g + P - 52 = L := ⟨_, rfl⟩
      obtain ⟨d, ed⟩ : ∃ d, g - 52 = d := ⟨_, rfl⟩
      rw [eL]
      have u1 : (place - ((L : Int) - 1074)).toNat = 0 := by omega
      have u2 : ((L : Int) - 1074 - place).toNat = d := by omega
      have u3 : ((L : Int) - 1074 - -1074).toNat = L := by omega
      rw [u1, u2, u3, Nat.shiftLeft_zero]
      obtain ⟨c1, c2⟩ := cut_near neg mag d (by rw [eg]; omega)
      generalize Ieee.Toward.even.cut neg mag d = k at c1 c2 ⊢
      have e53 : (2 : Nat) ^ 53 = 9007199254740992 := by decide
      have e52 : (2 : Nat) ^ 52 = 4503599627370496 := by decide
      have f1 : 2 ^ 52 ≤ mag / 2 ^ d := by
        rw [Nat.le_div_iff_mul_le (Nat.two_pow_pos _), ← Nat.pow_add, show 52 + d = g by omega]; exact g1
      have f2 : mag / 2 ^ d < 2 ^ 53 := by
        rw [Nat.div_lt_iff_lt_mul (Nat.two_pow_pos _), ← Nat.pow_add, show 53 + d = g + 1 by omega]; exact g2
      rw [Nat.min_eq_left (by omega)]
      obtain ⟨m, p, h1, h2, h3, _⟩ := read_rung neg L k (by omega) (by omega) (fun _ => by omega)
      have q1 := Nat.div_add_mod mag (2 ^ d)
      have q2 := Nat.mod_lt mag (Nat.two_pow_pos d)
      have r1 : k * 2 ^ d ≤ mag + 2 ^ d := by
        have := Nat.mul_le_mul_right (2 ^ d) c2
        rw [Nat.add_mul, Nat.one_mul, Nat.mul_comm (mag / 2 ^ d)] at this
        omega
      have r2 : mag ≤ k * 2 ^ d + 2 ^ d := by
        have := Nat.mul_le_mul_right (2 ^ d) c1
        rw [Nat.mul_comm (mag / 2 ^ d)] at this
        omega
      have e4 : 2 ^ L = 2 ^ d * 2 ^ P := by rw [← Nat.pow_add]; congr 1; omega
      have e5 : 2 ^ d * 2 ^ P ≤ pw 1038 := by rw [← Nat.pow_add]; exact pw_of (by omega)
      refine ⟨m, p, h1, h2, ?_, ?_⟩
      · rw [h3, eW, e4, ← Nat.mul_assoc]
        have := Nat.mul_le_mul_right (2 ^ P) r1
        rw [Nat.add_mul] at this
        omega
      · rw [h3, eW, e4, ← Nat.mul_assoc]
        have := Nat.mul_le_mul_right (2 ^ P) r2
        rw [Nat.add_mul] at this
        omega
end Go.Proofs.YtdnbjbdokppfnaaDoor
