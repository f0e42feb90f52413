import Derived.Test.YtdnbjbdokppfnaaDoorK0
import Derived.Laws.FloatArith
namespace Go.Proofs.YtdnbjbdokppfnaaDoor
open Go.RowKit

theorem read_low (r : Nat) (h : r ≤ Ieee.double.infRung) : (∃ m p, Ieee.double.read r = .number false m p ∧ (0 < r → r < Ieee.double.infRung → 0 < m) ∧ (r = 0 → m = 0)) ∨ (r = Ieee.double.infRung ∧ Ieee.double.read r = .infinity false) := by
  have e1 : Ieee.double.binade = 4503599627370496 := by decide
  have e2 : Ieee.double.infRung = 9218868437227405312 := by decide
  have e3 : Ieee.double.signWeight = 9223372036854775808 := by decide
  rw [e2] at h ⊢
  have hn : (r / Ieee.double.signWeight % 2 == 1) = false := by
    rw [e3, Nat.div_eq_of_lt (by omega)]
    rfl
  have hm : r % Ieee.double.signWeight = r := by rw [e3]; exact Nat.mod_eq_of_lt (by omega)
  unfold Ieee.Format.read
  simp only [hn, hm, e1, e2]
  by_cases h1 : r < 4503599627370496
  · rw [if_pos h1]
    exact .inl ⟨_, _, rfl, fun h _ => h, fun h => h⟩
  · rw [if_neg h1]
    by_cases h2 : r < 9218868437227405312
    · rw [if_pos h2]
      exact .inl ⟨_, _, rfl, fun _ _ => by omega, fun h => by omega⟩
    · rw [if_neg h2, if_pos (by omega)]
      exact .inr ⟨by omega, rfl⟩
theorem cut_le (n drop : Nat) : Ieee.Toward.even.cut false n drop ≤ n + 1 := by
  unfold Ieee.Toward.cut
  simp only
  have h1 : n / (1 <<< min drop (n.log2 + 2)) ≤ n := Nat.div_le_self _ _
  have h2 : ∀ b : Bool, b.toNat ≤ 1 := by decide
  exact Nat.add_le_add h1 (h2 _)
theorem word_pos (f : Ieee.Format) (r : Nat) : f.word false r = r := by
  unfold Ieee.Format.word
  simp
theorem near_rung (b : Nat) (hb : 1 ≤ b) (h2 : b < 4503599627370496) : 0 < Ieee.double.nearest false b 0 ∧ Ieee.double.nearest false b 0 < Ieee.double.infRung := by
  have e1 : Ieee.double.binade = 4503599627370496 := by decide
  have e2 : Ieee.double.infRung = 9218868437227405312 := by decide
  have e4 : Ieee.double.leastPlace = -1074 := by decide
  have e5 : (Ieee.double.fractionBits : Int) = 52 := by decide
  have hl : b.log2 < 52 := (Nat.log2_lt (by omega)).2 h2
  have hs : b < 2 ^ (b.log2 + 1) := Nat.lt_log2_self
  unfold Ieee.Format.nearest
  rw [if_neg (by omega)]
  simp only [e1, e2, e4, e5]
  have hlast : max ((0 : Int) + (b.log2 : Int) - 52) (-1074) = (b.log2 : Int) - 52 := by omega
  rw [hlast]
  have hsh : ((0 : Int) - ((b.log2 : Int) - 52)).toNat = 52 - b.log2 := by omega
  have hE : ((b.log2 : Int) - 52 - -1074).toNat = b.log2 + 1022 := by omega
  rw [hsh, hE]
  have hk := cut_le (b <<< (52 - b.log2)) ((b.log2 : Int) - 52 - 0).toNat
  have hb3 : b <<< (52 - b.log2) < 9007199254740992 := by
    rw [Nat.shiftLeft_eq]
    have : b * 2 ^ (52 - b.log2) < 2 ^ (b.log2 + 1) * 2 ^ (52 - b.log2) := Nat.mul_lt_mul_of_pos_right hs (Nat.two_pow_pos _)
    rw [← Nat.pow_add, show b.log2 + 1 + (52 - b.log2) = 53 by omega] at this
    exact this
  generalize Ieee.Toward.even.cut false (b <<< (52 - b.log2)) ((b.log2 : Int) - 52 - 0).toNat = kept at hk ⊢
  rw [word_pos]
  have h3 : b.log2 + 1022 ≤ 1073 ∧ 1022 ≤ b.log2 + 1022 := by omega
  generalize b.log2 + 1022 = E at h3 ⊢
  generalize b <<< (52 - b.log2) = Z at hk hb3
  clear hlast hsh hE hs hl e1 e2 e4 e5
  omega
theorem near_int (a : Nat) (h : a < 4503599627370496) : ∃ m p, Ieee.double.read (FloatKind.f64.nearest (a : Int)) = .number false m p ∧ (0 < a → 0 < m) := by
  have hq : FloatKind.f64.nearest (a : Int) = Ieee.double.nearest false a 0 := by
    show Ieee.double.write (.number (decide ((a : Int) < 0)) (a : Int).natAbs 0) = _
    rw [show decide ((a : Int) < 0) = false by simp]
    rfl
  rw [hq]
  by_cases h0 : a = 0
  · subst h0
    rcases read_low 0 (by decide) with ⟨m, p, h1, _, _⟩ | ⟨h1, _⟩
    · exact ⟨m, p, by rw [show Ieee.double.nearest false 0 0 = 0 by decide]; exact h1, fun h => by omega⟩
    · exact absurd h1 (by decide)
  · have hr := near_rung a (by omega) h
    rcases read_low _ (Nat.le_of_lt hr.2) with ⟨m, p, h1, h2, _⟩ | ⟨h1, _⟩
    · exact ⟨m, p, h1, fun _ => h2 hr.1 hr.2⟩
    · omega
theorem write_low (neg : Bool) (m : Nat) (p : Int) (hn : neg = false) : Ieee.double.write (.number neg m p) ≤ Ieee.double.infRung := by
  subst hn
  show Ieee.double.nearest false m p ≤ _
  unfold Ieee.Format.nearest
  split
  · show (if false = true then Ieee.double.signWeight + 0 else 0) ≤ _
    rw [if_neg (by decide)]
    omega
  · simp only
    show (if false = true then Ieee.double.signWeight + _ else _) ≤ _
    rw [if_neg (by decide)]
    exact Nat.min_le_right _ _
/-- A quotient of two whole numbers, as a float's bits: it is no NaN. -/
theorem mean_ok (a b : Nat) (ha : a < 4503599627370496) (hb : 1 ≤ b) (hb2 : b < 4503599627370496) : ∃ r, floatBits .quo .f64 (FloatKind.f64.nearest (a : Int)) (FloatKind.f64.nearest (b : Int)) = some r ∧ (FloatKind.f64.format.order r r == some Ordering.eq) = true := by
  obtain ⟨m, p, hm, _⟩ := near_int a ha
  obtain ⟨n, q, hn, hn0⟩ := near_int b hb2
  have hn1 := hn0 (by omega)
  obtain ⟨k, t, hk⟩ : ∃ k t, Ieee.Datum.quotient (Ieee.double.fractionBits + 2) (.number false m p) (.number false n q) = some (.number false k t) := by
    unfold Ieee.Datum.quotient
    simp only
    rw [if_neg (by omega)]
    exact ⟨_, _, rfl⟩
  refine ⟨Ieee.double.write (.number false k t), ?_, ?_⟩
  · show Option.map Ieee.double.write (Ieee.Datum.quotient (Ieee.double.fractionBits + 2) (Ieee.double.read _) (Ieee.double.read _)) = _
    rw [hm, hn, hk]
    rfl
  · have hw := write_low false k t rfl
    show ((Ieee.double.read _).order (Ieee.double.read _) == some Ordering.eq) = true
    rcases read_low _ hw with ⟨x, y, h1, _⟩ | ⟨_, h1⟩
    · rw [h1]
      simp [Ieee.Datum.order]
    · rw [h1]
      rfl
end Go.Proofs.YtdnbjbdokppfnaaDoor
