import Derived.Test.YtdnbjbdokppfnaaDoorE2
import Derived.Lib.Bytes
namespace Go.Proofs.YtdnbjbdokppfnaaDoor
open Go.RowKit Go.Lib

/-- A number's byte. -/
def nb (x : Int) : UInt8 := UInt8.ofNat x.toNat
theorem nb_lt {x y : Int} (x0 : 0 ≤ x) (x1 : x < 256) (y0 : 0 ≤ y) (y1 : y < 256) : decide (nb x < nb y) = decide (x < y) := by
  have hx : (nb x).toNat = x.toNat := by unfold nb; simp; omega
  have hy : (nb y).toNat = y.toNat := by unfold nb; simp; omega
  rw [decide_eq_decide, UInt8.lt_iff_toNat_lt, hx, hy]; omega
theorem nb_eq {x y : Int} (x0 : 0 ≤ x) (x1 : x < 256) (y0 : 0 ≤ y) (y1 : y < 256) : (nb x == nb y) = decide (x = y) := by
  have hx : (nb x).toNat = x.toNat := by unfold nb; simp; omega
  have hy : (nb y).toNat = y.toNat := by unfold nb; simp; omega
  rw [Bool.eq_iff_iff, beq_iff_eq, decide_eq_true_eq, ← UInt8.toNat_inj, hx, hy]; omega
theorem lex_same (a : UInt8) (r r' : List UInt8) : Op.bytesLess (a :: r) (a :: r') = Op.bytesLess r r' := by
  simp [Op.bytesLess]
theorem lex_two {H H' : Int} (h0 : 0 ≤ H) (h1 : H ≤ 99) (h0' : 0 ≤ H') (h1' : H' ≤ 99) (r r' : List UInt8) : Op.bytesLess (nb (48 + H / 10) :: nb (48 + H % 10) :: r) (nb (48 + H' / 10) :: nb (48 + H' % 10) :: r') = (decide (H < H') || (decide (H = H') && Op.bytesLess r r')) := by
  simp only [Op.bytesLess]
  rw [nb_lt (by omega) (by omega) (by omega) (by omega), nb_lt (by omega) (by omega) (by omega) (by omega), nb_eq (by omega) (by omega) (by omega) (by omega), nb_eq (by omega) (by omega) (by omega) (by omega)]
  generalize Op.bytesLess r r' = B
  rcases Int.lt_trichotomy H H' with h | h | h
  · have e1 : decide (H < H') = true := by simpa using h
    rw [e1, Bool.true_or]
    by_cases h2 : H / 10 < H' / 10
    · have e2 : decide (48 + H / 10 < 48 + H' / 10) = true := by simp; omega
      rw [e2, Bool.true_or]
    · have e2 : decide (48 + H / 10 = 48 + H' / 10) = true := by simp; omega
      have e3 : decide (48 + H % 10 < 48 + H' % 10) = true := by simp; omega
      rw [e2, e3]; simp
  · subst h; simp
  · have e1 : decide (H < H') = false := by simp; omega
    have e2 : decide (H = H') = false := by simp; omega
    have e3 : decide (48 + H / 10 < 48 + H' / 10) = false := by simp; omega
    rw [e1, e2, e3, Bool.false_or, Bool.false_and, Bool.false_or]
    by_cases h2 : H / 10 = H' / 10
    · have e4 : decide (48 + H % 10 < 48 + H' % 10) = false := by simp; omega
      have e5 : decide (48 + H % 10 = 48 + H' % 10) = false := by simp; omega
      rw [e4, e5]; simp
    · have e4 : decide (48 + H / 10 = 48 + H' / 10) = false := by simp; omega
      rw [e4]; simp
theorem nm4_list (H m s f t : Int) : (nm4 H m s f t).toList = [nb (48 + H / 10), nb (48 + H % 10), nb 58, nb (48 + m / 10), nb (48 + m % 10), nb 58, nb (48 + s / 10), nb (48 + s % 10), nb t, nb (48 + f / 10), nb (48 + f % 10)] := by
  unfold nm4; rw [strOfNums_toList]; rfl
/-- Two names of numbers, one behind the other. -/
theorem nms_less (c M k M' k' t : Int) (hc : c = 24 ∨ c = 25 ∨ c = 30 ∨ c = 50 ∨ c = 60) (M0 : 0 ≤ M) (M1 : M < 1440) (k0 : 0 ≤ k) (k1 : k < 60 * c) (M0' : 0 ≤ M') (M1' : M' < 1440) (k0' : 0 ≤ k') (k1' : k' < 60 * c) :
    Op.bytesLess (nms c M k t).toList (nms c M' k' t).toList = decide (M < M' ∨ M = M' ∧ k < k') := by
  obtain ⟨_, _, _, _, y1, y2, y3, y4, y5, y6, y7, y8⟩ := clk_at c (60 * c * M + k) M k hc M0 M1 k0 k1 rfl
  obtain ⟨_, _, _, _, z1, z2, z3, z4, z5, z6, z7, z8⟩ := clk_at c (60 * c * M' + k') M' k' hc M0' M1' k0' k1' rfl
  have c1 : c ≤ 60 := by omega
  have e1 := Int.emod_add_mul_ediv k c
  have e2 := Int.emod_add_mul_ediv k' c
  rw [nms_nm4, nms_nm4, nm4_list, nm4_list, lex_two y1 (by omega) z1 (by omega), lex_same, lex_two y3 (by omega) z3 (by omega), lex_same, lex_two y5 (by omega) z5 (by omega), lex_same, lex_two y7 (by omega) z7 (by omega)]
  simp only [Op.bytesLess, Bool.and_false, Bool.or_false]
  rw [Bool.eq_iff_iff]
  simp only [Bool.or_eq_true, Bool.and_eq_true, decide_eq_true_eq]
  generalize k / c = S at *
  generalize k' / c = S' at *
  generalize k % c = F at *
  generalize k' % c = F' at *
  have key : k < k' ↔ (S < S' ∨ S = S' ∧ F < F') := by
    rcases hc with rfl | rfl | rfl | rfl | rfl <;> omega
  rw [key]
  constructor
  · rintro (h | ⟨h, h' | ⟨h', h''⟩⟩)
    · left; omega
    · left; omega
    · exact .inr ⟨by omega, h''⟩
  · rintro (h | ⟨h, h''⟩)
    · by_cases h2 : M / 60 < M' / 60
      · exact .inl h2
      · exact .inr ⟨by omega, .inl (by omega)⟩
    · subst h; exact .inr ⟨rfl, .inr ⟨rfl, h''⟩⟩
/-- The numbers rise with the places. -/
theorem rise_at (c l M k M' k' : Int) (h : (c = 24 ∨ c = 25 ∨ c = 30 ∨ c = 50 ∨ c = 60) ∧ l = 0 ∨ c = 30 ∧ l = 2 ∨ c = 60 ∧ l = 4) (k0 : 0 ≤ k) (k1 : k < 60 * c) (k0' : 0 ≤ k') (hl' : M' % 10 ≠ 0 → l ≤ k') (hlt : M < M' ∨ M = M' ∧ k < k') :
    60 * c * M + k - (M - M / 10) * l < 60 * c * M' + k' - (M' - M' / 10) * l := by
  rcases h with ⟨rfl | rfl | rfl | rfl | rfl, rfl⟩ | ⟨rfl, rfl⟩ | ⟨rfl, rfl⟩
  all_goals (simp only [Int.mul_zero, Int.sub_zero, Int.reduceMul] at k1 ⊢; omega)
theorem less_irrefl (l : List UInt8) : Op.bytesLess l l = false := by
  induction l with
  | nil => rfl
  | cons a r ih => simp [Op.bytesLess, ih]
/-- Names rise as numbers do, and are apart. -/
theorem names_rise {r m n M k M' k' : Int} (h : Rt r) (M0 : 0 ≤ M) (M1 : M < 1440) (k0 : 0 ≤ k) (k1 : k < 60 * rc r) (hl : M % 10 ≠ 0 → rl r ≤ k) (M0' : 0 ≤ M') (M1' : M' < 1440) (k0' : 0 ≤ k') (k1' : k' < 60 * rc r) (hl' : M' % 10 ≠ 0 → rl r ≤ k')
    (em : m = 60 * rc r * M + k - (M - M / 10) * rl r) (en : n = 60 * rc r * M' + k' - (M' - M' / 10) * rl r) :
    Op.bytesLess (nms (rc r) M k (lm (rl r))).toList (nms (rc r) M' k' (lm (rl r))).toList = decide (m < n) ∧ ((nms (rc r) M k (lm (rl r))).toList == (nms (rc r) M' k' (lm (rl r))).toList) = decide (m = n) := by
  have a1 := rise_at (rc r) (rl r) M k M' k' h.cl k0 k1 k0' hl'
  have a2 := rise_at (rc r) (rl r) M' k' M k h.cl k0' k1' k0 hl
  have b1 := nms_less (rc r) M k M' k' (lm (rl r)) h.c5 M0 M1 k0 k1 M0' M1' k0' k1'
  have b2 := nms_less (rc r) M' k' M k (lm (rl r)) h.c5 M0' M1' k0' k1' M0 M1 k0 k1
  rw [← em, ← en] at a1
  rw [← em, ← en] at a2
  by_cases c1 : M < M' ∨ M = M' ∧ k < k'
  · have := a1 c1
    have e1 : decide (m < n) = true := by simpa using this
    have e2 : decide (m = n) = false := by simp; omega
    rw [decide_eq_true c1] at b1
    rw [b1, e1, e2]
    refine ⟨rfl, ?_⟩
    rw [beq_eq_false_iff_ne]
    intro e
    rw [e, less_irrefl] at b1
    cases b1
  · by_cases c2 : M' < M ∨ M' = M ∧ k' < k
    · have := a2 c2
      have e1 : decide (m < n) = false := by simp; omega
      have e2 : decide (m = n) = false := by simp; omega
      rw [decide_eq_false c1] at b1
      rw [decide_eq_true c2] at b2
      rw [b1, e1, e2]
      refine ⟨rfl, ?_⟩
      rw [beq_eq_false_iff_ne]
      intro e
      rw [e, less_irrefl] at b2
      cases b2
    · obtain rfl : M = M' := by omega
      obtain rfl : k = k' := by omega
      rw [em, en, less_irrefl]
      simp
end Go.Proofs.YtdnbjbdokppfnaaDoor
