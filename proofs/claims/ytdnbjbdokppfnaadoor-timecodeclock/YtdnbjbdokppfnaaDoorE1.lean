import Derived.Test.YtdnbjbdokppfnaaDoorD4
import Derived.Test.YtdnbjbdokppfnaaDoorB5
namespace Go.Proofs.YtdnbjbdokppfnaaDoor
open Go.RowKit Go.Lib

/-- A name of four numbers. -/
def nm4 (H m s f t : Int) : ByteArray := strOfNums [48 + H / 10, 48 + H % 10, 58, 48 + m / 10, 48 + m % 10, 58, 48 + s / 10, 48 + s % 10, t, 48 + f / 10, 48 + f % 10]
theorem bt_nums (xs : List Int) (i : Nat) (x : Int) (hx : xs[i]? = some x) (h0 : 0 ≤ x) (h1 : x < 256) : bt (strOfNums xs) i = x := by
  have hi : i < xs.length := (List.getElem?_eq_some_iff.1 hx).1
  have hi2 : i < (strOfNums xs).size := by rw [strOfNums_size]; exact hi
  unfold bt
  rw [dif_pos hi2]
  have e : (strOfNums xs)[i] = UInt8.ofNat x.toNat := by
    show (strOfNums xs).data[i] = _
    have hx2 : xs[i] = x := (List.getElem?_eq_some_iff.1 hx).2
    simp [strOfNums, hx2]
  rw [e]
  simp
  omega
theorem lm_bd (l : Int) : 58 ≤ lm l ∧ lm l ≤ 59 := by unfold lm; split <;> omega
theorem nm4_bt {H m s f l : Int} (h0 : 0 ≤ H) (h1 : H ≤ 99) (m0 : 0 ≤ m) (m1 : m ≤ 99) (s0 : 0 ≤ s) (s1 : s ≤ 99) (f0 : 0 ≤ f) (f1 : f ≤ 99) : bt (nm4 H m s f (lm l)) 0 = 48 + H / 10 ∧ bt (nm4 H m s f (lm l)) 1 = 48 + H % 10 ∧ bt (nm4 H m s f (lm l)) 2 = 58 ∧ bt (nm4 H m s f (lm l)) 3 = 48 + m / 10 ∧ bt (nm4 H m s f (lm l)) 4 = 48 + m % 10 ∧ bt (nm4 H m s f (lm l)) 5 = 58 ∧ bt (nm4 H m s f (lm l)) 6 = 48 + s / 10 ∧ bt (nm4 H m s f (lm l)) 7 = 48 + s % 10 ∧ bt (nm4 H m s f (lm l)) 8 = lm l ∧ bt (nm4 H m s f (lm l)) 9 = 48 + f / 10 ∧ bt (nm4 H m s f (lm l)) 10 = 48 + f % 10 := by
  have ⟨l0, l1⟩ := lm_bd l
  unfold nm4
  exact ⟨bt_nums _ 0 _ rfl (by omega) (by omega), bt_nums _ 1 _ rfl (by omega) (by omega), bt_nums _ 2 _ rfl (by omega) (by omega), bt_nums _ 3 _ rfl (by omega) (by omega), bt_nums _ 4 _ rfl (by omega) (by omega), bt_nums _ 5 _ rfl (by omega) (by omega), bt_nums _ 6 _ rfl (by omega) (by omega), bt_nums _ 7 _ rfl (by omega) (by omega), bt_nums _ 8 _ rfl (by omega) (by omega), bt_nums _ 9 _ rfl (by omega) (by omega), bt_nums _ 10 _ rfl (by omega) (by omega)⟩
theorem nm4_size (H m s f t : Int) : (nm4 H m s f t).size = 11 := by unfold nm4; rw [strOfNums_size]; rfl
theorem nm4_gd {H m s f l : Int} (h0 : 0 ≤ H) (h1 : H ≤ 99) (m0 : 0 ≤ m) (m1 : m ≤ 99) (s0 : 0 ≤ s) (s1 : s ≤ 99) (f0 : 0 ≤ f) (f1 : f ≤ 99) : Gd l (nm4 H m s f (lm l)) := by
  obtain ⟨b0, b1, b2, b3, b4, b5, b6, b7, b8, b9, b10⟩ := nm4_bt (l := l) h0 h1 m0 m1 s0 s1 f0 f1
  refine ⟨nm4_size _ _ _ _ _, fun i hi => ⟨hi, by rw [nm4_size]; exact hi, ?_⟩⟩
  have h11 : i = 0 ∨ i = 1 ∨ i = 2 ∨ i = 3 ∨ i = 4 ∨ i = 5 ∨ i = 6 ∨ i = 7 ∨ i = 8 ∨ i = 9 ∨ i = 10 := by omega
  rcases h11 with rfl | rfl | rfl | rfl | rfl | rfl | rfl | rfl | rfl | rfl | rfl
  · rw [b0]; unfold okc; simp; omega
  · rw [b1]; unfold okc; simp; omega
  · rw [b2]; unfold okc; simp
  · rw [b3]; unfold okc; simp; omega
  · rw [b4]; unfold okc; simp; omega
  · rw [b5]; unfold okc; simp
  · rw [b6]; unfold okc; simp; omega
  · rw [b7]; unfold okc; simp; omega
  · rw [b8]; unfold okc; simp
  · rw [b9]; unfold okc; simp; omega
  · rw [b10]; unfold okc; simp; omega
theorem nm4_fv {H m s f l : Int} (h0 : 0 ≤ H) (h1 : H ≤ 99) (m0 : 0 ≤ m) (m1 : m ≤ 99) (s0 : 0 ≤ s) (s1 : s ≤ 99) (f0 : 0 ≤ f) (f1 : f ≤ 99) : fv (nm4 H m s f (lm l)) 11 0 = H ∧ fv (nm4 H m s f (lm l)) 11 1 = m ∧ fv (nm4 H m s f (lm l)) 11 2 = s ∧ fv (nm4 H m s f (lm l)) 11 3 = f := by
  obtain ⟨b0, b1, b2, b3, b4, b5, b6, b7, b8, b9, b10⟩ := nm4_bt (l := l) h0 h1 m0 m1 s0 s1 f0 f1
  unfold fv
  simp only [Nat.reduceMul, Nat.reduceAdd, b0, b1, b3, b4, b6, b7, b9, b10]
  simp only [Nat.reduceLeDiff, Nat.reduceEqDiff, if_false]
  omega
theorem gd_bd {l : Int} {s : ByteArray} {k : Nat} (g : Gd l s) (h : Bd l s k) : False := by
  obtain ⟨g1, g2⟩ := g
  obtain ⟨h1, h2, h3⟩ := h
  by_cases a : k < 11
  · exact h2 (g2 k a)
  · by_cases b : k = 11
    · exact h3 ⟨b, g1⟩
    · have := (h1 11 (by omega)).1; omega
theorem bd_bd {l : Int} {s : ByteArray} {k k' : Nat} (h : Bd l s k) (h' : Bd l s k') : k = k' := by
  rcases Nat.lt_trichotomy k k' with a | a | a
  · exact absurd (h'.1 k a) h.2.1
  · exact a
  · exact absurd (h.1 k' a) h'.2.1
theorem nms_nm4 (c M k t : Int) : nms c M k t = nm4 (M / 60) (M % 60) (k / c) (k % c) t := rfl
/-- The number of a name that is given. -/
theorem NR_name {r M k x A E : Int} (h : Rt r) (M0 : 0 ≤ M) (M1 : M < 1440) (k0 : 0 ≤ k) (k1 : k < 60 * rc r) (hl : M % 10 ≠ 0 → rl r ≤ k) (hn : NR r (nms (rc r) M k (lm (rl r))) x A E) : x = 60 * rc r * M + k - (M - M / 10) * rl r ∧ A = 0 ∧ E = 0 := by
  obtain ⟨x1, x2, x3, x4, y1, y2, y3, y4, y5, y6, y7, y8⟩ := clk_at (rc r) (60 * rc r * M + k) M k h.c5 M0 M1 k0 k1 rfl
  have hb := h.pb
  have c1 := hb.c1
  have g := nm4_gd (l := rl r) y1 (show M / 60 ≤ 99 by omega) y3 (show M % 60 ≤ 99 by omega) y5 (show k / rc r ≤ 99 by omega) y7 (show k % rc r ≤ 99 by omega)
  obtain ⟨v0, v1, v2, v3⟩ := nm4_fv (l := rl r) y1 (show M / 60 ≤ 99 by omega) y3 (show M % 60 ≤ 99 by omega) y5 (show k / rc r ≤ 99 by omega) y7 (show k % rc r ≤ 99 by omega)
  have ck : ckE (rc r) (M / 60) (M % 60) (k / rc r) (k % rc r) (rl r) = 0 := by
    unfold ckE
    rw [if_neg (by omega), if_neg (by omega), if_neg (by omega), if_neg (by omega), if_neg]
    rintro ⟨e1, e2, e3⟩
    have := hl (by omega)
    have e4 := Int.emod_add_mul_ediv k (rc r)
    rw [e2] at e4
    omega
  have nb : nmb (rc r) (rl r) (M / 60) (M % 60) (k / rc r) (k % rc r) = 60 * rc r * M + k - (M - M / 10) * rl r := by
    unfold nmb
    have e1 : 60 * (M / 60) + M % 60 = M := by omega
    have e4 := Int.emod_add_mul_ediv k (rc r)
    rw [e1, Int.mul_add, ← Int.mul_assoc, Int.mul_comm (rc r) 60]
    omega
  rw [nms_nm4] at hn
  unfold NR at hn
  rw [v0, v1, v2, v3, ck, nb] at hn
  rcases hn with ⟨a, _⟩ | ⟨_, q, hq, _⟩ | ⟨_, _, a, _⟩ | ⟨_, _, _, a⟩
  · obtain ⟨b1, b2⟩ := h; omega
  · exact (gd_bd g hq).elim
  · exact (a rfl).elim
  · exact a
end Go.Proofs.YtdnbjbdokppfnaaDoor
