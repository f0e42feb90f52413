import Derived.Test.YtkjhegedkamjaaaAw
import Derived.Test.YtkjhegedkamjaaaF1
namespace Go.Proofs.Ytkjhegedkamjaaa
open Go.RowKit

/-- A list of Booleans that lies in its own block. -/
def Bs (w : World) (ib n : Nat) (F : Nat → Bool) : Prop := w.heap[ib]? = some (.cells ((List.range n).map (fun k => Value.bool (F k))).toArray 4 (0, 0))
theorem Bs.keep {w w' : World} {ib n : Nat} {F : Nat → Bool} {ks : List Nat} (h : Bs w ib n F) (hk : Kept ks w w') (hn : ib ∉ ks) : Bs w' ib n F := hk.heap h hn
theorem Bs.at {w : World} {ib n : Nat} {F : Nat → Bool} (h : Bs w ib n F) {k : Nat} (hk : k < n) : w.cell? ⟨ib, k, none⟩ = some (.bool (F k)) ∧ w.frozen? ⟨ib, k, none⟩ = false := by
  constructor
  · rw [cell_of_row _ _ _ _ _ _ h]; simp [hk]
  · unfold World.frozen?
    rw [h]
    simp
theorem Bs.set {w : World} {ib n : Nat} {F : Nat → Bool} (h : Bs w ib n F) (k : Nat) (b : Bool) : Bs (w.setCell ⟨ib, k, none⟩ (.bool b)) ib n (fun j => if j = k then b else F j) ∧ Kept [ib] w (w.setCell ⟨ib, k, none⟩ (.bool b)) := by
  refine ⟨?_, (Kept.refl [ib] w).setCell (.inl (by simp)) _⟩
  have h9 := heap_setCell_at (i := k) (u := .bool b) h
  unfold Bs
  rw [h9]
  congr 2
  apply Array.ext
  · simp
  · intro i h1 h2
    simp at h1 h2 ⊢
    by_cases e : i = k
    · subst e; simp
    · simp [e, Ne.symm e]
theorem Try.info61 : (Try.prog.info? 4).map (fun i => (i.zero, i.size, i.bytes)) = some (some (.bool false), 1, 1) := by kernel_rfl
/-- Making a list of Booleans, as an equation. -/
theorem make_bools (r : Nat) (hr : r ≤ 1000000) : ∃ mkW : World → World, (∀ w, Sem.run Try.prog (Instr.makeSlice 61 (.int .i64 (r : Int)) (.int .i64 (r : Int))) w = .ok (.slice (some ⟨w.heap.size, 0, none⟩) r r) (mkW w)) ∧ ∀ w, Bs (mkW w) w.heap.size r (fun _ => false) ∧ Kept [] w (mkW w) := by
  obtain ⟨j0, gi, gz0, gz1, gz2⟩ := info_parts Try.info61
  have h : ∀ w : World, ∃ w', Sem.run Try.prog (Instr.makeSlice 61 (.int .i64 (r : Int)) (.int .i64 (r : Int))) w = .ok (.slice (some ⟨w.heap.size, 0, none⟩) r r) w' ∧ Bs w' w.heap.size r (fun _ => false) ∧ Kept [] w w' := fun w => by
    obtain ⟨w', hrun, r1, r2⟩ := run_make_full (P := Try.prog) w 0 61 4 j0 (.bool false) 1 Try.underlying61 gi gz0 gz1 .i64 .i64 r (by rw [gz2]; omega) (by unfold maxLen; omega) (by omega)
    have hr3 := row_heap r1 rfl
    rw [show (madeCells (Value.bool false).cells (r * 1)).toList = List.replicate r (.bool false) by rw [Nat.mul_one]; exact toList_madeCells_one _ _] at hr3
    refine ⟨w', hrun, ?_, (Kept.of_grown r2).mono (by simp)⟩
    unfold Bs
    rw [hr3]
    congr 3
    apply List.ext_getElem
    · simp
    · intro i h1 h2; simp
  obtain ⟨mkW, hm⟩ := Classical.axiomOfChoice h
  exact ⟨mkW, fun w => (hm w).1, fun w => (hm w).2⟩

/-- The slices that are marked so far. -/
def Pm (c sw sh X Y rw : Int) (y x : Int) (k : Int) : Prop := ∃ x' y', X ≤ x' ∧ x' < X + rw ∧ Y ≤ y' ∧ (y' < y ∨ (y' = y ∧ x' < x)) ∧ sA c sw sh x' y' = k
theorem pm_start (c sw sh X Y rw k : Int) : ¬ Pm c sw sh X Y rw Y X k := by
  rintro ⟨x', y', h1, h2, h3, h4, _⟩; omega
theorem pm_step {c sw sh X Y rw y x k : Int} (hx : X ≤ x) (hx2 : x < X + rw) (hy : Y ≤ y) : Pm c sw sh X Y rw y (x + 1) k ↔ (k = sA c sw sh x y ∨ Pm c sw sh X Y rw y x k) := by
  constructor
  · rintro ⟨x', y', h1, h2, h3, h4, h5⟩
    by_cases e : y' = y ∧ x' = x
    · obtain ⟨rfl, rfl⟩ := e; exact .inl h5.symm
    · exact .inr ⟨x', y', h1, h2, h3, by omega, h5⟩
  · rintro (h | ⟨x', y', h1, h2, h3, h4, h5⟩)
    · exact ⟨x, y, hx, hx2, hy, by omega, h.symm⟩
    · exact ⟨x', y', h1, h2, h3, by omega, h5⟩
theorem pm_row {c sw sh X Y rw y k : Int} : Pm c sw sh X Y rw y (X + rw) k ↔ Pm c sw sh X Y rw (y + 1) X k := by
  constructor
  · rintro ⟨x', y', h1, h2, h3, h4, h5⟩; exact ⟨x', y', h1, h2, h3, by omega, h5⟩
  · rintro ⟨x', y', h1, h2, h3, h4, h5⟩; exact ⟨x', y', h1, h2, h3, by omega, h5⟩
/-- Marked in the end: just what is told. -/
theorem pm_end {W H sw sh c r X Y rw rh : Int} (g : Gd W H sw sh c r) (x0 : 0 ≤ X) (y0 : 0 ≤ Y) (w0 : 1 ≤ rw) (h0 : 1 ≤ rh) (x1 : X + rw ≤ W) (y1 : Y + rh ≤ H) {nr wd1 : Nat} (hn : (nr : Int) = (Y + rh - 1) / sh - Y / sh + 1) (hw : (wd1 : Int) = (X + rw - 1) / sw - X / sw + 1) (k : Int) :
    Pm c sw sh X Y rw (Y + rh) X k ↔ ∃ t, t < nr * wd1 ∧ tv (sA c sw sh X Y) c wd1 t = k := by
  have s0 := g.s0
  have t0 := g.t0
  constructor
  · rintro ⟨x', y', h1, h2, h3, h4, h5⟩
    have a1 : X / sw ≤ x' / sw := Int.ediv_le_ediv (by omega) h1
    have a2 : x' / sw ≤ (X + rw - 1) / sw := Int.ediv_le_ediv (by omega) (by omega)
    have b1 : Y / sh ≤ y' / sh := Int.ediv_le_ediv (by omega) h3
    have b2 : y' / sh ≤ (Y + rh - 1) / sh := Int.ediv_le_ediv (by omega) (by omega)
    obtain ⟨j, hj⟩ : ∃ j : Nat, (j : Int) = x' / sw - X / sw := ⟨(x' / sw - X / sw).toNat, by omega⟩
    obtain ⟨i, hi⟩ : ∃ i : Nat, (i : Int) = y' / sh - Y / sh := ⟨(y' / sh - Y / sh).toNat, by omega⟩
    have hj2 : j < wd1 := by omega
    have hi2 : i < nr := by omega
    refine ⟨i * wd1 + j, ?_, ?_⟩
    · have : (i + 1) * wd1 ≤ nr * wd1 := Nat.mul_le_mul_right _ (by omega)
      rw [Nat.add_mul] at this
      omega
    · unfold tv
      rw [show (i * wd1 + j) / wd1 = i by rw [Nat.add_comm, Nat.add_mul_div_right _ _ (by omega), Nat.div_eq_of_lt hj2]; omega, show (i * wd1 + j) % wd1 = j by rw [Nat.add_comm, Nat.add_mul_mod_self_right, Nat.mod_eq_of_lt hj2], hi, hj, ← h5]
      unfold sA
      rw [Int.sub_mul]
      omega
  · rintro ⟨t, ht, rfl⟩
    have hwp : 0 < wd1 := by rcases Nat.eq_zero_or_pos wd1 with h | h; rw [h] at ht; omega; exact h
    have hi : t / wd1 < nr := Nat.div_lt_of_lt_mul (by rw [Nat.mul_comm]; exact ht)
    have hj : t % wd1 < wd1 := Nat.mod_lt _ hwp
    obtain ⟨i, ei⟩ : ∃ i : Nat, i = t / wd1 := ⟨_, rfl⟩
    obtain ⟨j, ej⟩ : ∃ j : Nat, j = t % wd1 := ⟨_, rfl⟩
    unfold tv
    rw [← ei] at hi ⊢
    rw [← ej] at hj ⊢
    clear ei ej
    have ax := at_x g (x := X) x0 (by omega)
    have ay := at_y g (y := Y) y0 (by omega)
    have ex : max X ((X / sw + j) * sw) / sw = X / sw + j := by
      have d1 := Int.ediv_mul_le X (b := sw) (by omega)
      have d2 := Int.lt_ediv_add_one_mul_self X (b := sw) (by omega)
      rw [Int.add_mul] at d2
      have e1 : (X / sw + j) * sw = X / sw * sw + j * sw := by rw [Int.add_mul]
      have e2 : 0 ≤ (j : Int) * sw := Int.mul_nonneg (by omega) (by omega)
      rcases Nat.eq_zero_or_pos j with h | h
      · subst h; simp only [Int.natCast_zero, Int.zero_mul, Int.add_zero] at *; rw [Int.max_eq_left (by omega)]
      · have e3 : sw ≤ (j : Int) * sw := by have := Int.mul_le_mul_of_nonneg_right (show (1 : Int) ≤ j by omega) (show 0 ≤ sw by omega); omega
        rw [Int.max_eq_right (by omega), Int.mul_ediv_cancel _ (by omega)]
    have ey : max Y ((Y / sh + i) * sh) / sh = Y / sh + i := by
      have d1 := Int.ediv_mul_le Y (b := sh) (by omega)
      have d2 := Int.lt_ediv_add_one_mul_self Y (b := sh) (by omega)
      rw [Int.add_mul] at d2
      have e1 : (Y / sh + i) * sh = Y / sh * sh + i * sh := by rw [Int.add_mul]
      have e2 : 0 ≤ (i : Int) * sh := Int.mul_nonneg (by omega) (by omega)
      rcases Nat.eq_zero_or_pos i with h | h
      · subst h; simp only [Int.natCast_zero, Int.zero_mul, Int.add_zero] at *; rw [Int.max_eq_left (by omega)]
      · have e3 : sh ≤ (i : Int) * sh := by have := Int.mul_le_mul_of_nonneg_right (show (1 : Int) ≤ i by omega) (show 0 ≤ sh by omega); omega
        rw [Int.max_eq_right (by omega), Int.mul_ediv_cancel _ (by omega)]
    have lx : (X / sw + j) * sw ≤ X + rw - 1 := by
      have d1 := Int.ediv_mul_le (X + rw - 1) (b := sw) (by omega)
      have d2 := Int.mul_le_mul_of_nonneg_right (show X / sw + j ≤ (X + rw - 1) / sw by omega) (show 0 ≤ sw by omega)
      omega
    have ly : (Y / sh + i) * sh ≤ Y + rh - 1 := by
      have d1 := Int.ediv_mul_le (Y + rh - 1) (b := sh) (by omega)
      have d2 := Int.mul_le_mul_of_nonneg_right (show Y / sh + i ≤ (Y + rh - 1) / sh by omega) (show 0 ≤ sh by omega)
      omega
    refine ⟨max X ((X / sw + j) * sw), max Y ((Y / sh + i) * sh), by omega, by omega, by omega, .inl (by omega), ?_⟩
    unfold sA
    rw [ex, ey, Int.add_mul]
    omega
theorem tv_lt {f c : Int} {wd1 : Nat} (hw : 1 ≤ wd1) (hc : (wd1 : Int) ≤ c) {s t : Nat} (h : s < t) : tv f c wd1 s < tv f c wd1 t := by
  unfold tv
  have hs := Nat.div_add_mod s wd1
  have ht := Nat.div_add_mod t wd1
  have ms := Nat.mod_lt s (show 0 < wd1 by omega)
  have mt := Nat.mod_lt t (show 0 < wd1 by omega)
  have hd : s / wd1 ≤ t / wd1 := Nat.div_le_div_right (by omega)
  rcases Nat.lt_or_ge (s / wd1) (t / wd1) with h1 | h1
  · have e := Int.mul_le_mul_of_nonneg_right (show ((s / wd1 : Nat) : Int) + 1 ≤ ((t / wd1 : Nat) : Int) by omega) (show 0 ≤ c by omega)
    rw [Int.add_mul] at e
    omega
  · have e : s / wd1 = t / wd1 := by omega
    rw [e] at hs ⊢
    omega
/-- What lies in memory behind the beginning of the law. -/
structure En (V : World) (m z gb B R nb sb P b1 b2 b3 b4 ib n : Nat) (X Y rw rh W H D sw sh c r f l wd : Int) (A : Bool) : Prop where
  hz : V.heap[z]? = some (.cells #[.bool false] 4 (0, 0))
  hgb : V.heap[gb]? = some (.cells #[.pointer (some ⟨P, 0, none⟩)] 45 (0, 0))
  hB : V.heap[B]? = some (.cells #[.int .i64 W, .int .i64 H, .int .i64 D, .bool A] 32 (0, 0))
  hR : V.heap[R]? = some (.cells #[.int .i64 X, .int .i64 Y, .int .i64 rw, .int .i64 rh] 34 (0, 0))
  hnb : V.heap[nb]? = some (.cells #[.int .i64 (n : Int)] 3 (0, 0))
  hsb : V.heap[sb]? = some (.cells #[.slice (some ⟨ib, 0, none⟩) n n] 61 (0, 0))
  gr : Gr V P W H D A sw sh c r
  c1 : V.cell? ⟨b1, 0, none⟩ = some (.int .i64 f)
  c2 : V.cell? ⟨b2, 0, none⟩ = some (.int .i64 l)
  c3 : V.cell? ⟨b3, 0, none⟩ = some (.pointer (some ⟨P, 0, none⟩))
  c4 : V.cell? ⟨b4, 0, none⟩ = some (.int .i64 wd)
  lt : ∀ x ∈ [z, gb, B, R, nb, sb, P, b1, b2, b3, b4], x < m ∧ x ≠ ib
theorem En.keep {V V' : World} {m z gb B R nb sb P b1 b2 b3 b4 ib n : Nat} {X Y rw rh W H D sw sh c r f l wd : Int} {A : Bool} (h : En V m z gb B R nb sb P b1 b2 b3 b4 ib n X Y rw rh W H D sw sh c r f l wd A) {ks : List Nat} (hk : Kept ks V V') (hn : ∀ x ∈ ks, x = ib ∨ m ≤ x) : En V' m z gb B R nb sb P b1 b2 b3 b4 ib n X Y rw rh W H D sw sh c r f l wd A := by
  have no : ∀ x ∈ [z, gb, B, R, nb, sb, P, b1, b2, b3, b4], x ∉ ks := fun x hx hm => by
    have h1 := h.lt x hx
    have h2 := hn x hm
    omega
  exact ⟨hk.heap h.hz (no _ (by simp)), hk.heap h.hgb (no _ (by simp)), hk.heap h.hB (no _ (by simp)), hk.heap h.hR (no _ (by simp)), hk.heap h.hnb (no _ (by simp)), hk.heap h.hsb (no _ (by simp)), h.gr.keep hk (no _ (by simp)), cell_keep hk h.c1 (no _ (by simp)), cell_keep hk h.c2 (no _ (by simp)), cell_keep hk h.c3 (no _ (by simp)), cell_keep hk h.c4 (no _ (by simp)), h.lt⟩
end Go.Proofs.Ytkjhegedkamjaaa
