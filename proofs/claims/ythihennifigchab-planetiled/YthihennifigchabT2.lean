import Derived.Test.YthihennifigchabT1
import Derived.Test.YthihennifigchabB5
namespace Go.Proofs.Ythihennifigchab
open Go.RowKit

/-- A row of numbers in a block of its own. -/
def RowI (w : World) (b n : Nat) (f : Nat → Int) : Prop := w.heap[b]? = some (.cells (fl (fun t => .int .i64 (f t)) n).toArray 3 (0, 0))
theorem RowI.keep {w w' : World} {b n : Nat} {f : Nat → Int} {ks : List Nat} (h : RowI w b n f) (hk : Kept ks w w') (hn : b ∉ ks) : RowI w' b n f := hk.heap h hn
theorem RowI.at {w : World} {b n : Nat} {f : Nat → Int} (h : RowI w b n f) {j : Nat} (hj : j < n) : w.cell? ⟨b, j, none⟩ = some (.int .i64 (f j)) := by
  rw [cell_of_row _ _ _ _ _ _ h, List.getElem?_toArray, fl_at _ _ _ hj]
theorem RowI.fz {w : World} {b n : Nat} {f : Nat → Int} (h : RowI w b n f) (j : Nat) : w.frozen? ⟨b, j, none⟩ = false := by
  unfold RowI at h
  simp [World.frozen?, h]
theorem RowI.congr {w : World} {b n : Nat} {f f' : Nat → Int} (h : RowI w b n f) (hf : ∀ j, j < n → f j = f' j) : RowI w b n f' := by
  unfold RowI at h ⊢
  rw [h, fl_congr (g := fun t => .int .i64 (f' t)) (fun j hj => by rw [hf j hj])]
theorem RowI.set {w : World} {b n i : Nat} {f : Nat → Int} {v : Int} (h : RowI w b n f) : RowI (w.setCell ⟨b, i, none⟩ (.int .i64 v)) b n (fun t => if t = i then v else f t) := by
  unfold RowI at h ⊢
  rw [heap_setCell_at h, List.setIfInBounds_toArray]
  congr 3
  apply List.ext_getElem?
  intro j
  by_cases hj : j < n
  · rw [List.getElem?_set, fl_at _ _ _ hj, fl_at _ _ _ hj, fl_length]
    by_cases e : i = j
    · subst e; simp [hj]
    · rw [if_neg e]
      show some (Value.int .i64 (f j)) = some (Value.int .i64 (if j = i then v else f j))
      rw [if_neg (Ne.symm e)]
  · rw [List.getElem?_eq_none (by simp [fl_length]; omega), List.getElem?_eq_none (by rw [fl_length]; omega)]

/-- Whether a sample is among the first j of a rectangle. -/
def ct (wN X Y rw j t : Nat) : Int := if (Y ≤ t / wN ∧ X ≤ t % wN ∧ t % wN < X + rw) ∧ (t / wN - Y) * rw + (t % wN - X) < j then 1 else 0
theorem ct_zero (wN X Y rw t : Nat) : ct wN X Y rw 0 t = 0 := if_neg (by omega)
theorem ct_step (wN X Y rw j t o : Nat) (hX : X + rw ≤ wN) (hr : 1 ≤ rw) (ho : o = (Y + j / rw) * wN + X + j % rw) : ct wN X Y rw (j + 1) t = if t = o then ct wN X Y rw j t + 1 else ct wN X Y rw j t := by
  have hm := Nat.mod_lt j (show 0 < rw by omega)
  have hdm := Nat.div_add_mod j rw
  have hml := Nat.mod_lt t (show 0 < wN by omega)
  have hdt := Nat.div_add_mod t wN
  by_cases e : t = o
  · rw [if_pos e]
    have e1 : t / wN = Y + j / rw := by
      rw [e, ho, Nat.add_assoc, Nat.mul_comm, Nat.mul_add_div (by omega), Nat.div_eq_of_lt (show X + j % rw < wN by omega), Nat.add_zero]
    have e2 : t % wN = X + j % rw := by
      rw [e, ho, Nat.add_assoc, Nat.mul_comm, Nat.mul_add_mod, Nat.mod_eq_of_lt (show X + j % rw < wN by omega)]
    unfold ct
    rw [e1, e2, Nat.add_sub_cancel_left, Nat.add_sub_cancel_left]
    rw [Nat.mul_comm] at hdm
    rw [hdm, if_pos ⟨⟨Nat.le_add_right _ _, Nat.le_add_right _ _, Nat.add_lt_add_left hm X⟩, Nat.lt_succ_self _⟩, if_neg (fun h => Nat.lt_irrefl _ h.2)]
    rfl
  · rw [if_neg e]
    unfold ct
    by_cases h : Y ≤ t / wN ∧ X ≤ t % wN ∧ t % wN < X + rw
    · have hne : (t / wN - Y) * rw + (t % wN - X) ≠ j := by
        intro hj
        apply e
        have d1 : j / rw = t / wN - Y := by
          rw [← hj, Nat.mul_comm, Nat.mul_add_div (by omega), Nat.div_eq_of_lt (show t % wN - X < rw by omega), Nat.add_zero]
        have d2 : j % rw = t % wN - X := by
          rw [← hj, Nat.mul_comm, Nat.mul_add_mod, Nat.mod_eq_of_lt (show t % wN - X < rw by omega)]
        rw [ho, d1, d2, show Y + (t / wN - Y) = t / wN by omega]
        rw [Nat.mul_comm] at hdt
        omega
      by_cases c : (t / wN - Y) * rw + (t % wN - X) < j
      · rw [if_pos ⟨h, by omega⟩, if_pos ⟨h, c⟩]
      · rw [if_neg (by omega), if_neg (by omega)]
    · rw [if_neg (fun x => h x.1), if_neg (fun x => h x.1)]
/-- What is counted: rows above y, and of the band columns below P. -/
def tm (wN y hi P t : Nat) : Int := if t / wN < y ∨ (t / wN < y + hi ∧ t % wN < P) then 1 else 0
theorem tm_ct (wN y hi P rw t : Nat) (hr : 1 ≤ rw) : tm wN y hi P t + ct wN P y rw (rw * hi) t = tm wN y hi (P + rw) t := by
  have key : (y ≤ t / wN ∧ P ≤ t % wN ∧ t % wN < P + rw) → ((t / wN - y) * rw + (t % wN - P) < rw * hi ↔ t / wN < y + hi) := by
    intro h
    constructor
    · intro h2
      apply Nat.lt_of_not_le
      intro h3
      have : hi * rw ≤ (t / wN - y) * rw := Nat.mul_le_mul_right _ (by omega)
      rw [Nat.mul_comm] at this
      omega
    · intro h2
      have : (t / wN - y + 1) * rw ≤ hi * rw := Nat.mul_le_mul_right _ (by omega)
      rw [Nat.add_mul, Nat.one_mul, Nat.mul_comm hi rw] at this
      omega
  unfold tm ct
  by_cases a : t / wN < y
  · rw [if_pos (.inl a), if_neg (by omega), if_pos (.inl a)]; rfl
  · by_cases b : t / wN < y + hi
    · by_cases c : t % wN < P
      · rw [if_pos (.inr ⟨b, c⟩), if_neg (by omega), if_pos (.inr ⟨b, by omega⟩)]; rfl
      · by_cases d : t % wN < P + rw
        · rw [if_neg (by omega), if_pos ⟨⟨by omega, by omega, d⟩, (key ⟨by omega, by omega, d⟩).2 b⟩, if_pos (.inr ⟨b, d⟩)]; rfl
        · rw [if_neg (by omega), if_neg (fun h => d h.1.2.2), if_neg (by omega)]; rfl
    · rw [if_neg (by omega), if_neg (fun h => b ((key h.1).1 h.2)), if_neg (by omega)]; rfl
theorem tm_zero (wN y hi t : Nat) : tm wN y hi 0 t = tm wN y 0 0 t := by
  unfold tm
  by_cases a : t / wN < y
  · rw [if_pos (.inl a), if_pos (.inl a)]
  · rw [if_neg (by omega), if_neg (by omega)]
theorem tm_full (wN y hi t : Nat) (h : 1 ≤ wN) : tm wN y hi wN t = tm wN (y + hi) 0 0 t := by
  have hml := Nat.mod_lt t (show 0 < wN by omega)
  unfold tm
  by_cases a : t / wN < y + hi
  · rw [if_pos (.inr ⟨a, hml⟩), if_pos (.inl a)]
  · rw [if_neg (by omega), if_neg (by omega)]
/-- Columns of a plane that belong to the first x. -/
def pX (p : Int) (x : Nat) : Nat := if p = 1 ∨ p = 2 then x / 2 + x % 2 else x
end Go.Proofs.Ythihennifigchab
