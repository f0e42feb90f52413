import Derived.Test.YtgjjnkhkjnkahaaDoorB2
import Derived.Maps.AppendAt
namespace Go.Proofs.YtgjjnkhkjnkahaaDoor
open Go.RowKit

/-- Making a list of samples, as long as may be. -/
theorem make_long (r : Nat) (m : Int) (hm : m = (r : Int)) (hr : r ≤ 140737488355328) : ∃ mkW : World → World, (∀ w, Sem.run Tryd.prog (Instr.makeSlice 37 (.int .i64 m) (.int .i64 m)) w = .ok (.slice (some ⟨w.heap.size, 0, none⟩) r r) (mkW w)) ∧ ∀ w, Row (mkW w) w.heap.size r (fun _ => 0) ∧ Kept [] w (mkW w) := by
  subst hm
  obtain ⟨j0, gi, gz0, gz1, gz2⟩ := info_parts Tryd.info38
  have h : ∀ w : World, ∃ w', Sem.run Tryd.prog (Instr.makeSlice 37 (.int .i64 (r : Int)) (.int .i64 (r : Int))) w = .ok (.slice (some ⟨w.heap.size, 0, none⟩) r r) w' ∧ Row w' w.heap.size r (fun _ => 0) ∧ Kept [] w w' := fun w => by
    obtain ⟨w', hrun, r1, r2⟩ := run_make_full (P := Tryd.prog) w 0 37 38 j0 (.int .u16 0) 1 Tryd.underlying37 gi gz0 gz1 .i64 .i64 r (by rw [gz2]; omega) (by unfold maxLen; omega) (by omega)
    have hr3 := row_heap r1 rfl
    rw [show (madeCells (Value.int .u16 0).cells (r * 1)).toList = List.replicate r (.int .u16 0) by rw [Nat.mul_one]; exact toList_madeCells_one _ _, fl_none] at hr3
    exact ⟨w', hrun, hr3, (Kept.of_grown r2).mono (by simp)⟩
  obtain ⟨mkW, hm⟩ := Classical.axiomOfChoice h
  exact ⟨mkW, fun w => (hm w).1, fun w => (hm w).2⟩
theorem fl_nilS (n : Nat) : List.replicate n (Value.slice none 0 0) = fl (fun _ => .slice none 0 0) n := by
  apply List.ext_getElem?
  intro i
  by_cases h : i < n
  · rw [List.getElem?_replicate, if_pos h, fl_at _ _ _ h]
  · rw [List.getElem?_eq_none (by simp; omega), List.getElem?_eq_none (by simp [fl_length]; omega)]
/-- Making a list of lists, as long as may be. -/
theorem make_lists (r : Nat) (m : Int) (hm : m = (r : Int)) (hr : r ≤ 11728124029610) : ∃ mkW : World → World, (∀ w, Sem.run Tryd.prog (Instr.makeSlice 27 (.int .i64 m) (.int .i64 m)) w = .ok (.slice (some ⟨w.heap.size, 0, none⟩) r r) (mkW w)) ∧ ∀ w, (mkW w).heap[w.heap.size]? = some (.cells (fl (fun _ => .slice none 0 0) r).toArray 37 (0, 0)) ∧ Kept [] w (mkW w) := by
  subst hm
  obtain ⟨j0, gi, gz0, gz1, gz2⟩ := info_parts Tryd.infoR
  have h : ∀ w : World, ∃ w', Sem.run Tryd.prog (Instr.makeSlice 27 (.int .i64 (r : Int)) (.int .i64 (r : Int))) w = .ok (.slice (some ⟨w.heap.size, 0, none⟩) r r) w' ∧ w'.heap[w.heap.size]? = some (.cells (fl (fun _ => .slice none 0 0) r).toArray 37 (0, 0)) ∧ Kept [] w w' := fun w => by
    obtain ⟨w', hrun, r1, r2⟩ := run_make_full (P := Tryd.prog) w 0 27 37 j0 (.slice none 0 0) 1 Tryd.underlying27 gi gz0 gz1 .i64 .i64 r (by rw [gz2]; omega) (by unfold maxLen; omega) (by omega)
    have hr3 := row_heap r1 rfl
    rw [show (madeCells (Value.slice none 0 0).cells (r * 1)).toList = List.replicate r (.slice none 0 0) by rw [Nat.mul_one]; exact toList_madeCells_one _ _, fl_nilS] at hr3
    exact ⟨w', hrun, hr3, (Kept.of_grown r2).mono (by simp)⟩
  obtain ⟨mkW, hm⟩ := Classical.axiomOfChoice h
  exact ⟨mkW, fun w => (hm w).1, fun w => (hm w).2⟩

theorem Row.set {w : World} {b n i v : Nat} {f : Nat → Nat} (h : Row w b n f) : Row (w.setCell ⟨b, i, none⟩ (.int .u16 (v : Int))) b n (fun t => if t = i then v else f t) := by
  unfold Row at h ⊢
  rw [heap_setCell_at h, List.setIfInBounds_toArray]
  congr 3
  apply List.ext_getElem?
  intro t
  rw [List.getElem?_set, fl_length]
  by_cases ht : t < n
  · rw [fl_at _ _ _ ht, fl_at _ _ _ ht]
    by_cases e : i = t
    · subst e; simp [ht, vU]
    · rw [if_neg e]
      show some (Value.int .u16 (f t : Int)) = some (Value.int .u16 ((if t = i then v else f t : Nat) : Int))
      rw [if_neg (Ne.symm e)]
  · rw [List.getElem?_eq_none (by rw [fl_length]; omega), List.getElem?_eq_none (by rw [fl_length]; omega)]
    split
    · rw [if_neg (by omega)]
    · rfl
theorem mem_own {V : Value} {x : Nat} : x ∈ V.ownBlock.toList ↔ V.ownBlock = some x := by
  cases V.ownBlock <;> simp [eq_comm]

/-- What stands in a list that is lent. -/
def ltF (f : Nat → Nat) (n : Nat) : Nat → Nat := fun j => if j < n then f j else 60000

theorem fl_append (f g : Nat → Value) (n m : Nat) : fl f n ++ fl g m = fl (fun i => if i < n then f i else g (i - n)) (n + m) := by
  apply List.ext_getElem?
  intro i
  by_cases h : i < n
  · rw [List.getElem?_append_left (by rw [fl_length]; exact h), fl_at _ _ _ h, fl_at _ _ _ (by omega), if_pos h]
  · rw [List.getElem?_append_right (by rw [fl_length]; omega), fl_length]
    by_cases h2 : i < n + m
    · rw [fl_at _ _ _ (by omega), fl_at _ _ _ h2, if_neg h]
    · rw [List.getElem?_eq_none (by rw [fl_length]; omega), List.getElem?_eq_none (by rw [fl_length]; omega)]
theorem fl_drop (f : Nat → Value) (n m : Nat) (h : m ≤ n) : (fl f n).drop m = fl (fun i => f (m + i)) (n - m) := by
  apply List.ext_getElem?
  intro i
  rw [List.getElem?_drop]
  by_cases h2 : m + i < n
  · rw [fl_at _ _ _ h2, fl_at _ _ _ (by omega)]
  · rw [List.getElem?_eq_none (by rw [fl_length]; omega), List.getElem?_eq_none (by rw [fl_length]; omega)]

end Go.Proofs.YtgjjnkhkjnkahaaDoor
