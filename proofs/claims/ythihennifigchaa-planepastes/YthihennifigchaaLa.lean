import Derived.Test.YthihennifigchaaB2
import Derived.Maps.AppendAt
namespace Go.Proofs.Ythihennifigchaa
open Go.RowKit

/-- Making a list of samples, as long as may be. -/
theorem make_long (r : Nat) (m : Int) (hm : m = (r : Int)) (hr : r ≤ 140737488355328) : ∃ mkW : World → World, (∀ w, Sem.run Try.prog (Instr.makeSlice 52 (.int .i64 m) (.int .i64 m)) w = .ok (.slice (some ⟨w.heap.size, 0, none⟩) r r) (mkW w)) ∧ ∀ w, Row (mkW w) w.heap.size r (fun _ => 0) ∧ Kept [] w (mkW w) := by
  subst hm
  obtain ⟨j0, gi, gz0, gz1, gz2⟩ := info_parts Try.info65
  have h : ∀ w : World, ∃ w', Sem.run Try.prog (Instr.makeSlice 52 (.int .i64 (r : Int)) (.int .i64 (r : Int))) w = .ok (.slice (some ⟨w.heap.size, 0, none⟩) r r) w' ∧ Row w' w.heap.size r (fun _ => 0) ∧ Kept [] w w' := fun w => by
    obtain ⟨w', hrun, r1, r2⟩ := run_make_full (P := Try.prog) w 0 52 65 j0 (.int .u16 0) 1 Try.underlying52 gi gz0 gz1 .i64 .i64 r (by rw [gz2]; omega) (by unfold maxLen; omega) (by omega)
    have hr3 := row_heap r1 rfl
    rw [show (madeCells (Value.int .u16 0).cells (r * 1)).toList = List.replicate r (.int .u16 0) by rw [Nat.mul_one]; exact toList_madeCells_one _ _, fl_none] at hr3
    exact ⟨w', hrun, hr3, (Kept.of_grown r2).mono (by simp)⟩
  obtain ⟨mkW, hm⟩ := Classical.axiomOfChoice h
  exact ⟨mkW, fun w => (hm w).1, fun w => (hm w).2⟩
theorem fl_nilS (n : Nat) : List.replicate n (Value.slice none 0 0) = fl (fun _ => .slice none 0 0) n := by
  apply List.ext_getElem?
  intro i
  by_cases h : i < n
  · rw [List.getElem?_replicate, if_pos h, fl_at _ _ _ h]
  · rw [List.getElem?_eq_none (by simp; omega), List.getElem?_eq_none (by simp [fl_length]; omega)]
/-- Making a list of lists, as long as may be. -/
theorem make_lists (r : Nat) (m : Int) (hm : m = (r : Int)) (hr : r ≤ 11728124029610) : ∃ mkW : World → World, (∀ w, Sem.run Try.prog (Instr.makeSlice 36 (.int .i64 m) (.int .i64 m)) w = .ok (.slice (some ⟨w.heap.size, 0, none⟩) r r) (mkW w)) ∧ ∀ w, (mkW w).heap[w.heap.size]? = some (.cells (fl (fun _ => .slice none 0 0) r).toArray 52 (0, 0)) ∧ Kept [] w (mkW w) := by
  subst hm
  obtain ⟨j0, gi, gz0, gz1, gz2⟩ := info_parts Try.infoR
  have h : ∀ w : World, ∃ w', Sem.run Try.prog (Instr.makeSlice 36 (.int .i64 (r : Int)) (.int .i64 (r : Int))) w = .ok (.slice (some ⟨w.heap.size, 0, none⟩) r r) w' ∧ w'.heap[w.heap.size]? = some (.cells (fl (fun _ => .slice none 0 0) r).toArray 52 (0, 0)) ∧ Kept [] w w' := fun w => by
    obtain ⟨w', hrun, r1, r2⟩ := run_make_full (P := Try.prog) w 0 36 52 j0 (.slice none 0 0) 1 Try.underlying36 gi gz0 gz1 .i64 .i64 r (by rw [gz2]; omega) (by unfold maxLen; omega) (by omega)
    have hr3 := row_heap r1 rfl
    rw [show (madeCells (Value.slice none 0 0).cells (r * 1)).toList = List.replicate r (.slice none 0 0) by rw [Nat.mul_one]; exact toList_madeCells_one _ _, fl_nilS] at hr3
    exact ⟨w', hrun, hr3, (Kept.of_grown r2).mono (by simp)⟩
  obtain ⟨mkW, hm⟩ := Classical.axiomOfChoice h
  exact ⟨mkW, fun w => (hm w).1, fun w => (hm w).2⟩

theorem Row.set {w : World} {b n i v : Nat} {f : Nat → Nat} (h : Row w b n f) : Row (w.setCell ⟨b, i, none⟩ (.int .u16 (v : Int))) b n (fun t => if t = i then v else f t) := by
  unfold Row at h ⊢
  rw [heap_setCell_at h, List.setIfInBounds_toArray]
  congr 3
  apply List.ext_getElem?
  intro t
  rw [List.getElem?_set, fl_length]
  by_cases ht : t < n
  · rw [fl_at _ _ _ ht, fl_at _ _ _ ht]
    by_cases e : i = t
    · subst e; simp [ht, vU]
    · rw [if_neg e]
      show some (Value.int .u16 (f t : Int)) = some (Value.int .u16 ((if t = i then v else f t : Nat) : Int))
      rw [if_neg (Ne.symm e)]
  · rw [List.getElem?_eq_none (by rw [fl_length]; omega), List.getElem?_eq_none (by rw [fl_length]; omega)]
    split
    · rw [if_neg (by omega)]
    · rfl
theorem mem_own {V : Value} {x : Nat} : x ∈ V.ownBlock.toList ↔ V.ownBlock = some x := by
  cases V.ownBlock <;> simp [eq_comm]

/-- What stands in a list that is lent. -/
def ltF (f : Nat → Nat) (n : Nat) : Nat → Nat := fun j => if j < n then f j else 60000

theorem fl_append (f g : Nat → Value) (n m : Nat) : fl f n ++ fl g m = fl (fun i => if i < n then f i else g (i - n)) (n + m) := by
  apply List.ext_getElem?
  intro i
  by_cases h : i < n
  · rw [List.getElem?_append_left (by rw [fl_length]; exact h), fl_at _ _ _ h, fl_at _ _ _ (by omega), if_pos h]
  · rw [List.getElem?_append_right (by rw [fl_length]; omega), fl_length]
    by_cases h2 : i < n + m
    · rw [fl_at _ _ _ (by omega), fl_at _ _ _ h2, if_neg h]
    · rw [List.getElem?_eq_none (by rw [fl_length]; omega), List.getElem?_eq_none (by rw [fl_length]; omega)]
theorem fl_drop (f : Nat → Value) (n m : Nat) (h : m ≤ n) : (fl f n).drop m = fl (fun i => f (m + i)) (n - m) := by
  apply List.ext_getElem?
  intro i
  rw [List.getElem?_drop]
  by_cases h2 : m + i < n
  · rw [fl_at _ _ _ h2, fl_at _ _ _ (by omega)]
  · rw [List.getElem?_eq_none (by rw [fl_length]; omega), List.getElem?_eq_none (by rw [fl_length]; omega)]

set_option maxHeartbeats 4000000 in
set_option maxRecDepth 1000000 in
theorem lentList_any (ao : Option Addr) (n c : Nat) (f : Nat → Nat) (w : World) (hr : Rd w ao n f) (hn : n ≤ 70368744175616) :
    Calls Try.prog 30 #[.slice ao n c] w fun e w' => e = .returned (.slice (some ⟨w.heap.size, 0, none⟩) (n + 7) (n + 7)) ∧ Row w' w.heap.size (n + 7) (ltF f n) ∧ Kept [] w w' := by
  obtain ⟨mkW, hmk, hmw⟩ := make_long (n + 7) ((n : Int) + 7) (by omega) (by omega)
  have m1 := hmw w
  have hcp : ∃ w2, Sem.run Try.prog (Builtin.copy_ #[52, 52] 3 #[.slice (some ⟨w.heap.size, 0, none⟩) (n + 7) (n + 7), .slice ao n c]) (mkW w) = .ok (goInt n) w2 ∧ Row w2 w.heap.size (n + 7) (fun j => if j < n then f j else 0) ∧ Kept [w.heap.size] (mkW w) w2 := by
    obtain ⟨w2, h1, h2, h3⟩ := copy_run (mkW w) w.heap.size (n + 7) (n + 7) ao n c (fl (vU fun _ => 0) (n + 7)) (fl (vU f) n) m1.1 (fl_length _ _) (fl_length _ _) (by omega) (fun hp => by
      rcases hr.keep m1.2 with h | ⟨g, off, e, hc⟩
      · omega
      · refine ⟨_, e, fun j u hu => ?_⟩
        by_cases hj : j < n
        · rw [fl_at _ _ _ hj] at hu
          cases hu
          rw [show (⟨g, off, none⟩ : Addr).add j = ⟨g, off + j, none⟩ by unfold Addr.add; split <;> simp_all]
          exact hc j hj
        · rw [List.getElem?_eq_none (by rw [fl_length]; omega)] at hu
          cases hu) (fun v hv => by
      simp only [fl, vU, List.mem_map] at hv
      obtain ⟨i, _, rfl⟩ := hv
      rfl)
    refine ⟨w2, h1, ?_, h3⟩
    rw [fl_drop _ _ _ (by omega), fl_append, show n + (n + 7 - n) = n + 7 by omega] at h2
    unfold Row
    rw [h2]
    congr 3
    apply fl_congr
    intro j hj
    show (if j < n then Value.int .u16 (f j : Int) else Value.int .u16 ((0 : Nat) : Int)) = Value.int .u16 ((if j < n then f j else 0 : Nat) : Int)
    split <;> rfl
  obtain ⟨w2, hcp, hr2, hk2⟩ := hcp
  have K2 : Hid (Kept [] w w2) := Hid.mk (m1.2.step hk2 (fun x hx => by simp at hx; subst hx; exact .inr (Nat.le_refl _)))
  have R2 : Hid (Row w2 w.heap.size (n + 7) (fun j => if j < n then f j else if j < n then 60000 else 0)) := Hid.mk (hr2.congr (fun j _ => by split <;> simp_all))
  obtain ⟨w1, ew1⟩ : ∃ w1, w1 = mkW w := ⟨_, rfl⟩
  have hmk1 := hmk w
  rw [← ew1] at hcp hmk1
  obtain ⟨B, eB⟩ : ∃ B, B = w.heap.size := ⟨_, rfl⟩
  have HB := Hid.mk eB
  rw [← eB] at hcp hmk1 R2 ⊢
  clear hmw m1 hmk ew1 hr hr2 hk2 eB
  go_enter Try.func30, Try.ntmps30
  go_wp2
  go_loopw [4] (fun i wr => ∃ k : Nat, n ≤ k ∧ k ≤ n + 7 ∧ i = .int .i64 (k : Int) ∧ Row wr B (n + 7) (fun j => if j < n then f j else if j < k then 60000 else 0) ∧ Kept [] w wr) (fun i _ => n + 7 - (intOf i).toNat)
  case atStart => exact ⟨n, by omega, by omega, rfl, R2.out, K2.out⟩
  case round =>
    obtain ⟨k, hk1, hk2, rfl, hrow, hkr⟩ := hrel
    by_cases hlt : k < n + 7
    · have hc := hrow.at hlt
      have hfz := hrow.fz k
      have ix : (k : Int) < (n : Int) + 7 := by omega
      have HR := Hid.mk (hrow.set (i := k) (v := 60000))
      have HK := Hid.mk (hkr.setCell (p := ⟨B, k, none⟩) (.inr (by rw [HB.out]; exact Nat.le_refl _)) (.int .u16 60000))
      clear hrow hkr
      go_wp2
      refine ⟨⟨k + 1, by omega, by omega, by go_num, ?_, HK.out⟩, by simp [intOf]; omega⟩
      refine HR.out.congr (fun j hj => ?_)
      by_cases e : j = k
      · subst e; simp only [if_true]; rw [if_neg (by omega), if_pos (by omega)]
      · simp only [if_neg e]
        by_cases h2 : j < n
        · rw [if_pos h2, if_pos h2]
        · rw [if_neg h2, if_neg h2]
          by_cases h3 : j < k
          · rw [if_pos h3, if_pos (by omega)]
          · rw [if_neg h3, if_neg (by omega)]
    · obtain rfl : n + 7 = k := by omega
      have HR := Hid.mk hrow
      have HK := Hid.mk hkr
      clear hrow hkr
      go_wp2
      go_ret
      refine ⟨rfl, HR.out.congr (fun j hj => ?_), HK.out⟩
      unfold ltF
      by_cases h2 : j < n
      · rw [if_pos h2, if_pos h2]
      · rw [if_neg h2, if_neg h2, if_pos hj]
end Go.Proofs.Ythihennifigchaa
