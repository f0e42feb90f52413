import Derived.Test.YtknkjhfemgiiaaaDoorTc
import Derived.Test.YtknkjhfemgiiaaaDoorTf
namespace Go.Proofs.YtknkjhfemgiiaaaDoor
open Go.RowKit Go.Lib

/-- A word's block, behind a call. -/
theorem word_new (q : Nat) (w0 w : World) (X : Rr) (x : Wd) (h : RP q w0 w X) : ∃ w2, w.alloc (.cells #[.int .i64 x.kd, .int .i64 x.pl, .string x.sy] 56 (0, 0)) = w2 ∧ RP q w0 w2 X ∧ Kept [] w w2 ∧ w2.heap[w.heap.size]? = some (.cells #[.int .i64 x.kd, .int .i64 x.pl, .string x.sy] 56 (0, 0)) :=
  ⟨_, rfl, h.keep (alloc_kept _ _), alloc_kept _ _, heap_alloc_new _ _⟩
theorem word_cells {w : World} {B : Nat} {x : Wd} (h : w.heap[B]? = some (.cells #[.int .i64 x.kd, .int .i64 x.pl, .string x.sy] 56 (0, 0))) : w.cell? ⟨B, 0, none⟩ = some (.int .i64 x.kd) ∧ w.cell? ⟨B, 1, none⟩ = some (.int .i64 x.pl) ∧ w.cell? ⟨B, 2, none⟩ = some (.string x.sy) := by
  refine ⟨?_, ?_, ?_⟩ <;> simp [World.cell?, h]
/-- A block of another type than the reader's stays. -/
theorem RP.stay {q B : Nat} {w0 w w' : World} {X Y : Rr} {cs : Array Value} {t : TypeId} (h : RP q w0 w X) (h2 : RP q w w' Y) (hB : w.heap[B]? = some (.cells cs t (0, 0))) (ht : t ≠ 58) : w'.heap[B]? = some (.cells cs t (0, 0)) := by
  obtain ⟨_, _, _, r, _⟩ := h
  obtain ⟨_, _, _, _, k⟩ := h2
  refine k.heap hB (fun hm => ?_)
  have := r.bx
  simp at hm; subst hm; rw [hB] at this; simp at this; exact ht this.2
theorem RP.refl {q : Nat} {w0 w : World} {X : Rr} (h : RP q w0 w X) : RP q w w X := by obtain ⟨a, c, ev, r, _⟩ := h; exact ⟨a, c, ev, r, Kept.refl _ _⟩

def tx (X : Rr) : ByteArray × Rr := ((nx X 1).1.sy, if 100 < (nx X 1).1.sy.size then rf (nx X 1).2 (nx X 1).1.pl 191 else (nx X 1).2)
set_option maxHeartbeats 4000000 in
set_option maxRecDepth 1000000 in
theorem text_any (q : Nat) (w w0 : World) (X : Rr) (h : RP q w0 w X) : Calls Tryd.prog 32 #[.pointer (some ⟨q, 0, none⟩)] w fun e w' => e = .returned (.string (tx X).1) ∧ RP q w0 w' (tx X).2 := by
  have CN := Hid.mk (next_any q 1 w w0 X h)
  unfold tx
  unfold NxP at CN
  generalize hx : nx X 1 = R at *
  obtain ⟨⟨kd, pl, sy⟩, X1⟩ := R
  simp only at CN ⊢
  by_cases hl : 100 < sy.size
  · rw [if_pos hl]
    have hl2 : (100 : Int) < (sy.size : Int) := by omega
    clear h hx hl
    go_enter Tryd.func32, Tryd.ntmps32
    go_wp2_with (fail)
    refine CN.out.mono ?_
    rintro e w1 ⟨rfl, h1⟩
    unfold wv
    obtain ⟨w2, e2, h2, k2, b2⟩ := word_new q w0 w1 X1 ⟨kd, pl, sy⟩ h1
    obtain ⟨c0, c1, c2⟩ := word_cells b2
    have HP := Hid.mk h2
    have HB := Hid.mk b2
    simp only at c0 c1 c2 e2
    clear h1 h2 k2 b2 CN
    have CR := Hid.mk (refuse_rp q pl 191 w2 w2 X1 HP.out.refl)
    go_wp2_with (fail)
    refine CR.out.mono ?_
    rintro e w3 ⟨rfl, h3⟩
    have b3 := HP.out.stay h3 HB.out (by decide)
    obtain ⟨-, d1, d2⟩ := word_cells (x := ⟨kd, pl, sy⟩) b3
    simp only at d1 d2
    have H3 := Hid.mk (HP.out.trans h3)
    clear h3 b3 c0 c1 c2
    go_wp2
    go_ret
    exact ⟨rfl, H3.out⟩
  · rw [if_neg hl]
    have hl2 : ¬ (100 : Int) < (sy.size : Int) := by omega
    clear h hx hl
    go_enter Tryd.func32, Tryd.ntmps32
    go_wp2_with (fail)
    refine CN.out.mono ?_
    rintro e w1 ⟨rfl, h1⟩
    unfold wv
    obtain ⟨w2, e2, h2, k2, b2⟩ := word_new q w0 w1 X1 ⟨kd, pl, sy⟩ h1
    obtain ⟨c0, c1, c2⟩ := word_cells b2
    have HP := Hid.mk h2
    have HB := Hid.mk b2
    simp only at c0 c1 c2 e2
    clear h1 h2 k2 b2 CN
    go_wp2
    go_ret
    exact ⟨rfl, HP.out⟩
def nmq (X : Rr) : ByteArray × Rr := ((nx X 0).1.sy, if nmB (nx X 0).1.sy = true then (nx X 0).2 else rf (nx X 0).2 (nx X 0).1.pl 193)
theorem nx_sy (X : Rr) (k : Int) (h : ∀ x ∈ X.ws, x.sy.size ≤ 100000) : (nx X k).1.sy.size ≤ 100000 := by
  obtain ⟨ws, en, er⟩ := X
  cases ws with
  | nil => simp [nx, ByteArray.size]
  | cons x t => exact h x (by simp)
set_option maxHeartbeats 4000000 in
set_option maxRecDepth 1000000 in
theorem name_any (q : Nat) (w w0 : World) (X : Rr) (h : RP q w0 w X) (hX : ∀ x ∈ X.ws, x.sy.size ≤ 100000) : Calls Tryd.prog 35 #[.pointer (some ⟨q, 0, none⟩)] w fun e w' => e = .returned (.string (nmq X).1) ∧ RP q w0 w' (nmq X).2 := by
  have CN := Hid.mk (next_any q 0 w w0 X h)
  unfold nmq
  unfold NxP at CN
  generalize hx : nx X 0 = R at *
  obtain ⟨⟨kd, pl, sy⟩, X1⟩ := R
  simp only at CN ⊢
  by_cases hl : nmB sy = true
  · rw [if_pos hl]
    have hsy := nx_sy X 0 hX
    rw [hx] at hsy
    have IN : Hid (∀ u, Calls Tryd.prog 40 #[.string sy] u fun e w' => e = .returned (.bool true) ∧ Kept [] u w') := Hid.mk (fun u => by rw [← hl]; exact isName_any sy u (by unfold maxLen; simp only at hsy; omega))
    clear h hx hl hsy hX
    go_enter Tryd.func35, Tryd.ntmps35
    go_wp2_with (fail)
    refine CN.out.mono ?_
    rintro e w1 ⟨rfl, h1⟩
    unfold wv
    obtain ⟨w2, e2, h2, k2, b2⟩ := word_new q w0 w1 X1 ⟨kd, pl, sy⟩ h1
    obtain ⟨c0, c1, c2⟩ := word_cells b2
    have HP := Hid.mk h2
    have HB := Hid.mk b2
    simp only at c0 c1 c2 e2
    clear h1 h2 k2 b2 CN
    have CM := Hid.mk (IN.out w2)
    go_wp2_with (fail)
    refine CM.out.mono ?_
    rintro e w9 ⟨rfl, k9⟩
    have b9 := k9.heap HB.out (by simp)
    obtain ⟨m0, m1, m2⟩ := word_cells (x := ⟨kd, pl, sy⟩) b9
    simp only at m0 m1 m2
    have HP9 := Hid.mk (HP.out.keep k9)
    have HB9 := Hid.mk b9
    clear k9 b9 c0 c1 c2 CM
    go_wp2
    go_ret
    exact ⟨rfl, HP9.out⟩
  · rw [if_neg hl]
    have hsy := nx_sy X 0 hX
    rw [hx] at hsy
    have hl9 : nmB sy = false := by simpa using hl
    have IN : Hid (∀ u, Calls Tryd.prog 40 #[.string sy] u fun e w' => e = .returned (.bool false) ∧ Kept [] u w') := Hid.mk (fun u => by rw [← hl9]; exact isName_any sy u (by unfold maxLen; simp only at hsy; omega))
    clear h hx hl hsy hX hl9
    go_enter Tryd.func35, Tryd.ntmps35
    go_wp2_with (fail)
    refine CN.out.mono ?_
    rintro e w1 ⟨rfl, h1⟩
    unfold wv
    obtain ⟨w2, e2, h2, k2, b2⟩ := word_new q w0 w1 X1 ⟨kd, pl, sy⟩ h1
    obtain ⟨c0, c1, c2⟩ := word_cells b2
    have HP := Hid.mk h2
    have HB := Hid.mk b2
    simp only at c0 c1 c2 e2
    clear h1 h2 k2 b2 CN
    have CM := Hid.mk (IN.out w2)
    go_wp2_with (fail)
    refine CM.out.mono ?_
    rintro e w9 ⟨rfl, k9⟩
    have b9 := k9.heap HB.out (by simp)
    obtain ⟨m0, m1, m2⟩ := word_cells (x := ⟨kd, pl, sy⟩) b9
    simp only at m0 m1 m2
    have HP9 := Hid.mk (HP.out.keep k9)
    have HB9 := Hid.mk b9
    clear k9 b9 c0 c1 c2 CM
    have CR := Hid.mk (refuse_rp q pl 193 w9 w9 X1 HP9.out.refl)
    go_wp2_with (fail)
    refine CR.out.mono ?_
    rintro e w3 ⟨rfl, h3⟩
    have b3 := HP9.out.stay h3 HB9.out (by decide)
    obtain ⟨-, d1, d2⟩ := word_cells (x := ⟨kd, pl, sy⟩) b3
    simp only at d1 d2
    have H3 := Hid.mk (HP9.out.trans h3)
    clear h3 b3 m0 m1 m2
    go_wp2
    go_ret
    exact ⟨rfl, H3.out⟩
def fdq (X : Rr) : Int × Rr := ((fo 0 (nx X 0).1.sy.data.toList).1, if (fo 0 (nx X 0).1.sy.data.toList).2 = true then (nx X 0).2 else rf (nx X 0).2 (nx X 0).1.pl 193)
set_option maxHeartbeats 4000000 in
set_option maxRecDepth 1000000 in
theorem fade_any (q : Nat) (w w0 : World) (X : Rr) (h : RP q w0 w X) (hX : ∀ x ∈ X.ws, x.sy.size ≤ 100000) : Calls Tryd.prog 34 #[.pointer (some ⟨q, 0, none⟩)] w fun e w' => e = .returned (.int .i64 (fdq X).1) ∧ RP q w0 w' (fdq X).2 := by
  have CN := Hid.mk (next_any q 0 w w0 X h)
  unfold fdq
  unfold NxP at CN
  generalize hx : nx X 0 = R at *
  obtain ⟨⟨kd, pl, sy⟩, X1⟩ := R
  simp only at CN ⊢
  by_cases hl : (fo 0 sy.data.toList).2 = true
  · rw [if_pos hl]
    have hsy := nx_sy X 0 hX
    rw [hx] at hsy
    obtain ⟨N, eN⟩ : ∃ N, (fo 0 sy.data.toList).1 = N := ⟨_, rfl⟩
    rw [eN]
    have IN : Hid (∀ u, Calls Tryd.prog 49 #[.string sy] u fun e w' => e = .returned (.tuple #[.int .i64 N, .bool true]) ∧ Kept [] u w') := Hid.mk (fun u => by rw [← hl, ← eN]; exact fadeOf_any sy u (by unfold maxLen; simp only at hsy; omega))
    clear h hx hl hsy hX eN
    go_enter Tryd.func34, Tryd.ntmps34
    go_wp2_with (fail)
    refine CN.out.mono ?_
    rintro e w1 ⟨rfl, h1⟩
    unfold wv
    obtain ⟨w2, e2, h2, k2, b2⟩ := word_new q w0 w1 X1 ⟨kd, pl, sy⟩ h1
    obtain ⟨c0, c1, c2⟩ := word_cells b2
    have HP := Hid.mk h2
    have HB := Hid.mk b2
    simp only at c0 c1 c2 e2
    clear h1 h2 k2 b2 CN
    have CM := Hid.mk (IN.out w2)
    go_wp2_with (fail)
    refine CM.out.mono ?_
    rintro e w9 ⟨rfl, k9⟩
    have b9 := k9.heap HB.out (by simp)
    obtain ⟨m0, m1, m2⟩ := word_cells (x := ⟨kd, pl, sy⟩) b9
    simp only at m0 m1 m2
    have HP9 := Hid.mk (HP.out.keep k9)
    have HB9 := Hid.mk b9
    clear k9 b9 c0 c1 c2 CM
    go_wp2
    go_ret
    exact ⟨rfl, HP9.out⟩
  · rw [if_neg hl]
    have hsy := nx_sy X 0 hX
    rw [hx] at hsy
    have hl9 : (fo 0 sy.data.toList).2 = false := by simpa using hl
    obtain ⟨N, eN⟩ : ∃ N, (fo 0 sy.data.toList).1 = N := ⟨_, rfl⟩
    rw [eN]
    have IN : Hid (∀ u, Calls Tryd.prog 49 #[.string sy] u fun e w' => e = .returned (.tuple #[.int .i64 N, .bool false]) ∧ Kept [] u w') := Hid.mk (fun u => by rw [← hl9, ← eN]; exact fadeOf_any sy u (by unfold maxLen; simp only at hsy; omega))
    clear h hx hl hsy hX hl9 eN
    go_enter Tryd.func34, Tryd.ntmps34
    go_wp2_with (fail)
    refine CN.out.mono ?_
    rintro e w1 ⟨rfl, h1⟩
    unfold wv
    obtain ⟨w2, e2, h2, k2, b2⟩ := word_new q w0 w1 X1 ⟨kd, pl, sy⟩ h1
    obtain ⟨c0, c1, c2⟩ := word_cells b2
    have HP := Hid.mk h2
    have HB := Hid.mk b2
    simp only at c0 c1 c2 e2
    clear h1 h2 k2 b2 CN
    have CM := Hid.mk (IN.out w2)
    go_wp2_with (fail)
    refine CM.out.mono ?_
    rintro e w9 ⟨rfl, k9⟩
    have b9 := k9.heap HB.out (by simp)
    obtain ⟨m0, m1, m2⟩ := word_cells (x := ⟨kd, pl, sy⟩) b9
    simp only at m0 m1 m2
    have HP9 := Hid.mk (HP.out.keep k9)
    have HB9 := Hid.mk b9
    clear k9 b9 c0 c1 c2 CM
    have CR := Hid.mk (refuse_rp q pl 193 w9 w9 X1 HP9.out.refl)
    go_wp2_with (fail)
    refine CR.out.mono ?_
    rintro e w3 ⟨rfl, h3⟩
    have b3 := HP9.out.stay h3 HB9.out (by decide)
    obtain ⟨-, d1, d2⟩ := word_cells (x := ⟨kd, pl, sy⟩) b3
    simp only at d1 d2
    have H3 := Hid.mk (HP9.out.trans h3)
    clear h3 b3 m0 m1 m2
    go_wp2
    go_ret
    exact ⟨rfl, H3.out⟩
end Go.Proofs.YtknkjhfemgiiaaaDoor
