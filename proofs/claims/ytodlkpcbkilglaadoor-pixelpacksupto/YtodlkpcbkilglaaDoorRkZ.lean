import Derived.Test.YtodlkpcbkilglaaDoorVq
import Derived.Maps.AppendAt
namespace Go.Proofs.YtodlkpcbkilglaaDoor
open Go.RowKit Go.Shelf

set_option maxHeartbeats 4000000 in
set_option maxRecDepth 1000000 in
theorem rplan_no (W H D : Int) (A : Bool) (po : Option Addr) (n c : Nat) (ln : Nat → Nat) (F : Nat → Nat → Nat) (w : World) (hr : Pl w po n ln F) (hn : n ≤ 9223372036854775807) (hln : ∀ i, i < n → ln i ≤ 9223372036854775807) (hF : ∀ i, i < n → ∀ j, j < ln i → F i j < 65536) (hE : vE W H D A n ln F ≠ 0) :
    Calls Tryd.prog 18 #[frv W H D A po n c] w fun e w' => e = .returned (.tuple #[.slice none 0 0, .int .i64 (vE W H D A n ln F)]) ∧ Kept [] w w' := by
  have CV := Hid.mk (fun (u : World) (hk : Kept [] w u) => rvalid_any W H D A po n c ln F u (hr.keep hk) hn hln hF)
  have hB := heap_alloc_new w (.cells #[.int .i64 W, .int .i64 H, .int .i64 D, .bool A, .slice po n c] 31)
  have hk0 := alloc_kept w (.cells #[.int .i64 W, .int .i64 H, .int .i64 D, .bool A, .slice po n c] 31)
  obtain ⟨E, hEE⟩ : ∃ E, vE W H D A n ln F = E := ⟨_, rfl⟩
  rw [hEE] at CV hE ⊢
  obtain ⟨wa, ewa⟩ : ∃ wa, wa = w.alloc (.cells #[.int .i64 W, .int .i64 H, .int .i64 D, .bool A, .slice po n c] 31) := ⟨_, rfl⟩
  rw [← ewa] at hB hk0
  obtain ⟨b, eb⟩ : ∃ b, b = w.heap.size := ⟨_, rfl⟩
  rw [← eb] at hB
  have HK := Hid.mk hk0
  obtain ⟨⟨p0, p1, p2, p3, p4⟩, _⟩ := five hB
  clear hB hk0 hr hF hln hn hEE
  go_enter Tryd.func18, Tryd.ntmps18
  go_wp2_with (fail)
  rw [← ewa, ← eb]
  clear ewa eb
  refine (CV.out _ HK.out).mono ?_
  rintro e w1 ⟨rfl, hk1⟩
  have HK1 := Hid.mk (HK.out.trans hk1)
  clear hk1 CV p0 p1 p2 p3 p4
  go_wp2_with (fail)
  go_ret2
  exact ⟨rfl, HK1.out⟩

set_option maxHeartbeats 4000000 in
set_option maxRecDepth 1000000 in
theorem r210_no (W H D : Int) (A : Bool) (po : Option Addr) (n c : Nat) (ln : Nat → Nat) (F : Nat → Nat → Nat) (w : World) (hr : Pl w po n ln F) (hn : n ≤ 9223372036854775807) (hln : ∀ i, i < n → ln i ≤ 9223372036854775807) (hF : ∀ i, i < n → ∀ j, j < ln i → F i j < 65536) (hE : vE W H D A n ln F ≠ 0) :
    Calls Tryd.prog 19 #[frv W H D A po n c] w fun e w' => e = .returned (.tuple #[.slice none 0 0, .int .i64 (vE W H D A n ln F)]) ∧ Kept [] w w' := by
  have CV := Hid.mk (fun (u : World) (hk : Kept [] w u) => rvalid_any W H D A po n c ln F u (hr.keep hk) hn hln hF)
  have hB := heap_alloc_new w (.cells #[.int .i64 W, .int .i64 H, .int .i64 D, .bool A, .slice po n c] 31)
  have hk0 := alloc_kept w (.cells #[.int .i64 W, .int .i64 H, .int .i64 D, .bool A, .slice po n c] 31)
  obtain ⟨E, hEE⟩ : ∃ E, vE W H D A n ln F = E := ⟨_, rfl⟩
  rw [hEE] at CV hE ⊢
  obtain ⟨wa, ewa⟩ : ∃ wa, wa = w.alloc (.cells #[.int .i64 W, .int .i64 H, .int .i64 D, .bool A, .slice po n c] 31) := ⟨_, rfl⟩
  rw [← ewa] at hB hk0
  obtain ⟨b, eb⟩ : ∃ b, b = w.heap.size := ⟨_, rfl⟩
  rw [← eb] at hB
  have HK := Hid.mk hk0
  obtain ⟨⟨p0, p1, p2, p3, p4⟩, _⟩ := five hB
  clear hB hk0 hr hF hln hn hEE
  go_enter Tryd.func19, Tryd.ntmps19
  go_wp2_with (fail)
  rw [← ewa, ← eb]
  clear ewa eb
  refine (CV.out _ HK.out).mono ?_
  rintro e w1 ⟨rfl, hk1⟩
  have HK1 := Hid.mk (HK.out.trans hk1)
  clear hk1 CV p0 p1 p2 p3 p4
  go_wp2_with (fail)
  go_ret2
  exact ⟨rfl, HK1.out⟩

set_option maxHeartbeats 4000000 in
set_option maxRecDepth 1000000 in
theorem r210_fmt (W H D : Int) (A : Bool) (po : Option Addr) (n c : Nat) (ln : Nat → Nat) (F : Nat → Nat → Nat) (w : World) (hr : Pl w po n ln F) (hn : n ≤ 9223372036854775807) (hln : ∀ i, i < n → ln i ≤ 9223372036854775807) (hF : ∀ i, i < n → ∀ j, j < ln i → F i j < 65536) (hE : vE W H D A n ln F = 0) (hf : (decide (D = 10) && !A) = false) :
    Calls Tryd.prog 19 #[frv W H D A po n c] w fun e w' => e = .returned (.tuple #[.slice none 0 0, .int .i64 71]) ∧ Kept [] w w' := by
  have CV := Hid.mk (fun (u : World) (hk : Kept [] w u) => rvalid_any W H D A po n c ln F u (hr.keep hk) hn hln hF)
  have hs := (vE_zero.1 hE).shp
  have C13 : Hid (∀ u, Calls Tryd.prog 13 #[shv W H D A] u fun e w' => e = .returned (.tuple #[.int .i64 0, .int .i64 71]) ∧ Kept [] u w') := Hid.mk (fun u => (rv210Size_any W H D A u).mono (fun e w' => by
    rw [shE_ok hs, hf]
    rintro ⟨rfl, hk⟩
    exact ⟨rfl, hk⟩))
  have hB := heap_alloc_new w (.cells #[.int .i64 W, .int .i64 H, .int .i64 D, .bool A, .slice po n c] 31)
  have hk0 := alloc_kept w (.cells #[.int .i64 W, .int .i64 H, .int .i64 D, .bool A, .slice po n c] 31)
  rw [hE] at CV
  obtain ⟨wa, ewa⟩ : ∃ wa, wa = w.alloc (.cells #[.int .i64 W, .int .i64 H, .int .i64 D, .bool A, .slice po n c] 31) := ⟨_, rfl⟩
  rw [← ewa] at hB hk0
  obtain ⟨b, eb⟩ : ∃ b, b = w.heap.size := ⟨_, rfl⟩
  rw [← eb] at hB
  have HK := Hid.mk hk0
  have HB := Hid.mk hB
  obtain ⟨⟨p0, p1, p2, p3, p4⟩, _⟩ := five hB
  clear hB hk0 hr hF hln hn hE hf hs
  go_enter Tryd.func19, Tryd.ntmps19
  go_wp2_with (fail)
  rw [← ewa, ← eb]
  clear ewa eb
  refine (CV.out _ HK.out).mono ?_
  rintro e w1 ⟨rfl, hk1⟩
  have HK1 := Hid.mk (HK.out.trans hk1)
  have HB1 := Hid.mk (hk1.heap HB.out (by simp))
  clear p0 p1 p2 p3 p4
  obtain ⟨⟨p0, p1, p2, p3, p4⟩, _⟩ := five HB1.out
  clear hk1 CV
  go_wp2_with (go_at_call 13; refine (C13.out _).mono ?_; rintro e w2 ⟨rfl, hk2⟩)
  have HK2 := Hid.mk (HK1.out.trans hk2)
  go_ret2
  exact ⟨rfl, HK2.out⟩

/-- A slice from which a list is read. -/
def Rds (w : World) (V : Value) (l : List Nat) : Prop := ∃ ao cap, V = .slice ao l.length cap ∧ Bt.Reads w ao l
theorem Rds.keep {w w' : World} {V : Value} {l : List Nat} (h : Rds w V l) (hk : Kept [] w w') : Rds w' V l := by
  obtain ⟨ao, cap, e, hr⟩ := h
  exact ⟨ao, cap, e, hr.keep (kept_to hk)⟩
theorem Rds.str {w : World} {V : Value} {l : List Nat} (h : Rds w V l) : Sem.run Tryd.prog (convert 37 9 V) w = .ok (.string (Bt.bstr l)) w := by
  obtain ⟨ao, cap, rfl, hr⟩ := h
  exact Bt.reads_str' hr rfl cap
theorem rds_nil (w : World) : Rds w (.slice none 0 0) [] := ⟨none, 0, rfl, .inl (by simp)⟩
end Go.Proofs.YtodlkpcbkilglaaDoor

namespace Go.Proofs.YtodlkpcbkilglaaDoor
open Go.RowKit

theorem fl_nilS (n : Nat) : List.replicate n (Value.slice none 0 0) = fl (fun _ => .slice none 0 0) n := by
  apply List.ext_getElem?
  intro i
  by_cases h : i < n
  · rw [List.getElem?_replicate, if_pos h, fl_at _ _ _ h]
  · rw [List.getElem?_eq_none (by simp; omega), List.getElem?_eq_none (by simp [fl_length]; omega)]
/-- Making a list of lists, as long as may be. -/
theorem make_lists (r : Nat) (m : Int) (hm : m = (r : Int)) (hr : r ≤ 11728124029610) : ∃ mkW : World → World, (∀ w, Sem.run Tryd.prog (Instr.makeSlice 29 (.int .i64 m) (.int .i64 m)) w = .ok (.slice (some ⟨w.heap.size, 0, none⟩) r r) (mkW w)) ∧ ∀ w, (mkW w).heap[w.heap.size]? = some (.cells (fl (fun _ => .slice none 0 0) r).toArray 68 (0, 0)) ∧ Kept [] w (mkW w) := by
  subst hm
  obtain ⟨j0, gi, gz0, gz1, gz2⟩ := info_parts Tryd.infoR
  have h : ∀ w : World, ∃ w', Sem.run Tryd.prog (Instr.makeSlice 29 (.int .i64 (r : Int)) (.int .i64 (r : Int))) w = .ok (.slice (some ⟨w.heap.size, 0, none⟩) r r) w' ∧ w'.heap[w.heap.size]? = some (.cells (fl (fun _ => .slice none 0 0) r).toArray 68 (0, 0)) ∧ Kept [] w w' := fun w => by
    obtain ⟨w', hrun, r1, r2⟩ := run_make_full (P := Tryd.prog) w 0 29 68 j0 (.slice none 0 0) 1 Tryd.underlying29 gi gz0 gz1 .i64 .i64 r (by rw [gz2]; omega) (by unfold maxLen; omega) (by omega)
    have hr3 := row_heap r1 rfl
    rw [show (madeCells (Value.slice none 0 0).cells (r * 1)).toList = List.replicate r (.slice none 0 0) by rw [Nat.mul_one]; exact toList_madeCells_one _ _, fl_nilS] at hr3
    exact ⟨w', hrun, hr3, (Kept.of_grown r2).mono (by simp)⟩
  obtain ⟨mkW, hm⟩ := Classical.axiomOfChoice h
  exact ⟨mkW, fun w => (hm w).1, fun w => (hm w).2⟩

/-- What stands in samples that are lent. -/
def ltF (f : Nat → Nat) (n : Nat) : Nat → Nat := fun j => if j < n then f j else 60001
theorem fl_append (f g : Nat → Value) (n m : Nat) : fl f n ++ fl g m = fl (fun i => if i < n then f i else g (i - n)) (n + m) := by
  apply List.ext_getElem?
  intro i
  by_cases h : i < n
  · rw [List.getElem?_append_left (by rw [fl_length]; exact h), fl_at _ _ _ h, fl_at _ _ _ (by omega), if_pos h]
  · rw [List.getElem?_append_right (by rw [fl_length]; omega), fl_length]
    by_cases h2 : i < n + m
    · rw [fl_at _ _ _ (by omega), fl_at _ _ _ h2, if_neg h]
    · rw [List.getElem?_eq_none (by rw [fl_length]; omega), List.getElem?_eq_none (by rw [fl_length]; omega)]
theorem fl_drop (f : Nat → Value) (n m : Nat) (h : m ≤ n) : (fl f n).drop m = fl (fun i => f (m + i)) (n - m) := by
  apply List.ext_getElem?
  intro i
  rw [List.getElem?_drop]
  by_cases h2 : m + i < n
  · rw [fl_at _ _ _ h2, fl_at _ _ _ (by omega)]
  · rw [List.getElem?_eq_none (by rw [fl_length]; omega), List.getElem?_eq_none (by rw [fl_length]; omega)]

set_option maxHeartbeats 4000000 in
set_option maxRecDepth 1000000 in
theorem lent16_any (ao : Option Addr) (n c : Nat) (f : Nat → Nat) (w : World) (hr : Rd w ao n f) (hn : n ≤ 100000000) :
    Calls Tryd.prog 41 #[.slice ao n c] w fun e w' => e = .returned (.slice (some ⟨w.heap.size, 0, none⟩) n (n + 70)) ∧ Row w' w.heap.size (n + 70) (ltF f n) ∧ Kept [] w w' := by
  obtain ⟨mkW, hmk, hmw⟩ := make_row (n + 70) ((n : Int) + 70) (by omega) (by omega)
  have m1 := hmw w
  have hcp : ∃ w2, Sem.run Tryd.prog (Builtin.copy_ #[68, 68] 3 #[.slice (some ⟨w.heap.size, 0, none⟩) (n + 70) (n + 70), .slice ao n c]) (mkW w) = .ok (goInt n) w2 ∧ Row w2 w.heap.size (n + 70) (fun j => if j < n then f j else 0) ∧ Kept [w.heap.size] (mkW w) w2 := by
    obtain ⟨w2, h1, h2, h3⟩ := copy_run (mkW w) w.heap.size (n + 70) (n + 70) ao n c (fl (vU fun _ => 0) (n + 70)) (fl (vU f) n) m1.1 (fl_length _ _) (fl_length _ _) (by omega) (fun hp => by
      rcases hr.keep m1.2 with h | ⟨g, off, e, hc⟩
      · omega
      · refine ⟨_, e, fun j u hu => ?_⟩
        by_cases hj : j < n
        · rw [fl_at _ _ _ hj] at hu
          cases hu
          rw [show (⟨g, off, none⟩ : Addr).add j = ⟨g, off + j, none⟩ by unfold Addr.add; split <;> simp_all]
          exact hc j hj
        · rw [List.getElem?_eq_none (by rw [fl_length]; omega)] at hu
          cases hu) (fun v hv => by
      simp only [fl, vU, List.mem_map] at hv
      obtain ⟨i, _, rfl⟩ := hv
      rfl)
    refine ⟨w2, h1, ?_, h3⟩
    rw [fl_drop _ _ _ (by omega), fl_append, show n + (n + 70 - n) = n + 70 by omega] at h2
    unfold Row
    rw [h2]
    congr 3
    apply fl_congr
    intro j hj
    show (if j < n then Value.int .u16 (f j : Int) else Value.int .u16 ((0 : Nat) : Int)) = Value.int .u16 ((if j < n then f j else 0 : Nat) : Int)
    split <;> rfl
  obtain ⟨w2, hcp, hr2, hk2⟩ := hcp
  have K2 : Hid (Kept [] w w2) := Hid.mk (m1.2.step hk2 (fun x hx => by simp at hx; subst hx; exact .inr (Nat.le_refl _)))
  have R2 : Hid (Row w2 w.heap.size (n + 70) (fun j => if j < n then f j else if j < n then 60001 else 0)) := Hid.mk (hr2.congr (fun j _ => by split <;> simp_all))
  obtain ⟨w1, ew1⟩ : ∃ w1, w1 = mkW w := ⟨_, rfl⟩
  have hmk1 := hmk w
  rw [← ew1] at hcp hmk1
  obtain ⟨B, eB⟩ : ∃ B, B = w.heap.size := ⟨_, rfl⟩
  have HB := Hid.mk eB
  rw [← eB] at hcp hmk1 R2 ⊢
  clear hmw m1 hmk ew1 hr hr2 hk2 eB
  go_enter Tryd.func41, Tryd.ntmps41
  go_wp2
  go_loopw [4] (fun i wr => ∃ k : Nat, n ≤ k ∧ k ≤ n + 70 ∧ i = .int .i64 (k : Int) ∧ Row wr B (n + 70) (fun j => if j < n then f j else if j < k then 60001 else 0) ∧ Kept [] w wr) (fun i _ => n + 70 - (intOf i).toNat)
  case atStart => exact ⟨n, by omega, by omega, rfl, R2.out, K2.out⟩
  case round =>
    obtain ⟨k, hk1, hk2, rfl, hrow, hkr⟩ := hrel
    by_cases hlt : k < n + 70
    · have hc := hrow.at hlt
      have hfz := hrow.fz k
      have ix : (k : Int) < (n : Int) + 70 := by omega
      have HR := Hid.mk (hrow.set (i := k) (v := 60001) hlt)
      have HK := Hid.mk (hkr.setCell (p := ⟨B, k, none⟩) (.inr (by rw [HB.out]; exact Nat.le_refl _)) (.int .u16 60001))
      clear hrow hkr
      go_wp2
      refine ⟨⟨k + 1, by omega, by omega, by go_num, ?_, HK.out⟩, by simp [intOf]; omega⟩
      refine HR.out.congr (fun j hj => ?_)
      by_cases e : j = k
      · subst e; simp only [if_true]; rw [if_neg (by omega), if_pos (by omega)]
      · simp only [if_neg e]
        by_cases h2 : j < n
        · rw [if_pos h2, if_pos h2]
        · rw [if_neg h2, if_neg h2]
          by_cases h3 : j < k
          · rw [if_pos h3, if_pos (by omega)]
          · rw [if_neg h3, if_neg (by omega)]
    · obtain rfl : n + 70 = k := by omega
      have HR := Hid.mk hrow
      have HK := Hid.mk hkr
      clear hrow hkr
      go_wp2
      go_ret
      refine ⟨rfl, HR.out.congr (fun j hj => ?_), HK.out⟩
      unfold ltF
      by_cases h2 : j < n
      · rw [if_pos h2, if_pos h2]
      · rw [if_neg h2, if_neg h2, if_pos hj]

/-- What is written over: as far as k. -/
def bkF (f : Nat → Nat) (k : Nat) : Nat → Nat := fun j => if j < k then f j ^^^ 85 else f j
theorem x85_lt {x : Nat} (h : x < 65536) : x ^^^ 85 < 65536 := Nat.xor_lt_two_pow (n := 16) h (by decide)
theorem ltF_lt {f : Nat → Nat} {n : Nat} (h : ∀ j, j < n → f j < 65536) (j : Nat) : ltF f n j < 65536 := by
  unfold ltF
  split
  · exact h j (by assumption)
  · decide

set_option maxHeartbeats 4000000 in
set_option maxRecDepth 1000000 in
theorem back16_any (g : Nat) (ao : Option Addr) (n c : Nat) (f : Nat → Nat) (w : World) (hg : Row w g (n + 70) (ltF f n)) (hr : Rd w ao n f) (hf : ∀ j, j < n → f j < 65536) (hne : 0 < n → ∀ b off, ao = some ⟨b, off, none⟩ → b ≠ g) (hn : n ≤ 100000000) :
    Calls Tryd.prog 47 #[.slice (some ⟨g, 0, none⟩) n (n + 70), .slice ao n c] w fun e w' => e = .returned (.bool true) ∧ Row w' g (n + 70) (fun j => ltF f n j ^^^ 85) ∧ Kept [g] w w' := by
  have HG := Hid.mk hg
  have HR := Hid.mk hr
  have HF := Hid.mk (ltF_lt hf)
  have HNE := Hid.mk hne
  clear hg hr hf hne
  go_enter Tryd.func47, Tryd.ntmps47
  go_wp2
  go_loopw [6, 7] (fun s i wr => ∃ k : Nat, k ≤ n + 70 ∧ s = .bool true ∧ i = .int .i64 (k : Int) ∧ Row wr g (n + 70) (bkF (ltF f n) k) ∧ Kept [g] w wr) (fun _ i _ => n + 70 - (intOf i).toNat)
  case atStart => exact ⟨0, by omega, rfl, rfl, HG.out.congr (fun j _ => by unfold bkF; rw [if_neg (by omega)]), Kept.refl _ _⟩
  case round =>
    obtain ⟨k, hk, rfl, rfl, hrow, hkr⟩ := hrel
    by_cases hlt : k < n + 70
    · have hc := hrow.at hlt
      have hfz := hrow.fz k
      have ix : (k : Int) < (n : Int) + 70 := by omega
      rw [show bkF (ltF f n) k k = ltF f n k by unfold bkF; rw [if_neg (by omega)]] at hc
      have hx := HF.out k
      have e1 : bkF (ltF f n) k k = ltF f n k := by unfold bkF; rw [if_neg (by omega)]
      obtain ⟨x, ex⟩ : ∃ x, ltF f n k = x := ⟨_, rfl⟩
      obtain ⟨z, ez⟩ : ∃ z, x ^^^ 85 = z := ⟨_, rfl⟩
      rw [ex] at hc hx
      have hb : bits BinOp.xor IntKind.u16 (x : Int) 85 = (z : Int) := by rw [← ez]; exact u16_xor_nat x 85 hx (by decide)
      have HS : Hid (Row (wr.setCell ⟨g, k, none⟩ (.int .u16 (z : Int))) g (n + 70) (bkF (ltF f n) (k + 1))) := Hid.mk ((hrow.set (i := k) (v := z) hlt).congr (fun j hj => by
        unfold bkF
        by_cases e : j = k
        · subst e; rw [if_pos rfl, if_pos (by omega), ex, ez]
        · rw [if_neg e]
          by_cases h2 : j < k
          · rw [if_pos h2, if_pos (by omega)]
          · rw [if_neg h2, if_neg (by omega)]))
      have HK := Hid.mk (hkr.setCell (p := ⟨g, k, none⟩) (by simp) (.int .u16 (z : Int)))
      by_cases hin : k < n
      · have hin2 : (k : Int) < (n : Int) := by omega
        obtain ⟨b, off, rfl, hcb⟩ := (HR.out.kept hkr (fun b off e => by simpa using HNE.out (by omega) b off e)).at hin
        rw [show f k = x by rw [← ex]; unfold ltF; rw [if_pos hin]] at hcb
        clear hrow hkr e1 ex ez
        go_wp2
        go_roundw
        case rel => exact ⟨k + 1, by omega, by simp, by go_num, HS.out, HK.out⟩
        case measure => simp [intOf]; omega
      · have hx1 : x = 60001 := by rw [← ex]; unfold ltF; rw [if_neg hin]
        subst hx1
        have hb2 : bits BinOp.xor IntKind.u16 60001 85 = (z : Int) := hb
        clear hrow hkr e1 ex ez hb
        go_wp2
        go_roundw
        case rel => exact ⟨k + 1, by omega, by simp, by go_num, HS.out, HK.out⟩
        case measure => simp [intOf]; omega
    · obtain rfl : k = n + 70 := by omega
      have HR := Hid.mk hrow
      have HK := Hid.mk hkr
      clear hrow hkr
      go_wp2
      go_ret
      exact ⟨rfl, HR.out.congr (fun j hj => by unfold bkF; rw [if_pos hj]), HK.out⟩
end Go.Proofs.YtodlkpcbkilglaaDoor
