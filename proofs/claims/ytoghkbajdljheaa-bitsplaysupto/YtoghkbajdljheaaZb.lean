import Derived.Test.YtoghkbajdljheaaZa
namespace Go.Proofs.Ytoghkbajdljheaa
open Go.RowKit

theorem step_any (W w : World) (A : Nat) (s : St) (m : Nat) (X : Nat → Rsc) (c : Nat) (kd on n v : Int) (ao : Option Addr) (mm cap : Nat) (l : List Nat) (h : Stt W w A s m X) (ok : Ok s c) (hc : c ≤ 200000)
    (o0 : -9223372036854775808 ≤ on) (o1 : on ≤ 9223372036854775807) (v0 : 0 ≤ v) (v1 : v < 4294967296) (hr : Reads W ao l) (hb : Byts l) (hm : l.length = mm) (hl : mm ≤ 10000000) :
    Calls Try.prog 13 #[.pointer (some ⟨A, 0, none⟩), .agg (opc kd on n v ao mm cap)] w fun e w' => e = .returned (.bool true) ∧ ∃ s', Stt W w' A s' m X ∧ Ok s' (c + 1) := by
  by_cases h1 : 1 ≤ kd ∧ kd ≤ 5
  · exact step_do W w A s m X c kd on n v ao mm cap l h ok hc h1.1 h1.2 o0 o1 v0 v1 hr hb hm hl
  · obtain ⟨k, hk, hp⟩ := step_pick on
    by_cases h2 : kd < 1 ∨ 9 < kd
    · rcases two_of hk with rfl | rfl
      · exact step_none0 W w A s m X c kd on n v ao mm cap h ok hp h2 o0 o1
      · exact step_none1 W w A s m X c kd on n v ao mm cap h ok hp h2 o0 o1
    · rcases (by omega : kd = 6 ∨ kd = 7 ∨ kd = 8 ∨ kd = 9) with rfl | rfl | rfl | rfl <;> rcases two_of hk with rfl | rfl
      · exact step_get0 W w A s m X c on n v ao mm cap h ok hp o0 o1
      · exact step_get1 W w A s m X c on n v ao mm cap h ok hp o0 o1
      · exact step_zeros0 W w A s m X c on n v ao mm cap h ok hp o0 o1
      · exact step_zeros1 W w A s m X c on n v ao mm cap h ok hp o0 o1
      · exact step_left0 W w A s m X c on n v ao mm cap h ok hp o0 o1
      · exact step_left1 W w A s m X c on n v ao mm cap h ok hp o0 o1
      · exact step_rest0 W w A s m X c on n v ao mm cap h ok hp o0 o1
      · exact step_rest1 W w A s m X c on n v ao mm cap h ok hp o0 o1

theorem Sep.perm {W w : World} {m k : Nat} {R : Nat → Rsc} (h : Sep W w m R) (f : Nat → Nat) (hf : ∀ i, i < k → f i < m) (hi : ∀ i j, i < k → j < k → i ≠ j → f i ≠ f j) : Sep W w k (fun i => R (f i)) :=
  ⟨h.old, fun i hk => h.P (f i) (hf i hk), fun i hk => h.new (f i) (hf i hk), fun i j hik hjk hij => h.apart (f i) (f j) (hf i hik) (hf j hjk) (hi i j hik hjk hij)⟩

/-- Ten cells. -/
def c10 (c : Nat → Value) : Array Value := #[c 0, c 1, c 2, c 3, c 4, c 5, c 6, c 7, c 8, c 9]

theorem ten_of {i : Nat} (h : i < 10) : i = 0 ∨ i = 1 ∨ i = 2 ∨ i = 3 ∨ i = 4 ∨ i = 5 ∨ i = 6 ∨ i = 7 ∨ i = 8 ∨ i = 9 := by omega

theorem c10_set (c : Nat → Value) (i : Nat) (hi : i < 10) (x : Value) : (c10 c).setIfInBounds i x = c10 (upd c i x) := by
  rcases ten_of hi with rfl | rfl | rfl | rfl | rfl | rfl | rfl | rfl | rfl | rfl <;> simp [c10, upd]

theorem c10_cell {w : World} {A : Nat} {c : Nat → Value} (h : w.heap[A]? = some (.cells (c10 c) 37 (0, 0))) (i : Nat) (hi : i < 10) : w.cell? ⟨A, i, none⟩ = some (c i) ∧ w.frozen? ⟨A, i, none⟩ = false := by
  rcases ten_of hi with rfl | rfl | rfl | rfl | rfl | rfl | rfl | rfl | rfl | rfl <;> · refine ⟨?_, ?_⟩ <;> simp [World.cell?, World.frozen?, h, c10]

/-- A pointer of the World is set, ahead of its being whole. -/
theorem Sep.set {W w : World} {m A : Nat} {R : Nat → Rsc} {c : Nat → Value} (h : Sep W w (m + 1) R) (h0 : R 0 = obj A (.cells (c10 c) 37 (0, 0))) (i : Nat) (hi : i < 10) (x : Value) :
    Sep W (w.setCell ⟨A, i, none⟩ x) (m + 1) (upd R 0 (obj A (.cells (c10 (upd c i x)) 37 (0, 0)))) := by
  have hb := h.P 0 (by omega)
  rw [h0] at hb
  refine h.step 0 (by omega) (heap_setKept w A i x) (by rw [h0]; simp [obj]) ?_ (by rw [h0]; simp [obj])
  show (w.setCell ⟨A, i, none⟩ x).heap[A]? = _
  rw [heap_setCell_at hb, c10_set c i hi]

set_option maxHeartbeats 4000000 in
set_option maxRecDepth 1000000 in
theorem reads_new0 (W w : World) (A m : Nat) (R : Nat → Rsc) (c : Nat → Value) (h : Sep W w (m + 1) R) (h0 : R 0 = obj A (.cells (c10 c) 37 (0, 0))) :
    Calls Try.prog 12 #[.pointer (some ⟨A, 0, none⟩), .int .i64 0, .slice none 0 0] w fun e w' => e = .returned (.bool true) ∧
      ∃ R' B g Y V, Sep W w' (m + 1 + 1 + 1 + 1) R' ∧ R' 0 = obj A (.cells (c10 (upd (upd c 4 (.pointer (some ⟨B, 0, none⟩))) 6 (.pointer (some ⟨Y, 0, none⟩)))) 37 (0, 0)) ∧ R' (m + 1 + 1) = rdr B g [] 0 ∧ R' (m + 1 + 1 + 1) = rfr Y V [] 0 ∧ ∀ i, 1 ≤ i → i ≤ m → R' i = R i := by
  have Hh := Hid.mk h
  have H0 := Hid.mk h0
  have hb0 : Byts [] := by simp [Byts]
  have Hb := Hid.mk hb0
  clear h h0 hb0
  go_enter Try.func12, Try.ntmps12
  go_wp2_with fail
  refine (lent_any none 0 0 [] _ (.inl rfl) rfl (by omega)).mono ?_
  rintro e w1 ⟨rfl, hc1, hk1⟩
  have HS1 := Hid.mk (Hh.out.push (r := obj w.heap.size _) hk1 hc1 (by simp [obj]))
  have hE1 : (upd R (m + 1) (obj w.heap.size (.cells (([] ++ List.replicate 70 167).map byt).toArray 5 (0, 0)))) 0 = obj A (.cells (c10 c) 37 (0, 0)) := by rw [upd_far _ _ _ _ (by omega)]; exact H0.out
  generalize w.heap.size = C at *
  generalize hR1 : upd R (m + 1) (obj C (.cells (([] ++ List.replicate 70 167).map byt).toArray 5 (0, 0))) = R1 at *
  have HE1 := Hid.mk hE1
  have HR1 := Hid.mk hR1
  have HC1 := Hid.mk hc1
  clear hc1 hk1 hE1 hR1
  go_wp2_with fail
  go_cut [] (fun w2 => ∃ B g, Sep W w2 (m + 1 + 1 + 1) (upd (upd R1 (m + 1 + 1) (rdr B g [] 0)) 0 (obj A (.cells (c10 (upd c 4 (.pointer (some ⟨B, 0, none⟩)))) 37 (0, 0)))))
  case first =>
    have hb1 := HS1.out.P 0 (by omega)
    rw [HE1.out] at hb1
    obtain ⟨x0, x1⟩ := c10_cell hb1 4 (by omega)
    have Hb1 := Hid.mk hb1
    clear hb1
    go_region_with (go_at_call 26; refine (newReader_any _ _ 0 [] _ ?_ Hb.out rfl (by omega)).mono ?_; exact row_front HC1.out; rintro e w2 ⟨B, g, rfl, hB, hg, hR, hk2⟩; have y0 := (c10_cell (hk2.undrew.heap Hb1.out (by simp)) 4 (by omega)).1; have y1 := (c10_cell (hk2.undrew.heap Hb1.out (by simp)) 4 (by omega)).2)
    all_goals go_wp2
    all_goals go_meet
    all_goals refine ⟨B, g, (HS1.out.push (r := rdr B g [] 0) hk2.undrew hR (fun x hx => ?_)).set (c := c) ?_ 4 (by omega) _⟩
    all_goals first | (rw [upd_far _ _ _ _ (by omega)]; exact HE1.out) | (have hx' : x ∈ [B, g] := hx; simp at hx'; rcases hx' with e | e <;> (subst e; assumption))
  case rest =>
    obtain ⟨B, g, hS2⟩ := hcut
    generalize hR2 : upd (upd R1 (m + 1 + 1) (rdr B g [] 0)) 0 (obj A (.cells (c10 (upd c 4 (.pointer (some ⟨B, 0, none⟩)))) 37 (0, 0))) = R2 at *
    have HS2 := Hid.mk hS2
    have hE2 : R2 0 = obj A (.cells (c10 (upd c 4 (.pointer (some ⟨B, 0, none⟩)))) 37 (0, 0)) := by rw [← hR2, upd_at]
    generalize hc2 : upd c 4 (.pointer (some ⟨B, 0, none⟩)) = c2 at *
    have HE2 := Hid.mk hE2
    have HR2 := Hid.mk hR2
    have Hc2 := Hid.mk hc2
    clear hS2 hE2 hR2 hc2 HS1 HC1
    go_wp2_with fail
    go_cut [] (fun w3 => ∃ Y V, Sep W w3 (m + 1 + 1 + 1 + 1) (upd (upd R2 (m + 1 + 1 + 1) (rfr Y V [] 0)) 0 (obj A (.cells (c10 (upd c2 6 (.pointer (some ⟨Y, 0, none⟩)))) 37 (0, 0)))))
    case first =>
      have hb2 := HS2.out.P 0 (by omega)
      rw [HE2.out] at hb2
      obtain ⟨x0, x1⟩ := c10_cell hb2 6 (by omega)
      have Hb2 := Hid.mk hb2
      clear hb2
      go_region_with (go_at_call 31; refine (refNewReader_any _ _ 0 [] _ ?_ Hb.out rfl (by omega)).mono ?_; exact .inl rfl; rintro e w3 ⟨rfl, V, hY, hL, hk3⟩; have y0 := (c10_cell (hk3.undrew.heap Hb2.out (by simp)) 6 (by omega)).1; have y1 := (c10_cell (hk3.undrew.heap Hb2.out (by simp)) 6 (by omega)).2)
      all_goals go_wp2
      all_goals go_meet
      all_goals refine ⟨_, V, (HS2.out.push (r := rfr _ V [] 0) hk3.undrew hY (fun x hx => ?_)).set (c := c2) ?_ 6 (by omega) _⟩
      all_goals first | (rw [upd_far _ _ _ _ (by omega)]; exact HE2.out) | (rcases List.mem_cons.1 hx with rfl | hx; exact Nat.le_refl _; rcases hL.mem x hx with h | h; simp [Value.ownBlock] at h; exact h)
    case rest =>
      obtain ⟨Y, V, hS3⟩ := hcut
      generalize hR3 : upd (upd R2 (m + 1 + 1 + 1) (rfr Y V [] 0)) 0 (obj A (.cells (c10 (upd c2 6 (.pointer (some ⟨Y, 0, none⟩)))) 37 (0, 0))) = R3 at *
      have HS3 := Hid.mk hS3
      have hX3 : R3 (m + 1) = obj C (.cells (([] ++ List.replicate 70 167).map byt).toArray 5 (0, 0)) := by
        rw [← hR3, upd_far _ _ _ _ (by omega), upd_far _ _ _ _ (by omega), ← HR2.out, upd_far _ _ _ _ (by omega), upd_far _ _ _ _ (by omega), ← HR1.out, upd_at]
      have hc3 := hS3.P (m + 1) (by omega)
      rw [hX3] at hc3
      have HC3 := Hid.mk hc3
      have HX3 := Hid.mk hX3
      have HR3 := Hid.mk hR3
      clear hS3 hc3 HS2 hR3 hX3
      go_wp2_with fail
      refine (back_call C none 0 0 [] _ (.inl rfl) Hb.out rfl (by omega) HC3.out (fun h => by omega)).mono ?_
      rintro e w4 ⟨rfl, hc4, hk4⟩
      have HS4 := Hid.mk (HS3.out.step (m + 1) (by omega) (r := obj C _) hk4 (by rw [HX3.out]; simp [obj]) hc4 (by rw [HX3.out]; simp [obj]))
      rw [List.map_append] at hc4
      have HC4 := Hid.mk hc4
      clear hc4 hk4 HS3 HC3
      go_wp2_with fail
      refine (reread_any _ _ 0 ([].map (· ^^^ 90)) _ (row_front HC4.out) (xor_byts [] Hb.out) rfl (by omega)).mono ?_
      rintro e w5 ⟨rfl, hk5⟩
      have HS5 := Hid.mk (HS4.out.keep hk5)
      have hb5 := HS5.out.P 0 (by omega)
      rw [upd_far _ _ _ _ (by omega), ← HR3.out, upd_at, ← Hc2.out] at hb5
      have x0 := (c10_cell hb5 4 (by omega)).1
      rw [upd_far _ _ _ _ (by omega), upd_at] at x0
      clear hk5 HS4 HC4 hb5
      go_wp2
      go_ret
      refine ⟨rfl, _, B, g, Y, V, HS5.out, ?_, ?_, ?_, fun i h1 h2 => ?_⟩
      · rw [upd_far _ _ _ _ (by omega), ← HR3.out, upd_at, ← Hc2.out]
      · rw [upd_far _ _ _ _ (by omega), ← HR3.out, upd_far _ _ _ _ (by omega), upd_far _ _ _ _ (by omega), ← HR2.out, upd_far _ _ _ _ (by omega), upd_at]
      · rw [upd_far _ _ _ _ (by omega), ← HR3.out, upd_far _ _ _ _ (by omega), upd_at]
      · rw [upd_far _ _ _ _ (by omega), ← HR3.out, upd_far _ _ _ _ (by omega), upd_far _ _ _ _ (by omega), ← HR2.out, upd_far _ _ _ _ (by omega), upd_far _ _ _ _ (by omega), ← HR1.out, upd_far _ _ _ _ (by omega)]

set_option maxHeartbeats 4000000 in
set_option maxRecDepth 1000000 in
theorem reads_new1 (W w : World) (A m : Nat) (R : Nat → Rsc) (c : Nat → Value) (h : Sep W w (m + 1) R) (h0 : R 0 = obj A (.cells (c10 c) 37 (0, 0))) :
    Calls Try.prog 12 #[.pointer (some ⟨A, 0, none⟩), .int .i64 1, .slice none 0 0] w fun e w' => e = .returned (.bool true) ∧
      ∃ R' B g Y V, Sep W w' (m + 1 + 1 + 1 + 1) R' ∧ R' 0 = obj A (.cells (c10 (upd (upd c 5 (.pointer (some ⟨B, 0, none⟩))) 7 (.pointer (some ⟨Y, 0, none⟩)))) 37 (0, 0)) ∧ R' (m + 1 + 1) = rdr B g [] 0 ∧ R' (m + 1 + 1 + 1) = rfr Y V [] 0 ∧ ∀ i, 1 ≤ i → i ≤ m → R' i = R i := by
  have Hh := Hid.mk h
  have H0 := Hid.mk h0
  have hb0 : Byts [] := by simp [Byts]
  have Hb := Hid.mk hb0
  clear h h0 hb0
  go_enter Try.func12, Try.ntmps12
  go_wp2_with fail
  refine (lent_any none 0 0 [] _ (.inl rfl) rfl (by omega)).mono ?_
  rintro e w1 ⟨rfl, hc1, hk1⟩
  have HS1 := Hid.mk (Hh.out.push (r := obj w.heap.size _) hk1 hc1 (by simp [obj]))
  have hE1 : (upd R (m + 1) (obj w.heap.size (.cells (([] ++ List.replicate 70 167).map byt).toArray 5 (0, 0)))) 0 = obj A (.cells (c10 c) 37 (0, 0)) := by rw [upd_far _ _ _ _ (by omega)]; exact H0.out
  generalize w.heap.size = C at *
  generalize hR1 : upd R (m + 1) (obj C (.cells (([] ++ List.replicate 70 167).map byt).toArray 5 (0, 0))) = R1 at *
  have HE1 := Hid.mk hE1
  have HR1 := Hid.mk hR1
  have HC1 := Hid.mk hc1
  clear hc1 hk1 hE1 hR1
  go_wp2_with fail
  go_cut [] (fun w2 => ∃ B g, Sep W w2 (m + 1 + 1 + 1) (upd (upd R1 (m + 1 + 1) (rdr B g [] 0)) 0 (obj A (.cells (c10 (upd c 5 (.pointer (some ⟨B, 0, none⟩)))) 37 (0, 0)))))
  case first =>
    have hb1 := HS1.out.P 0 (by omega)
    rw [HE1.out] at hb1
    obtain ⟨x0, x1⟩ := c10_cell hb1 5 (by omega)
    have Hb1 := Hid.mk hb1
    clear hb1
    go_region_with (go_at_call 26; refine (newReader_any _ _ 0 [] _ ?_ Hb.out rfl (by omega)).mono ?_; exact row_front HC1.out; rintro e w2 ⟨B, g, rfl, hB, hg, hR, hk2⟩; have y0 := (c10_cell (hk2.undrew.heap Hb1.out (by simp)) 5 (by omega)).1; have y1 := (c10_cell (hk2.undrew.heap Hb1.out (by simp)) 5 (by omega)).2)
    all_goals go_wp2
    all_goals go_meet
    all_goals refine ⟨B, g, (HS1.out.push (r := rdr B g [] 0) hk2.undrew hR (fun x hx => ?_)).set (c := c) ?_ 5 (by omega) _⟩
    all_goals first | (rw [upd_far _ _ _ _ (by omega)]; exact HE1.out) | (have hx' : x ∈ [B, g] := hx; simp at hx'; rcases hx' with e | e <;> (subst e; assumption))
  case rest =>
    obtain ⟨B, g, hS2⟩ := hcut
    generalize hR2 : upd (upd R1 (m + 1 + 1) (rdr B g [] 0)) 0 (obj A (.cells (c10 (upd c 5 (.pointer (some ⟨B, 0, none⟩)))) 37 (0, 0))) = R2 at *
    have HS2 := Hid.mk hS2
    have hE2 : R2 0 = obj A (.cells (c10 (upd c 5 (.pointer (some ⟨B, 0, none⟩)))) 37 (0, 0)) := by rw [← hR2, upd_at]
    generalize hc2 : upd c 5 (.pointer (some ⟨B, 0, none⟩)) = c2 at *
    have HE2 := Hid.mk hE2
    have HR2 := Hid.mk hR2
    have Hc2 := Hid.mk hc2
    clear hS2 hE2 hR2 hc2 HS1 HC1
    go_wp2_with fail
    go_cut [] (fun w3 => ∃ Y V, Sep W w3 (m + 1 + 1 + 1 + 1) (upd (upd R2 (m + 1 + 1 + 1) (rfr Y V [] 0)) 0 (obj A (.cells (c10 (upd c2 7 (.pointer (some ⟨Y, 0, none⟩)))) 37 (0, 0)))))
    case first =>
      have hb2 := HS2.out.P 0 (by omega)
      rw [HE2.out] at hb2
      obtain ⟨x0, x1⟩ := c10_cell hb2 7 (by omega)
      have Hb2 := Hid.mk hb2
      clear hb2
      go_region_with (go_at_call 31; refine (refNewReader_any _ _ 0 [] _ ?_ Hb.out rfl (by omega)).mono ?_; exact .inl rfl; rintro e w3 ⟨rfl, V, hY, hL, hk3⟩; have y0 := (c10_cell (hk3.undrew.heap Hb2.out (by simp)) 7 (by omega)).1; have y1 := (c10_cell (hk3.undrew.heap Hb2.out (by simp)) 7 (by omega)).2)
      all_goals go_wp2
      all_goals go_meet
      all_goals refine ⟨_, V, (HS2.out.push (r := rfr _ V [] 0) hk3.undrew hY (fun x hx => ?_)).set (c := c2) ?_ 7 (by omega) _⟩
      all_goals first | (rw [upd_far _ _ _ _ (by omega)]; exact HE2.out) | (rcases List.mem_cons.1 hx with rfl | hx; exact Nat.le_refl _; rcases hL.mem x hx with h | h; simp [Value.ownBlock] at h; exact h)
    case rest =>
      obtain ⟨Y, V, hS3⟩ := hcut
      generalize hR3 : upd (upd R2 (m + 1 + 1 + 1) (rfr Y V [] 0)) 0 (obj A (.cells (c10 (upd c2 7 (.pointer (some ⟨Y, 0, none⟩)))) 37 (0, 0))) = R3 at *
      have HS3 := Hid.mk hS3
      have hX3 : R3 (m + 1) = obj C (.cells (([] ++ List.replicate 70 167).map byt).toArray 5 (0, 0)) := by
        rw [← hR3, upd_far _ _ _ _ (by omega), upd_far _ _ _ _ (by omega), ← HR2.out, upd_far _ _ _ _ (by omega), upd_far _ _ _ _ (by omega), ← HR1.out, upd_at]
      have hc3 := hS3.P (m + 1) (by omega)
      rw [hX3] at hc3
      have HC3 := Hid.mk hc3
      have HX3 := Hid.mk hX3
      have HR3 := Hid.mk hR3
      clear hS3 hc3 HS2 hR3 hX3
      go_wp2_with fail
      refine (back_call C none 0 0 [] _ (.inl rfl) Hb.out rfl (by omega) HC3.out (fun h => by omega)).mono ?_
      rintro e w4 ⟨rfl, hc4, hk4⟩
      have HS4 := Hid.mk (HS3.out.step (m + 1) (by omega) (r := obj C _) hk4 (by rw [HX3.out]; simp [obj]) hc4 (by rw [HX3.out]; simp [obj]))
      rw [List.map_append] at hc4
      have HC4 := Hid.mk hc4
      clear hc4 hk4 HS3 HC3
      go_wp2_with fail
      refine (reread_any _ _ 0 ([].map (· ^^^ 90)) _ (row_front HC4.out) (xor_byts [] Hb.out) rfl (by omega)).mono ?_
      rintro e w5 ⟨rfl, hk5⟩
      have HS5 := Hid.mk (HS4.out.keep hk5)
      have hb5 := HS5.out.P 0 (by omega)
      rw [upd_far _ _ _ _ (by omega), ← HR3.out, upd_at, ← Hc2.out] at hb5
      have x0 := (c10_cell hb5 5 (by omega)).1
      rw [upd_far _ _ _ _ (by omega), upd_at] at x0
      clear hk5 HS4 HC4 hb5
      go_wp2
      go_ret
      refine ⟨rfl, _, B, g, Y, V, HS5.out, ?_, ?_, ?_, fun i h1 h2 => ?_⟩
      · rw [upd_far _ _ _ _ (by omega), ← HR3.out, upd_at, ← Hc2.out]
      · rw [upd_far _ _ _ _ (by omega), ← HR3.out, upd_far _ _ _ _ (by omega), upd_far _ _ _ _ (by omega), ← HR2.out, upd_far _ _ _ _ (by omega), upd_at]
      · rw [upd_far _ _ _ _ (by omega), ← HR3.out, upd_far _ _ _ _ (by omega), upd_at]
      · rw [upd_far _ _ _ _ (by omega), ← HR3.out, upd_far _ _ _ _ (by omega), upd_far _ _ _ _ (by omega), ← HR2.out, upd_far _ _ _ _ (by omega), upd_far _ _ _ _ (by omega), ← HR1.out, upd_far _ _ _ _ (by omega)]

end Go.Proofs.Ytoghkbajdljheaa
