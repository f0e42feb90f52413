import Derived.Test.YtmgfapooanpgfaaPe
import Derived.Test.YtmgfapooanpgfaaCa
namespace Go.Proofs.Ytmgfapooanpgfaa
open Go.RowKit

/-- What rows that are cut out of one list hold. -/
def Cn (Z : Nat → Nat) (ln : Nat → Nat) (N : Nat) (X : Nat → Nat → Nat) : Prop := ∀ i, i < N → ∀ x, x < ln i → Z (ofs ln i + x) = X i x
theorem Cn.add {Z : Nat → Nat} {ln : Nat → Nat} {N k M : Nat} {X : Nat → Nat → Nat} {f : Nat → Nat} {L : Nat → List Nat} (h : Cn Z ln N X) : Cn (asm Z (po ln k) (ln k) M f L) ln N (fun i x => if i = k then X k x ^^^ sm (fun j => mu (f j) ((L j).getD x 0)) M else X i x) := by
  intro i hi x hx
  by_cases e : i = k
  · subst e
    have hp : po ln i = ofs ln i := if_neg (by omega)
    simp only [asm, hp, if_true]
    rw [if_pos (by omega), h i hi x hx, Nat.add_sub_cancel_left]
  · simp only [if_neg e]
    rw [asm_out, h i hi x hx]
    unfold po
    by_cases h0 : ln k = 0
    · rw [if_pos h0]; omega
    · rw [if_neg h0]
      rcases Nat.lt_or_gt_of_ne e with h1 | h1
      · have := ofs_mono ln h1; omega
      · have := ofs_mono ln h1; omega
theorem Cn.congr {Z : Nat → Nat} {ln : Nat → Nat} {N : Nat} {X Y : Nat → Nat → Nat} (h : Cn Z ln N X) (e : ∀ i, i < N → ∀ x, x < ln i → X i x = Y i x) : Cn Z ln N Y := fun i hi x hx => (h i hi x hx).trans (e i hi x hx)
theorem Cn.zero (ln : Nat → Nat) (N : Nat) : Cn (fun _ => 0) ln N (fun _ _ => 0) := fun _ _ _ _ => rfl
theorem Ct.upd {w w' : World} {g L N : Nat} {ln Z Z' : Nat → Nat} (h : Ct w g L N ln Z) (hr : Row w' L (rg Z' (ofs ln N))) (hk : Kept [L] w w') : Ct w' g L N ln Z' := ⟨h.out.keep hk (by simpa using h.ne), hr, h.ne⟩

set_option maxHeartbeats 4000000 in
set_option maxRecDepth 1000000 in
theorem pcauchy_any (p n : Nat) (hp : p ≤ 16) (hn : n ≤ 200) (w : World) :
    Calls Try.prog 29 #[.int .i64 (p : Int), .int .i64 (n : Int)] w fun e w' => ∃ g, e = .returned (.slice (some ⟨g, 0, none⟩) p p) ∧ w.heap.size ≤ g ∧ (∀ i, i < p → ∃ fo c, w'.cell? ⟨g, i, none⟩ = some (.slice fo n c) ∧ Reads w' fo (rg (cf i) n) ∧ (0 < n → ∀ b off, fo = some ⟨b, off, none⟩ → w.heap.size ≤ b)) ∧ Kept [] w w' := by
  obtain ⟨j0, gi, gz0, gz1, gz2⟩ := info_parts Try.infoR
  by_cases h0 : p = 0 ∨ n = 0
  · have hb : (((p : Int) == 0) || ((n : Int) == 0)) = true := by simp; omega
    have HH : Hid (∀ w2, w2.ownsRow 0 40 1 (.slice (some ⟨w.heap.size, 0, none⟩) p p) p (madeCells (Value.slice none 0 0).cells (p * 1)).toList → ∀ i, i < p → ∃ fo c, w2.cell? ⟨w.heap.size, i, none⟩ = some (.slice fo n c) ∧ Reads w2 fo (rg (cf i) n) ∧ (0 < n → ∀ b off, fo = some ⟨b, off, none⟩ → w.heap.size ≤ b)) := Hid.mk (by
      intro w2 ho2 i hi
      obtain rfl : n = 0 := by omega
      have hr3 := row_heap ho2 rfl
      rw [show (madeCells (Value.slice none 0 0).cells (p * 1)).toList = List.replicate p (.slice none 0 0) by rw [Nat.mul_one]; exact toList_madeCells_one _ _, fl_rep] at hr3
      have hv : Vr w2 w.heap.size 40 p (fun _ => .slice none 0 0) := hr3
      exact ⟨none, 0, hv.at hi, .inl rfl, fun h => by omega⟩)
    by_cases hp0 : p = 0
    · subst hp0
      clear hb h0
      go_enter Try.func29, Try.ntmps29
      go_wp2_with (at_make; refine wpList_make_full _ rfl _ _ 34 rfl 0 40 j0 (.slice none 0 0) 1 Try.underlying34 gi gz0 gz1 _ _ _ _ 0 rfl rfl (by omega) (by omega) (by rw [gz2]; omega) (by unfold maxLen; omega) (by omega) ?_; intro w3 ho3 hg3)
      go_ret
      exact ⟨_, rfl, Nat.le_refl _, HH.out _ ho3, (Kept.of_grown hg3).mono (by simp)⟩
    · obtain rfl : n = 0 := by omega
      have hp1 : ((p : Int) == 0) = false := by simp; omega
      clear hb h0
      go_enter Try.func29, Try.ntmps29
      go_wp2_with (at_make; refine wpList_make_full _ rfl _ _ 34 rfl 0 40 j0 (.slice none 0 0) 1 Try.underlying34 gi gz0 gz1 _ _ _ _ p rfl rfl (by omega) (by omega) (by rw [gz2]; omega) (by unfold maxLen; omega) (by omega) ?_; intro w3 ho3 hg3)
      go_ret
      exact ⟨_, rfl, Nat.le_refl _, HH.out _ ho3, (Kept.of_grown hg3).mono (by simp)⟩
  · have hp1 : ((p : Int) == 0) = false := by simp; omega
    have hn1 : ((n : Int) == 0) = false := by simp; omega
    have C := Hid.mk (cauchy_ok p n w (by omega) (by omega) (by omega))
    clear gi gz0 gz1 gz2
    go_enter Try.func29, Try.ntmps29
    go_wp2_with (go_at_call 16; refine C.out.mono ?_; rintro e w1 ⟨g, bs, rfl, hM, hg, hbs, hk⟩)
    go_ret
    refine ⟨g, rfl, hg, fun i hi => ⟨_, _, hM.out i hi, (hM.row i hi).reads, fun _ b off e => ?_⟩, hk⟩
    cases e
    exact hbs i hi
end Go.Proofs.Ytmgfapooanpgfaa
