import Derived.Test.YthihennifigchaaYc
import Derived.Test.YthihennifigchaaA8
namespace Go.Proofs.Ythihennifigchaa
open Go.RowKit

/-- Cut's error. -/
def ctE (W H D X Y rw rh : Int) (A : Bool) (n : Nat) (ln : Nat → Nat) (F : Nat → Nat → Nat) : Int := if vE W H D A n ln F = 0 then (if whl W H X Y rw rh = true then 0 else 65) else vE W H D A n ln F

set_option maxHeartbeats 8000000 in
set_option maxRecDepth 1000000 in
theorem cut_no (W H D X Y rw rh : Int) (A : Bool) (po : Option Addr) (n c : Nat) (ln : Nat → Nat) (F : Nat → Nat → Nat) (w : World) (hr : Pc w po n ln F) (hn : n ≤ 9223372036854775807) (hln : ∀ i, i < n → ln i ≤ 9223372036854775807) (hX : -9223372036854775808 ≤ X ∧ X ≤ 9223372036854775807) (hY : -9223372036854775808 ≤ Y ∧ Y ≤ 9223372036854775807) (hE : ctE W H D X Y rw rh A n ln F ≠ 0) :
    Calls Try.prog 36 #[frv W H D A po n c, rcv X Y rw rh] w fun e w' => e = .returned (.tuple #[frv 0 0 0 false none 0 0, .int .i64 (ctE W H D X Y rw rh A n ln F)]) ∧ Kept [] w w' := by
  have CV := Hid.mk (fun u (hk : Kept [] w u) => valid_any W H D A po n c ln F u (hr.keep hk).pl hn hln)
  have N := ent3 w (.int .i64 W) (.int .i64 H) (.int .i64 D) (.bool A) (.slice po n c) (.int .i64 X) (.int .i64 Y) (.int .i64 rw) (.int .i64 rh) (.int .i64 0) (.int .i64 0) (.int .i64 0) (.bool false) (.slice none 0 0) 38 51 38
  obtain ⟨w1, ew1⟩ : ∃ w1, w1 = ((w.alloc (.cells #[.int .i64 W, .int .i64 H, .int .i64 D, .bool A, .slice po n c] 38 (0, 0))).alloc (.cells #[.int .i64 X, .int .i64 Y, .int .i64 rw, .int .i64 rh] 51 (0, 0))).alloc (.cells #[.int .i64 0, .int .i64 0, .int .i64 0, .bool false, .slice none 0 0] 38 (0, 0)) := ⟨_, rfl⟩
  rw [← ew1] at N
  have HN := Hid.mk N
  have EW := Hid.mk ew1
  obtain ⟨E, eE⟩ : ∃ E, vE W H D A n ln F = E := ⟨_, rfl⟩
  by_cases h0 : E = 0
  · have hv : Vld W H D A n ln F := vE_zero.1 (eE.trans h0)
    have hw : whl W H X Y rw rh = false := by
      cases hz : whl W H X Y rw rh with
      | false => rfl
      | true => exact absurd (by unfold ctE; rw [eE, if_pos h0, if_pos hz]) hE
    have eC : ctE W H D X Y rw rh A n ln F = 65 := by unfold ctE; rw [eE, if_pos h0, hw]; rfl
    rw [eC]
    subst h0
    rw [eE] at CV
    have CW := Hid.mk (fun u => whole_any W H D X Y rw rh A u hX hY hv.shp.1 hv.shp.2.1)
    rw [hw] at CW
    clear N ew1 hr hv hw hE eC hX hY hn hln eE
    go_enter Try.func36, Try.ntmps36
    go_wp2_with (first | (go_at_call 22; rw [← EW.out]; refine (CV.out _ HN.out.2.2.2).mono ?_; rintro e w2 ⟨rfl, hk2⟩; obtain ⟨⟨c0, c1, c2, c3, c4⟩, _⟩ := five (hk2.heap HN.out.1 (by simp)); obtain ⟨⟨r0, r1, r2, r3⟩, _⟩ := four (hk2.heap HN.out.2.1 (by simp))) | (go_at_call 55; refine (CW.out _).mono ?_; rintro e w3 ⟨rfl, hk3⟩; have HR3 := Hid.mk ((hk2.trans hk3).heap HN.out.2.2.1 (by simp)); obtain ⟨⟨z0, z1, z2, z3, z4⟩, f0, f1, f2, f3, f4⟩ := five HR3.out))
    have s5 := set5 (.int .i64 0) (.int .i64 0) (.int .i64 0) (.bool false) (.slice none 0 0) HR3.out
    refine bodyPost_ret (v := .tuple #[frv 0 0 0 false none 0 0, .int .i64 65]) ?_ rfl ⟨rfl, ?_⟩
    · exact results_two rfl _ _ (w.heap.size + 1 + 1) 38 _ (0, 0) _ _ rfl s5.1 Try.underlying38 Try.info38 rfl
    · exact (HN.out.2.2.2.trans (hk2.trans hk3)).step s5.2 (fun x hx => by simp at hx; subst hx; exact .inr (by omega))
  · have eC : ctE W H D X Y rw rh A n ln F = E := by unfold ctE; rw [eE, if_neg h0]
    rw [eC]
    rw [eE] at CV
    have hne : (E != 0) = true := by simpa using h0
    clear N ew1 hr hE eC hX hY hn hln eE
    go_enter Try.func36, Try.ntmps36
    go_wp2_with (first | (go_at_call 22; rw [← EW.out]; refine (CV.out _ HN.out.2.2.2).mono ?_; rintro e w2 ⟨rfl, hk2⟩; have HR3 := Hid.mk (hk2.heap HN.out.2.2.1 (by simp)); obtain ⟨⟨z0, z1, z2, z3, z4⟩, f0, f1, f2, f3, f4⟩ := five HR3.out))
    have s5 := set5 (.int .i64 0) (.int .i64 0) (.int .i64 0) (.bool false) (.slice none 0 0) HR3.out
    refine bodyPost_ret (v := .tuple #[frv 0 0 0 false none 0 0, .int .i64 E]) ?_ rfl ⟨rfl, ?_⟩
    · exact results_two rfl _ _ (w.heap.size + 1 + 1) 38 _ (0, 0) _ _ rfl s5.1 Try.underlying38 Try.info38 rfl
    · exact (HN.out.2.2.2.trans hk2).step s5.2 (fun x hx => by simp at hx; subst hx; exact .inr (by omega))

set_option maxHeartbeats 8000000 in
set_option maxRecDepth 1000000 in
theorem rcut_no (W H D X Y rw rh : Int) (A : Bool) (po : Option Addr) (n c : Nat) (ln : Nat → Nat) (F : Nat → Nat → Nat) (w : World) (hr : Pc w po n ln F) (hn : n ≤ 9223372036854775807) (hln : ∀ i, i < n → ln i ≤ 9223372036854775807) (hF : ∀ i, i < n → ∀ j, j < ln i → F i j < 65536) (hX : -9223372036854775808 ≤ X ∧ X ≤ 9223372036854775807) (hY : -9223372036854775808 ≤ Y ∧ Y ≤ 9223372036854775807) (hE : ctE W H D X Y rw rh A n ln F ≠ 0) :
    Calls Try.prog 37 #[frv W H D A po n c, rcv X Y rw rh] w fun e w' => e = .returned (.tuple #[frv 0 0 0 false none 0 0, .int .i64 (ctE W H D X Y rw rh A n ln F)]) ∧ Kept [] w w' := by
  have CV := Hid.mk (fun u (hk : Kept [] w u) => rvalid_any W H D A po n c ln F u (hr.keep hk).pl hn hln hF)
  have N := ent3 w (.int .i64 W) (.int .i64 H) (.int .i64 D) (.bool A) (.slice po n c) (.int .i64 X) (.int .i64 Y) (.int .i64 rw) (.int .i64 rh) (.int .i64 0) (.int .i64 0) (.int .i64 0) (.bool false) (.slice none 0 0) 38 51 38
  obtain ⟨w1, ew1⟩ : ∃ w1, w1 = ((w.alloc (.cells #[.int .i64 W, .int .i64 H, .int .i64 D, .bool A, .slice po n c] 38 (0, 0))).alloc (.cells #[.int .i64 X, .int .i64 Y, .int .i64 rw, .int .i64 rh] 51 (0, 0))).alloc (.cells #[.int .i64 0, .int .i64 0, .int .i64 0, .bool false, .slice none 0 0] 38 (0, 0)) := ⟨_, rfl⟩
  rw [← ew1] at N
  have HN := Hid.mk N
  have EW := Hid.mk ew1
  obtain ⟨E, eE⟩ : ∃ E, vE W H D A n ln F = E := ⟨_, rfl⟩
  by_cases h0 : E = 0
  · have hv : Vld W H D A n ln F := vE_zero.1 (eE.trans h0)
    have hw : whl W H X Y rw rh = false := by
      cases hz : whl W H X Y rw rh with
      | false => rfl
      | true => exact absurd (by unfold ctE; rw [eE, if_pos h0, if_pos hz]) hE
    have eC : ctE W H D X Y rw rh A n ln F = 65 := by unfold ctE; rw [eE, if_pos h0, hw]; rfl
    rw [eC]
    subst h0
    rw [eE] at CV
    have CW := Hid.mk (fun u => rwhole_any W H D X Y rw rh A u hX hY hv.shp.1 hv.shp.2.1)
    rw [hw] at CW
    clear N ew1 hr hv hw hE eC hX hY hn hln hF eE
    go_enter Try.func37, Try.ntmps37
    go_wp2_with (first | (go_at_call 24; rw [← EW.out]; refine (CV.out _ HN.out.2.2.2).mono ?_; rintro e w2 ⟨rfl, hk2⟩; obtain ⟨⟨c0, c1, c2, c3, c4⟩, _⟩ := five (hk2.heap HN.out.1 (by simp)); obtain ⟨⟨r0, r1, r2, r3⟩, _⟩ := four (hk2.heap HN.out.2.1 (by simp))) | (go_at_call 57; refine (CW.out _).mono ?_; rintro e w3 ⟨rfl, hk3⟩; have HR3 := Hid.mk ((hk2.trans hk3).heap HN.out.2.2.1 (by simp)); obtain ⟨⟨z0, z1, z2, z3, z4⟩, f0, f1, f2, f3, f4⟩ := five HR3.out))
    have s5 := set5 (.int .i64 0) (.int .i64 0) (.int .i64 0) (.bool false) (.slice none 0 0) HR3.out
    refine bodyPost_ret (v := .tuple #[frv 0 0 0 false none 0 0, .int .i64 65]) ?_ rfl ⟨rfl, ?_⟩
    · exact results_two rfl _ _ (w.heap.size + 1 + 1) 38 _ (0, 0) _ _ rfl s5.1 Try.underlying38 Try.info38 rfl
    · exact (HN.out.2.2.2.trans (hk2.trans hk3)).step s5.2 (fun x hx => by simp at hx; subst hx; exact .inr (by omega))
  · have eC : ctE W H D X Y rw rh A n ln F = E := by unfold ctE; rw [eE, if_neg h0]
    rw [eC]
    rw [eE] at CV
    have hne : (E != 0) = true := by simpa using h0
    clear N ew1 hr hE eC hX hY hn hln hF eE
    go_enter Try.func37, Try.ntmps37
    go_wp2_with (first | (go_at_call 24; rw [← EW.out]; refine (CV.out _ HN.out.2.2.2).mono ?_; rintro e w2 ⟨rfl, hk2⟩; have HR3 := Hid.mk (hk2.heap HN.out.2.2.1 (by simp)); obtain ⟨⟨z0, z1, z2, z3, z4⟩, f0, f1, f2, f3, f4⟩ := five HR3.out))
    have s5 := set5 (.int .i64 0) (.int .i64 0) (.int .i64 0) (.bool false) (.slice none 0 0) HR3.out
    refine bodyPost_ret (v := .tuple #[frv 0 0 0 false none 0 0, .int .i64 E]) ?_ rfl ⟨rfl, ?_⟩
    · exact results_two rfl _ _ (w.heap.size + 1 + 1) 38 _ (0, 0) _ _ rfl s5.1 Try.underlying38 Try.info38 rfl
    · exact (HN.out.2.2.2.trans hk2).step s5.2 (fun x hx => by simp at hx; subst hx; exact .inr (by omega))
end Go.Proofs.Ythihennifigchaa
