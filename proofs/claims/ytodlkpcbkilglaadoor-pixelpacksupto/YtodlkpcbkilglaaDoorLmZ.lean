import Derived.Test.YtodlkpcbkilglaaDoorLk
import Derived.Test.YtodlkpcbkilglaaDoorAlZ
namespace Go.Proofs.YtodlkpcbkilglaaDoor
open Go.RowKit

/-- A lent list of planes that is written over as far as k. -/
structure LtB (w : World) (G n k : Nat) (ln gs : Nat → Nat) (F : Nat → Nat → Nat) : Prop where
  box : w.heap[G]? = some (.cells (fl (ltv n ln gs) (n + 3)).toArray 68 (0, 0))
  row : ∀ i, i < n + 3 → Row w (gs i) (ltN n ln i) (if i < k ∧ i < n then fun j => ltF (F i) (ln i) j ^^^ 85 else ltG n ln F i)
  lo : ∀ i, i < n + 3 → G < gs i
  mon : ∀ i j, i < j → j < n + 3 → gs i < gs j
theorem LtP.b {w : World} {G n : Nat} {ln gs : Nat → Nat} {F : Nat → Nat → Nat} (h : LtP w G n (n + 3) ln gs F) : LtB w G n 0 ln gs F :=
  ⟨by rw [h.box]; congr 3; exact fl_congr (fun j hj => by rw [if_pos hj]), fun i hi => by rw [if_neg (by omega)]; exact h.row i hi, h.lo, h.mon⟩
theorem LtB.keep {w w' : World} {G n k : Nat} {ln gs : Nat → Nat} {F : Nat → Nat → Nat} (h : LtB w G n k ln gs F) (hk : Kept [] w w') : LtB w' G n k ln gs F :=
  ⟨hk.heap h.box (by simp), fun i hi => (h.row i hi).keep hk (by simp), h.lo, h.mon⟩
theorem LtB.step {w w' : World} {G n k : Nat} {ln gs : Nat → Nat} {F : Nat → Nat → Nat} (h : LtB w G n k ln gs F) (hk : k < n) (hw : Kept [gs k] w w') (hr : Row w' (gs k) (ln k + 70) (fun j => ltF (F k) (ln k) j ^^^ 85)) : LtB w' G n (k + 1) ln gs F := by
  refine ⟨hw.heap h.box (by have := h.lo k (by omega); simp; omega), fun i hi => ?_, h.lo, h.mon⟩
  by_cases e : i = k
  · subst e
    rw [if_pos ⟨by omega, hk⟩]
    unfold ltN
    rw [if_pos hk]
    exact hr
  · have h1 := (h.row i hi).keep hw (by
      have h2 : gs i ≠ gs k := by
        rcases Nat.lt_or_gt_of_ne e with h2 | h2
        · have := h.mon i k h2 (by omega); omega
        · have := h.mon k i h2 hi; omega
      simpa using h2)
    by_cases h3 : i < k ∧ i < n
    · rw [if_pos h3] at h1; rw [if_pos ⟨by omega, h3.2⟩]; exact h1
    · rw [if_neg h3] at h1; rw [if_neg (by omega)]; exact h1
theorem LtB.skip {w : World} {G n k : Nat} {ln gs : Nat → Nat} {F : Nat → Nat → Nat} (h : LtB w G n k ln gs F) (hk : ¬ k < n) : LtB w G n (k + 1) ln gs F :=
  ⟨h.box, fun i hi => by
    have h1 := h.row i hi
    by_cases h3 : i < k ∧ i < n
    · rw [if_pos h3] at h1; rw [if_pos ⟨by omega, h3.2⟩]; exact h1
    · rw [if_neg h3] at h1; rw [if_neg (by omega)]; exact h1, h.lo, h.mon⟩
theorem LtB.cell {w : World} {G n k : Nat} {ln gs : Nat → Nat} {F : Nat → Nat → Nat} (h : LtB w G n k ln gs F) {i : Nat} (hi : i < n + 3) : w.cell? ⟨G, i, none⟩ = some (ltv n ln gs i) := by
  rw [cell_of_row _ _ _ _ _ _ h.box, List.getElem?_toArray, fl_at _ _ _ hi]

set_option maxHeartbeats 8000000 in
set_option maxRecDepth 1000000 in
theorem backFrame_any (W H D : Int) (A : Bool) (G : Nat) (gs : Nat → Nat) (po : Option Addr) (n c : Nat) (ln : Nat → Nat) (F : Nat → Nat → Nat) (w0 w : World) (hL : LtP w G n (n + 3) ln gs F) (hr : Pl w0 po n ln F) (hF : ∀ i, i < n → ∀ j, j < ln i → F i j < 65536) (hG : w0.heap.size ≤ G) (hK : Kept [] w0 w) (hn : n ≤ 1048576) (hln : ∀ i, i < n → ln i ≤ 1048576) :
    Calls Tryd.prog 22 #[frv W H D A (some ⟨G, 0, none⟩) n (n + 3), frv W H D A po n c] w fun e w' => e = .returned (.bool true) ∧ LtB w' G n n ln gs F ∧ Kept [] w0 w' ∧ (∀ x o, (∀ i, i < n + 3 → gs i ≠ x) → w.heap[x]? = some o → w'.heap[x]? = some o) := by
  have Hr := Hid.mk hr
  have HF := Hid.mk hF
  have Hln := Hid.mk hln
  have HB := Hid.mk hL.b
  have HGw := Hid.mk (lt_of_block hL.box)
  have HGS : Hid (∀ i, i < n + 3 → gs i < w.heap.size) := Hid.mk (fun i hi => (hL.row i hi).lt)
  have HG := Hid.mk hG
  obtain ⟨wa, ewa⟩ : ∃ wa, wa = (w.alloc (.cells #[.int .i64 W, .int .i64 H, .int .i64 D, .bool A, .slice (some ⟨G, 0, none⟩) n (n + 3)] 31)).alloc (.cells #[.int .i64 W, .int .i64 H, .int .i64 D, .bool A, .slice po n c] 31) := ⟨_, rfl⟩
  have P2 : wa.heap[w.heap.size]? = some (.cells #[.int .i64 W, .int .i64 H, .int .i64 D, .bool A, .slice (some ⟨G, 0, none⟩) n (n + 3)] 31 (0, 0)) ∧ wa.heap[w.heap.size + 1]? = some (.cells #[.int .i64 W, .int .i64 H, .int .i64 D, .bool A, .slice po n c] 31 (0, 0)) ∧ Kept [] w wa := by
    have h1 := heap_alloc_new w (.cells #[.int .i64 W, .int .i64 H, .int .i64 D, .bool A, .slice (some ⟨G, 0, none⟩) n (n + 3)] 31)
    have h2 := heap_alloc_new (w.alloc (.cells #[.int .i64 W, .int .i64 H, .int .i64 D, .bool A, .slice (some ⟨G, 0, none⟩) n (n + 3)] 31)) (.cells #[.int .i64 W, .int .i64 H, .int .i64 D, .bool A, .slice po n c] 31)
    have k2 := alloc_kept (w.alloc (.cells #[.int .i64 W, .int .i64 H, .int .i64 D, .bool A, .slice (some ⟨G, 0, none⟩) n (n + 3)] 31)) (.cells #[.int .i64 W, .int .i64 H, .int .i64 D, .bool A, .slice po n c] 31)
    rw [World.size_alloc] at h2
    rw [ewa]
    exact ⟨k2.heap h1 (by simp), h2, (alloc_kept w _).trans k2⟩
  obtain ⟨b, eb⟩ : ∃ b, b = w.heap.size := ⟨_, rfl⟩
  have P0 := P2
  rw [← eb] at P2
  obtain ⟨b1, eb1⟩ : ∃ b1, b1 = b + 1 := ⟨_, rfl⟩
  rw [← eb1] at P2
  have HP := Hid.mk P2
  have HE := Hid.mk (And.intro ewa (And.intro eb eb1))
  have HK0 := Hid.mk (hK.trans P2.2.2)
  have hnn : (n : Int) ≤ 1048576 := by omega
  have hn3 : (n : Int) + 3 ≤ (n : Int) + 3 := by omega
  clear hL hr hF hG hK hln P2 P0 ewa eb eb1
  go_enter Tryd.func22, Tryd.ntmps22
  go_wp2_with (fail)
  rw [← HE.out.1, ← HE.out.2.1, ← HE.out.2.2]
  go_loopw [6, 7] (fun s i wr => ∃ k : Nat, k ≤ n + 3 ∧ s = .bool true ∧ i = .int .i64 (k : Int) ∧ LtB wr G n k ln gs F ∧ wr.heap[b1]? = some (.cells #[.int .i64 W, .int .i64 H, .int .i64 D, .bool A, .slice po n c] 31 (0, 0)) ∧ Kept [] w0 wr ∧ (∀ x o, (∀ i, i < n + 3 → gs i ≠ x) → w.heap[x]? = some o → wr.heap[x]? = some o)) (fun _ i _ => n + 3 - (intOf i).toNat)
  case atStart => exact ⟨0, by omega, rfl, rfl, HB.out.keep HP.out.2.2, HP.out.2.1, HK0.out, fun x o _ h => HP.out.2.2.heap h (by simp)⟩
  case round =>
    obtain ⟨k, hk, rfl, rfl, hB, hb, hkr, hfar⟩ := hrel
    have HFar := Hid.mk hfar
    clear hfar
    have HB2 := Hid.mk hB
    have Hb := Hid.mk hb
    have HKR := Hid.mk hkr
    obtain ⟨⟨p0, p1, p2, p3, p4⟩, _⟩ := five hb
    clear hb
    by_cases hlt : k < n + 3
    · have ix : (k : Int) < (n : Int) + 3 := by omega
      by_cases hin : k < n
      · have ix2 : (k : Int) < (n : Int) := by omega
        obtain ⟨g, off, bo, c', rfl, hc0, hrd⟩ := (Hr.out.keep hkr).at hin
        have hcG := hB.cell hlt
        rw [show ltv n ln gs k = .slice (some ⟨gs k, 0, none⟩) (ln k) (ln k + 70) by unfold ltv; rw [if_pos hin]] at hcG
        have hRow := hB.row k hlt
        rw [if_neg (by omega), show ltN n ln k = ln k + 70 by unfold ltN; rw [if_pos hin], show ltG n ln F k = ltF (F k) (ln k) by unfold ltG; rw [if_pos hin]] at hRow
        have hlo := hB.lo k hlt
        have hrl : ∀ b off, bo = some ⟨b, off, none⟩ → 0 < ln k → b < w0.heap.size := fun b off e h0 => by
          obtain ⟨g0, off0, bo0, c0, e0, hc1, hrd1⟩ := Hr.out.at hin
          cases e0
          rw [cell_keep hkr hc1 (by simp)] at hc0
          cases hc0
          obtain ⟨g9, off9, e9, hc9⟩ := hrd1.at h0
          rw [e] at e9
          cases e9
          exact World.block_lt_of_cell? w0 _ hc9
        have CB := Hid.mk (fun u (hu : Kept [] wr u) => back16_any (gs k) bo (ln k) c' (F k) u (hRow.keep hu (by simp)) (hrd.keep hu) (HF.out k hin) (fun h0 b off e => by have := hrl b off e h0; have := HG.out; omega) (by have := Hln.out k hin; omega))
        obtain ⟨m, em⟩ : ∃ m, m = ln k := ⟨_, rfl⟩
        rw [← em] at hcG hc0 CB
        have EM := Hid.mk em
        have hkG : gs k ≠ b1 := by have := HGS.out k hlt; have := HE.out.2; omega
        have hg0 : g < w0.heap.size := by
          obtain ⟨g0, off0, bo0, c0, e0, hc1, hrd1⟩ := Hr.out.at hin
          cases e0
          exact World.block_lt_of_cell? w0 _ hc1
        have HX := Hid.mk (And.intro hlo (And.intro hkG hg0))
        have nG : G ∉ [gs k] := by simp; omega
        have nb : b1 ∉ [gs k] := by simpa using Ne.symm hkG
        have ng : g ∉ [gs k] := by have := HG.out; simp; omega
        clear hB hkr hRow hrd hrl em hlo hkG hg0
        go_wp2_with (fail)
        go_region_held_law (fun u => u.cell? ⟨b1, 4, none⟩ = some (.slice (some ⟨g, off, none⟩) n c) ∧ u.cell? ⟨G, k, none⟩ = some (.slice (some ⟨gs k, 0, none⟩) m (m + 70)) ∧ u.cell? ⟨g, off + k, none⟩ = some (.slice bo m c')) (first | exact ⟨p4, hcG, hc0⟩ | go_keep) (fail)
        go_wp2_with (fail)
        go_region_held_law (fun u => u.cell? ⟨b1, 4, none⟩ = some (.slice (some ⟨g, off, none⟩) n c) ∧ u.cell? ⟨G, k, none⟩ = some (.slice (some ⟨gs k, 0, none⟩) m (m + 70)) ∧ u.cell? ⟨g, off + k, none⟩ = some (.slice bo m c')) (first | exact ⟨p4, hcG, hc0⟩ | exact s5 | go_keep) ((go_at_call 47; refine (CB.out _ (by first | exact (Kept.refl _ _) | exact (Kept.refl _ _).drew | exact (Kept.refl _ _).drew.drew)).mono ?_; rintro e w2 ⟨rfl, hr2, hk2⟩; have s5 := And.intro (cell_keep hk2 p4 nb) (And.intro (cell_keep hk2 hcG nG) (cell_keep hk2 hc0 ng))))
        have hk2' : Kept [gs k] wr w2 := ((Kept.refl [gs k] wr).drew.drew).trans hk2
        have HQ := Hid.mk (And.intro (HB2.out.step hin hk2' (by rw [← EM.out]; exact hr2)) (And.intro (hk2'.heap Hb.out (by simpa using Ne.symm HX.out.2.1)) (And.intro (HKR.out.step hk2' (fun z hz => by have := HG.out; have := HX.out.1; simp at hz; subst hz; exact .inr (by omega))) (show (∀ x o, (∀ i, i < n + 3 → gs i ≠ x) → w.heap[x]? = some o → w2.heap[x]? = some o) from fun x o hx h => hk2'.heap (HFar.out x o hx h) (by simpa using Ne.symm (hx k hlt))))))
        clear hr2 hk2 hk2' s5 CB hcG hc0 p0 p1 p2 p3 p4
        go_wp2_with (fail)
        exact ⟨⟨k + 1, by omega, by simp, by go_num, HQ.out.1, HQ.out.2.1, HQ.out.2.2.1, HQ.out.2.2.2⟩, by simp [intOf]; omega⟩
      · have ix2 : ¬ (k : Int) < (n : Int) := by omega
        have hcG := hB.cell hlt
        rw [show ltv n ln gs k = .slice (some ⟨gs k, 0, none⟩) 1 1 by unfold ltv; rw [if_neg hin]] at hcG
        have hRow := hB.row k hlt
        rw [if_neg (by omega), show ltN n ln k = 1 by unfold ltN; rw [if_neg hin], show ltG n ln F k = fun _ => 60001 by unfold ltG; rw [if_neg hin]] at hRow
        have hc1 := hRow.at (j := 0) (by omega)
        have HQ := Hid.mk (And.intro (HB2.out.skip hin) (And.intro Hb.out (And.intro HKR.out HFar.out)))
        clear hB hkr hRow
        go_wp2_with (fail)
        exact ⟨⟨k + 1, by omega, by simp, by go_num, HQ.out.1, HQ.out.2.1, HQ.out.2.2.1, HQ.out.2.2.2⟩, by simp [intOf]; omega⟩
    · obtain rfl : k = n + 3 := by omega
      go_wp2_with (fail)
      go_ret
      refine ⟨rfl, ⟨HB2.out.box, fun i hi => ?_, HB2.out.lo, HB2.out.mon⟩, HKR.out, HFar.out⟩
      have h1 := HB2.out.row i hi
      by_cases h3 : i < n
      · rw [if_pos ⟨hi, h3⟩] at h1; rw [if_pos ⟨h3, h3⟩]; exact h1
      · rw [if_neg (by omega)] at h1; rw [if_neg (by omega)]; exact h1
end Go.Proofs.YtodlkpcbkilglaaDoor

namespace Go.Proofs.YtodlkpcbkilglaaDoor
open Go.RowKit Go.Shelf

theorem rds_own {w : World} {B : Nat} {V : Value} {l : List Nat} (h : w.ownsRow B 5 1 V l.length (l.map Bt.byt)) : Rds w V l := by
  have hV : ∃ ao cap, V = .slice ao l.length cap := by
    rcases h.2 with ⟨e, h0⟩ | ⟨g, cap, cur, e, _⟩
    · have : l.length = 0 := by omega
      exact ⟨none, 0, by rw [this]; exact e⟩
    · exact ⟨_, _, e⟩
  obtain ⟨ao, cap, rfl⟩ := hV
  exact ⟨ao, cap, rfl, Bt.reads_row h⟩
/-- The document's packing of any frame, as the program's. -/
theorem rpk_any (v : Bool) (W H D : Int) (A : Bool) (po : Option Addr) (n c : Nat) (ln : Nat → Nat) (F : Nat → Nat → Nat) (w : World) (hr : Pl w po n ln F) (hF : ∀ i j, F i j < 65536) (hZ : ∀ i j, ¬ (i < n ∧ j < ln i) → F i j = 0) (hn : n ≤ 9223372036854775807) (hln : ∀ i, i < n → ln i ≤ 9223372036854775807) :
    Calls Tryd.prog (if v = true then 19 else 18) #[frv W H D A po n c] w fun e w' => ∃ V, e = .returned (.tuple #[V, .int .i64 (pkE v W H D A n ln F)]) ∧ Rds w' V (pkB v W H D A n ln F) ∧ Kept [] w w' := by
  have hF2 : ∀ i, i < n → ∀ j, j < ln i → F i j < 65536 := fun i _ j _ => hF i j
  by_cases hE : vE W H D A n ln F = 0
  · have hV := vE_zero.1 hE
    have hs := hV.shp
    obtain ⟨h, rfl⟩ : ∃ h : Nat, H = (h : Int) := ⟨H.toNat, by have := hs.2.1; omega⟩
    have hl : ∀ p, p < n → ln p = wdN W p * h := fun i hi => by
      have := hV.len i hi
      rw [← (wdN_ok hs i).2.2] at this
      exact_mod_cast this
    have hh : 1 ≤ h ∧ h ≤ 4096 := by have := hs.2.1; omega
    cases v with
    | false =>
      have e0 : pkE false W (h : Int) D A n ln F = 0 := by unfold pkE; rw [if_pos hE, if_neg (by simp)]
      have eb : pkB false W (h : Int) D A n ln F = dpl n ln F := by
        unfold pkB; rw [if_pos e0, ← ctN_dpl hh.1 hF hl, hV.num]; rfl
      rw [e0, eb]
      refine (rplan_yes W (h : Int) D A po n c ln F w hr hF2 (by rw [hV.num]; exact np_hi A) (fun i hi => ?_) hE).mono ?_
      · have h1 := hs.2.2.2
        have h2 := hV.len i hi
        have q1 : 0 ≤ W * (h : Int) := Int.mul_nonneg (by have := hs.1.1; omega) (by omega)
        have q2 : 0 ≤ hf W * (h : Int) := Int.mul_nonneg (by have := hs.1.1; unfold hf; omega) (by omega)
        unfold tot at h1
        unfold wp at h2
        split at h2 <;> split at h1 <;> omega
      · rintro e w' ⟨V, rfl, ho, hk⟩
        exact ⟨V, rfl, rds_own ho, hk⟩
    | true =>
      by_cases hf : (decide (D = 10) && !A) = false
      · have e0 : pkE true W (h : Int) D A n ln F = 71 := by unfold pkE; rw [if_pos hE, if_pos ⟨rfl, hf⟩]
        have eb : pkB true W (h : Int) D A n ln F = [] := by unfold pkB; rw [if_neg (by rw [e0]; decide)]
        rw [e0, eb]
        refine (r210_fmt W (h : Int) D A po n c ln F w hr hn hln hF2 hE hf).mono ?_
        rintro e w' ⟨rfl, hk⟩
        exact ⟨_, rfl, rds_nil _, hk⟩
      · have hf2 : D = 10 ∧ A = false := by
          cases A <;> simp_all
        obtain ⟨rfl, rfl⟩ := hf2
        have hn3 : n = 3 := hV.num
        subst hn3
        have e0 : pkE true W (h : Int) 10 false 3 ln F = 0 := by unfold pkE; rw [if_pos hE, if_neg (fun e => hf e.2)]
        have eb : pkB true W (h : Int) 10 false 3 ln F = (List.range (h * v2L W 0)).map (obF W F 3 0) := by
          rw [obF_list]; unfold pkB; rw [if_pos e0]; rfl
        rw [e0, eb]
        refine (r210_yes W h po c ln F w hr (fun q j => ?_) hV).mono ?_
        · by_cases hq : q < 3 ∧ j < ln q
          · have := hV.top q hq.1 j hq.2
            have e1 : mx 10 = 1023 := by decide
            omega
          · rw [hZ q j hq]; decide
        · rintro e w' ⟨g, rfl, hg, hc, hk⟩
          refine ⟨_, rfl, ⟨some ⟨g, 0, none⟩, h * v2L W 0, by simp, .inr ⟨g, 0, rfl, fun i hi => ?_⟩⟩, hk⟩
          have hi' : i < h * v2L W 0 := by simpa using hi
          rw [Nat.zero_add, hc.at hi']
          simp [Bt.byt, hi']
  · have e0 : pkE v W H D A n ln F = vE W H D A n ln F := by unfold pkE; rw [if_neg hE]
    have eb : pkB v W H D A n ln F = [] := by unfold pkB; rw [if_neg (by rw [e0]; exact hE)]
    rw [e0, eb]
    cases v with
    | false =>
      refine (rplan_no W H D A po n c ln F w hr hn hln hF2 hE).mono ?_
      rintro e w' ⟨rfl, hk⟩
      exact ⟨_, rfl, rds_nil _, hk⟩
    | true =>
      refine (r210_no W H D A po n c ln F w hr hn hln hF2 hE).mono ?_
      rintro e w' ⟨rfl, hk⟩
      exact ⟨_, rfl, rds_nil _, hk⟩
end Go.Proofs.YtodlkpcbkilglaaDoor

namespace Go.Proofs.YtodlkpcbkilglaaDoor
open Go.RowKit Go.Shelf

/-- A book that is written into, from a world on in which all its lists stand. -/
def BkP (w14 w : World) (Bk n : Nat) (V : Nat → Value) (ls : Nat → List Nat) : Prop := ∃ vl vw U, Bt.Bks w Bk n vl vw V U ls ∧ Bt.Kept [Bk] w14 w ∧ (∀ g, vl.ownBlock = some g → w14.heap.size ≤ g) ∧ (∀ g, vw.ownBlock = some g → w14.heap.size ≤ g)
theorem bkp_new {w : World} {Bk : Nat} (h : w.heap[Bk]? = some (.cells #[.slice none 0 0, .slice none 0 0] 35 (0, 0))) (V : Nat → Value) (ls : Nat → List Nat) : BkP w w Bk 0 V ls :=
  ⟨_, _, V, Bt.Bks.empty h V V ls, Bt.Kept.refl _ _, fun g hg => by simp [Value.ownBlock] at hg, fun g hg => by simp [Value.ownBlock] at hg⟩
theorem lst_lt {w : World} {v : Value} {l : List Nat} (h : Bt.Lst w v l) {g : Nat} (hg : v.ownBlock = some g) : g < w.heap.size := by
  obtain ⟨cs, hc⟩ := h.own hg
  exact lt_of_block hc
theorem upd_self {α : Type} (f : Nat → α) (n : Nat) : Bt.upd f n (f n) = f := by
  funext i
  unfold Bt.upd
  split
  · rename_i e; rw [e]
  · rfl
theorem bkp_keep (w14 w : World) (Bk n : Nat) (V : Nat → Value) (ls : Nat → List Nat) (h : BkP w14 w Bk n V ls) (hv : Bt.Lst w14 (V n) (ls n)) (hB : (V n).ownBlock ≠ some Bk) (hap : ∀ i, i < n → ∀ g, (V i).ownBlock = some g → (V n).ownBlock ≠ some g) (hn : n ≤ 100) (hl : (ls n).length ≤ 140737488355328) :
    Calls Tryd.prog 20 #[.pointer (some ⟨Bk, 0, none⟩), V n] w fun e w' => e = .returned (.tuple #[]) ∧ BkP w14 w' Bk (n + 1) V ls := by
  obtain ⟨vl, vw, U, h1, h2, h3, h4⟩ := h
  refine (Bt.keep_bks Bk n vl vw (V n) V U ls (ls n) w h1 (hv.kept h2 (fun g hg => by simp; intro e; exact hB (e ▸ hg))) hap (by omega) hl).mono ?_
  rintro e w' ⟨rfl, vl', vw', u, g1, g2, g3, g4⟩
  rw [upd_self, upd_self] at g1
  refine ⟨rfl, vl', vw', _, g1, h2.step g4 (fun x hx => ?_), fun g hg => ?_, fun g hg => ?_⟩
  · simp only [List.mem_cons, List.mem_append, Bt.mem_own] at hx
    rcases hx with e | e | e
    · subst e; exact .inl (by simp)
    · exact .inr (h3 x e)
    · exact .inr (h4 x e)
  · rcases g2 with e | ⟨g', e, h⟩
    · exact h3 g (e ▸ hg)
    · rw [e] at hg; cases hg; exact Nat.le_trans h2.size h
  · rcases g3 with e | ⟨g', e, h⟩
    · exact h4 g (e ▸ hg)
    · rw [e] at hg; cases hg; exact Nat.le_trans h2.size h
/-- A book's end. -/
theorem bkp_ends (wc w14 w : World) (Bk n : Nat) (V : Nat → Value) (ls : Nat → List Nat) (h : BkP w14 w Bk n V ls) (hk : Bt.Kept [] wc w14) (hn0 : 0 < n) (hn : n ≤ 100) (hl : ∀ i, (ls i).length ≤ 140737488351232) (hV : ∀ i, i < n → ∀ g, (V i).ownBlock = some g → wc.heap.size ≤ g) :
    Calls Tryd.prog 21 #[.pointer (some ⟨Bk, 0, none⟩)] w fun e w' => e = .returned (.bool true) ∧ Bt.Kept [Bk] wc w' := by
  obtain ⟨vl, vw, U, h1, h2, h3, h4⟩ := h
  obtain ⟨gl, cl, gw, cw, hb⟩ := h1.done hn0
  refine (Bt.ends_any Bk gl cl gw cw n V U ls w hn0 (by omega) hl hb).mono ?_
  rintro e w' ⟨rfl, _, k2⟩
  refine ⟨rfl, ((hk.mono (by simp)).trans h2).step k2 (fun x hx => ?_)⟩
  simp only [List.mem_cons] at hx
  rcases hx with e | e
  · subst e; exact .inl (by simp)
  · obtain ⟨i, hi, hg⟩ := Bt.mem_blk.1 e
    exact .inr (hV i hi x hg)
end Go.Proofs.YtodlkpcbkilglaaDoor

namespace Go.Proofs.YtodlkpcbkilglaaDoor
open Go.RowKit Go.Shelf

/-- What packing tiny answers. -/
def LT (v : Bool) : List Nat := pkB v 1 ((1 : Nat) : Int) 10 false 3 (fun _ => 1) (fun i _ => tnF i)
theorem tiny_pkE (v : Bool) : pkE v 1 ((1 : Nat) : Int) 10 false 3 (fun _ => 1) (fun i _ => tnF i) = 0 := by
  unfold pkE
  rw [if_pos (vE_zero.2 tiny_vld), if_neg (by simp)]
theorem LT_len (v : Bool) : (LT v).length = if v = true then 128 else 6 := by
  unfold LT pkB
  rw [if_pos (tiny_pkE v)]
  cases v <;> rfl
theorem tiny_pk (v : Bool) (u : World) (g : Nat) (hT : Tab u) (h : ∀ i, i < 3 → ∃ b, u.cell? ⟨g, i, none⟩ = some (.slice (some ⟨b, 0, none⟩) 1 1) ∧ u.cell? ⟨b, 0, none⟩ = some (.int .u16 (tnF i : Int))) :
    Calls Tryd.prog (if v = true then 16 else 15) #[frv 1 1 10 false (some ⟨g, 0, none⟩) 3 3] u fun e u' => PkC 0 (LT v) u e u' := by
  obtain ⟨pb, h1, h2⟩ := tiny_in h
  have h3 := pk_any v 1 ((1 : Nat) : Int) 10 false (some ⟨g, 0, none⟩) 3 3 (fun _ => 1) pb (fun _ => 0) (fun _ => 1) (fun i _ => tnF i) u hT h1 h2 (fun _ _ => Nat.le_refl _) (by omega) (fun _ _ => by omega)
  rw [tiny_pkE] at h3
  exact h3
/-- Lists that were told, each in a block of its own, all behind a world. -/
def Acc (wc u : World) (k : Nat) (V : Nat → Value) (ls : Nat → List Nat) : Prop := ∀ i, i < k → Bt.Lst u (V i) (ls i) ∧ (∀ g, (V i).ownBlock = some g → wc.heap.size ≤ g) ∧ ∀ j, j < i → ∀ g, (V j).ownBlock = some g → (V i).ownBlock ≠ some g
theorem Acc.keep {wc u u' : World} {k : Nat} {V : Nat → Value} {ls : Nat → List Nat} (h : Acc wc u k V ls) (hk : Kept [] u u') : Acc wc u' k V ls := fun i hi => ⟨(h i hi).1.keep (kept_to hk), (h i hi).2⟩
theorem Acc.step {wc u u1 u2 : World} {k : Nat} {V : Nat → Value} {ls : Nat → List Nat} {v : Value} {B : List Nat} (h : Acc wc u k V ls) (hw : Kept [] wc u) (hk : Kept [] u u1) (hv : Bt.Lst u2 v B) (hf : ∀ g, v.ownBlock = some g → u1.heap.size ≤ g) (hk2 : Kept [] u1 u2) : Acc wc u2 (k + 1) (Bt.upd V k v) (Bt.upd ls k B) := by
  intro i hi
  by_cases e : i = k
  · subst e
    rw [Bt.upd_at, Bt.upd_at]
    refine ⟨hv, fun g hg => Nat.le_trans (hw.trans hk).size (hf g hg), fun j hj g hg hg2 => ?_⟩
    rw [Bt.upd_far _ _ _ _ (by omega)] at hg
    have h1 := lst_lt ((h j hj).1.keep (kept_to hk)) hg
    have h2 := hf g hg2
    omega
  · rw [Bt.upd_far _ _ _ _ e, Bt.upd_far _ _ _ _ e]
    refine ⟨(h i (by omega)).1.keep (kept_to (hk.trans hk2)), (h i (by omega)).2.1, fun j hj g hg => ?_⟩
    rw [Bt.upd_far _ _ _ _ (by omega)] at hg
    exact (h i (by omega)).2.2 j hj g hg
theorem LtP.kept {w w' : World} {G n k : Nat} {ln gs : Nat → Nat} {F : Nat → Nat → Nat} {ks : List Nat} (h : LtP w G n k ln gs F) (hk : Kept ks w w') (hl : ∀ x ∈ ks, x < G) : LtP w' G n k ln gs F :=
  ⟨hk.heap h.box (fun e => by have := hl _ e; omega), fun i hi => (h.row i hi).keep hk (fun e => by have := hl _ e; have := h.lo i hi; omega), h.lo, h.mon⟩
/-- A lent list of planes is a frame's. -/
theorem pq_of_box {w : World} {G n : Nat} {ln gs : Nat → Nat} (h : w.heap[G]? = some (.cells (fl (ltv n ln gs) (n + 3)).toArray 68 (0, 0))) : Pq w (some ⟨G, 0, none⟩) n ln gs (fun _ => 0) (fun i => ln i + 70) :=
  ⟨G, 0, rfl, fun i hi => by
    rw [Nat.zero_add, cell_of_row _ _ _ _ _ _ h, List.getElem?_toArray, fl_at _ _ _ (by omega)]
    unfold ltv
    rw [if_pos hi]⟩
theorem LtB.pq {w : World} {G n k : Nat} {ln gs : Nat → Nat} {F : Nat → Nat → Nat} (h : LtB w G n k ln gs F) : Pq w (some ⟨G, 0, none⟩) n ln gs (fun _ => 0) (fun i => ln i + 70) := pq_of_box h.box
theorem LtB.rd0 {w : World} {G n : Nat} {ln gs : Nat → Nat} {F : Nat → Nat → Nat} (h : LtB w G n 0 ln gs F) (i : Nat) (hi : i < n) : Rd w (some ⟨gs i, 0, none⟩) (ln i) (F i) := by
  have h1 := h.row i (by omega)
  rw [if_neg (by omega), show ltN n ln i = ln i + 70 by unfold ltN; rw [if_pos hi], show ltG n ln F i = ltF (F i) (ln i) by unfold ltG; rw [if_pos hi]] at h1
  refine .inr ⟨gs i, 0, rfl, fun j hj => ?_⟩
  rw [Nat.zero_add, h1.at (by omega)]
  unfold ltF
  rw [if_pos hj]
/-- What stands in a frame that was written over. -/
def bxF (n : Nat) (ln : Nat → Nat) (F : Nat → Nat → Nat) : Nat → Nat → Nat := fun i j => if i < n ∧ j < ln i then F i j ^^^ 85 else 0
theorem LtB.rdN {w : World} {G n : Nat} {ln gs : Nat → Nat} {F : Nat → Nat → Nat} (h : LtB w G n n ln gs F) (i : Nat) (hi : i < n) : Rd w (some ⟨gs i, 0, none⟩) (ln i) (bxF n ln F i) := by
  have h1 := h.row i (by omega)
  rw [if_pos ⟨hi, hi⟩, show ltN n ln i = ln i + 70 by unfold ltN; rw [if_pos hi]] at h1
  refine .inr ⟨gs i, 0, rfl, fun j hj => ?_⟩
  rw [Nat.zero_add, h1.at (by omega)]
  unfold ltF bxF
  rw [if_pos hj, if_pos ⟨hi, hj⟩]
theorem pl_of {w : World} {po : Option Addr} {n : Nat} {ln pb pf pc : Nat → Nat} {F : Nat → Nat → Nat} (hP : Pq w po n ln pb pf pc) (hR : ∀ i, i < n → Rd w (some ⟨pb i, pf i, none⟩) (ln i) (F i)) : Pl w po n ln F := by
  obtain ⟨g, off, e, hc⟩ := hP
  exact .inr ⟨g, off, e, fun i hi => ⟨_, _, hc i hi, hR i hi⟩⟩
end Go.Proofs.YtodlkpcbkilglaaDoor
