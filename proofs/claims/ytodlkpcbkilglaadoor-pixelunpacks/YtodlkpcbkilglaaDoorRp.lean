import Derived.Test.YtodlkpcbkilglaaDoorRb
import Derived.Test.YtodlkpcbkilglaaDoorFnZ
import Derived.Test.YtodlkpcbkilglaaDoorRo
namespace Go.Proofs.YtodlkpcbkilglaaDoor
open Go.RowKit Go.Shelf
attribute [local go_sem] Oper.semAt_some

theorem Row.set {w : World} {b n i v : Nat} {f : Nat → Nat} (h : Row w b n f) (hi : i < n) : Row (w.setCell ⟨b, i, none⟩ (.int .u16 (v : Int))) b n (fun j => if j = i then v else f j) := by
  unfold Row at h ⊢
  rw [heap_setCell_at h]
  congr 2
  rw [List.setIfInBounds_toArray]
  congr 1
  apply List.ext_getElem?
  intro j
  rw [List.getElem?_set]
  by_cases h1 : i = j
  · subst h1
    rw [if_pos rfl, if_pos (by rw [fl_length]; exact hi), fl_at _ _ _ hi]
    simp [vU]
  · rw [if_neg h1]
    by_cases h2 : j < n
    · rw [fl_at _ _ _ h2, fl_at _ _ _ h2]
      have : ¬ j = i := fun e => h1 e.symm
      simp [vU, this]
    · rw [List.getElem?_eq_none (by rw [fl_length]; omega), List.getElem?_eq_none (by rw [fl_length]; omega)]
theorem one_cell7 {w : World} {g : Nat} {v : Value} {t : TypeId} (h : w.heap[g]? = some (.cells #[v] t (0, 0))) : w.cell? ⟨g, 0, none⟩ = some v := by rw [cell_of_row _ _ _ _ _ _ h]; rfl
/-- A part of a row, its last k samples read. -/
def stP (cur s : Nat → Nat) (op n k : Nat) : Nat → Nat := fun i => if op + (n - k) ≤ i ∧ i < op + n then s (i - op) else cur i
/-- The samples that bytes tell, two each. -/
def smP (fb : Nat → Nat) (x : Nat) : Nat := fb (2 * x) + 256 * fb (2 * x + 1)

set_option maxHeartbeats 8000000 in
set_option maxRecDepth 1000000 in
theorem readP (g1 o1 cr n c gp op L gb ob cb : Nat) (cur fb : Nat → Nat) (w : World) (hrow : w.cell? ⟨g1, o1, none⟩ = some (.slice (some ⟨gp, op, none⟩) n c)) (hR : Row w gp L cur) (hL : op + n ≤ L) (hn : n ≤ 4096) (hne : g1 ≠ gp)
    (hb : ∀ i, i < 2 * n → w.cell? ⟨gb, ob + i, none⟩ = some (.int .u8 (fb i : Int))) (hf : ∀ i, i < 2 * n → fb i < 256) :
    Calls Tryd.prog 62 #[.slice (some ⟨g1, o1, none⟩) 1 cr, .slice (some ⟨gb, ob, none⟩) (2 * n) cb] w fun e w' => e = .returned (.bool true) ∧ Row w' gp L (stP cur (smP fb) op n n) ∧ Kept [gp] w w' := by
  have C1 := Hid.mk (fun (u : World) (hk : Kept [] w u) => backB_off gb ob (2 * n) cb fb u (fun i hi => cell_keep hk (hb i hi) (by simp)) (by omega))
  have HF := Hid.mk hf
  have k0 := alloc_kept w (.cells #[.slice (some ⟨g1, o1, none⟩) 1 cr] 29)
  have h0 := heap_alloc_new w (.cells #[.slice (some ⟨g1, o1, none⟩) 1 cr] 29)
  have hgp : gp < w.heap.size := hR.lt
  have HW := Hid.mk (And.intro hrow hR)
  clear hb hf hrow hR
  refine (callsIn_wide (n := 0)).1 ?_
  refine callsIn_of_wp_marks Tryd.func62 rfl trivial ?_ rfl
  simp only [Tryd.ntmps62, List.size_toArray, List.length_cons, List.length_nil, Nat.reduceAdd, Nat.reduceSub, Array.replicate_succ, Array.replicate_zero, List.push_toArray, List.append_toArray, List.nil_append, List.cons_append]
  refine wpIn_wide.2 ?_
  go_wp2_with (fail)
  refine (C1.out _ k0).mono ?_
  rintro e w2 ⟨g2, c2, rfl, hg2, hl2, hc2, hcb, hk2⟩
  have CN := Hid.mk (Bt.newReader_any (some ⟨g2, 0, none⟩) c2 (2 * n) (rvL fb (2 * n)) w2 (rvL_reads hcb) (rvL_byts HF.out) (rvL_length _ _) (by omega))
  have H2 := Hid.mk (And.intro (k0.trans hk2) (hk2.heap h0 (by simp)))
  obtain ⟨P0, eP0⟩ : ∃ P0, P0 = w.heap.size := ⟨_, rfl⟩
  rw [← eP0] at H2 ⊢
  have HP0 := Hid.mk eP0
  clear hg2 hl2 hc2 hcb hk2 k0 h0 C1 eP0
  go_wp2_with (fail)
  refine CN.out.mono ?_
  rintro e w3 ⟨B, g, rfl, hB, hg, hRd, hk3⟩
  have hk3 := kept_of hk3
  have h3 := hk3.heap H2.out.2 (by simp)
  have k3 := H2.out.1.trans hk3
  have hPw : P0 < w2.heap.size := lt_of_block H2.out.2
  have h4 := heap_alloc_new w3 (.cells #[.pointer (some ⟨B, 0, none⟩)] 101)
  have k4 := alloc_kept w3 (.cells #[.pointer (some ⟨B, 0, none⟩)] 101)
  obtain ⟨w4, ew4⟩ : ∃ w4, w3.alloc (.cells #[.pointer (some ⟨B, 0, none⟩)] 101) = w4 := ⟨_, rfl⟩
  rw [ew4] at h4 k4
  obtain ⟨P1, eP1⟩ : ∃ P1, P1 = w3.heap.size := ⟨_, rfl⟩
  rw [← eP1] at h4
  have HP1 := Hid.mk eP1
  have hBw : B < w3.heap.size := lt_of_block hRd.1
  have hgw : g < w3.heap.size := lt_of_block hRd.2.1
  rw [← eP1] at hBw hgw
  have h3 := k4.heap h3 (by simp)
  have k4' := k3.trans k4
  have hR4 := Bt.reader_kept hRd (kept_to k4) (by simp) (by simp)
  have c3 := one_cell7 h3
  have c4 := one_cell7 h4
  have cr4 := cell_keep k4' HW.out.1 (by simp)
  have CY := Hid.mk (fun u => backward_any (some ⟨gp, op, none⟩) n c u)
  have H4 := Hid.mk (And.intro k4' (And.intro h3 (And.intro h4 (And.intro hR4 (And.intro hB (And.intro hg (And.intro hBw (And.intro hgw hPw))))))))
  clear hk3 h3 k3 h4 k4 hRd k4' hR4 hB hg hBw hgw hPw H2 CN eP1
  go_wp2_with (fail)
  rw [← HP1.out]
  refine (CY.out _).mono ?_
  rintro e w5 ⟨rfl, h5⟩
  have H5 := Hid.mk h5
  clear h5
  go_wp2_with (fail)
  have h5 := H5.out
  have hB5 := heap_alloc_new w4 (.cells #[.slice (some ⟨gp, op, none⟩) n c] 68)
  have k5 := alloc_kept w4 (.cells #[.slice (some ⟨gp, op, none⟩) n c] 68)
  rw [← h5] at hB5 k5
  obtain ⟨Bs, eBs⟩ : ∃ Bs, Bs = w4.heap.size := ⟨_, rfl⟩
  rw [← eBs] at hB5 ⊢
  obtain ⟨k4, h3, h4, hRd, hB, hg, hBw, hgw, hPw⟩ := H4.out
  have K5 := k4.trans k5
  have h35 := k5.heap h3 (by simp)
  have h45 := k5.heap h4 (by simp)
  have r5 := Bt.reader_kept hRd (kept_to k5) (by simp) (by simp)
  have R5 := HW.out.2.keep K5 (by simp)
  have cr5 := cell_keep k5 cr4 (by simp)
  have hP1s : P1 < w4.heap.size := lt_of_block h4
  have hBs5 : Bs < w5.heap.size := lt_of_block hB5
  have hP0 := HP0.out
  have hw2 : w.heap.size ≤ w2.heap.size := by omega
  have h15 := cr5
  have hlen : (rvL fb (2 * n)).length = 2 * n := rvL_length _ _
  clear h5 H5 c3 c4 cr4 CY H4 HP1 ew4
  refine range_lawV (gf := 96) (lb := #[.pointer (some ⟨Bs, 0, none⟩)]) ?hg (enters_of Tryd.func96 (by kernel_rfl) rfl)
    (fun k W' => Kept [gp, B] w5 W' ∧ w5.heap.size + 1 < W'.heap.size ∧ Bt.ReaderAt W' B g (rvL fb (2 * n)) (16 * k) ∧ Row W' gp L (stP cur (smP fb) op n k))
    n (fun k W' v => v = #[.int .i64 ((n - 1 - k : Nat) : Int), .int .u16 (cur (op + (n - 1 - k)) : Int)]) ?hps ?put ?kept ?start ?iter ?body ?done
  case hg => rfl
  case hps => rintro k W' v rfl; rfl
  case put =>
    rintro k W' o ⟨a1, a2, a3, a4⟩
    have ks : Kept [w5.heap.size + 1] W' (W'.putObj (w5.heap.size + 1) o) := (Kept.refl _ W').putObj o (.inl (by simp))
    exact ⟨a1.step ks (fun x hx => by simp at hx; right; omega), by rw [World.putObj_size]; exact a2, Bt.reader_kept a3 (kept_to ks) (by simp; omega) (by simp; omega), a4.keep ks (by simp; omega)⟩
  case kept =>
    rintro k W1 W2 ⟨a1, a2, a3, a4⟩ hk
    exact ⟨a1.step hk (by simp), Nat.lt_of_lt_of_le a2 hk.size, Bt.reader_kept a3 (kept_to hk) (by simp) (by simp), a4.keep hk (by simp)⟩
  case start =>
    intro W1 hk1 hs1
    exact ⟨hk1.mono (by simp), by omega, Bt.reader_kept r5 (kept_to hk1) (by simp) (by simp), (R5.keep hk1 (by simp)).congr (fun j _ => by unfold stP; rw [if_neg (by omega)])⟩
  case iter =>
    intro J hJI hJK hJY W1 hJ0 ht
    refine back_iter2 (w5.heap.size + 1) Bs n c (some ⟨gp, op, none⟩) (fun j => cur (op + j)) (by omega) J (fun k W' hJ => ?_) (fun k W' j hJ hj => ?_) W1 hJ0
    · obtain ⟨a1, a2, a3, a4⟩ := hJI k W' hJ
      refine ⟨cell_keep a1 (one_cell7 hB5) (by simp; omega), fun j hj => ⟨gp, op, rfl, ?_⟩⟩
      rw [a4.at (by omega)]
      unfold stP
      rw [if_neg (by omega)]
    · obtain ⟨fn, tmps, assign, body, hy, hR⟩ := hJY k W' _ hJ (by omega) rfl
      rw [show n - 1 - k = j by omega] at hy
      exact ⟨fn, tmps, assign, body, hy, hR.mono (fun e w h => ⟨h.1, h.2.1⟩)⟩
  case body =>
    rintro k v W' r rfl hkn ⟨a1, a2, a3, a4⟩ hl
    have HE := Hid.mk (And.intro hP0 eBs)
    clear hP0 eBs
    gi_wp2
    refine ⟨Kept.refl _ _, fun Wb hWb => ?_⟩
    obtain ⟨hP0, eBs⟩ := HE.out
    obtain ⟨rb, hWb⟩ := hWb
    have ks : Kept [w5.heap.size + 1] W' Wb := by rw [hWb]; exact (Kept.refl _ W').putObj _ (.inl (by simp))
    have b2 : Kept [gp, B] w5 Wb := a1.step ks (fun x hx => by simp at hx; right; omega)
    have b3 := Bt.reader_kept a3 (kept_to ks) (by simp; omega) (by simp; omega)
    have b4 := a4.keep ks (by simp; omega)
    have b5 : w5.heap.size + 1 < Wb.heap.size := Nat.lt_of_lt_of_le a2 ks.size
    clear a1 a2 a3 a4 hl hWb ks
    obtain ⟨j, ej⟩ : ∃ j, j = n - 1 - k := ⟨_, rfl⟩
    rw [← ej]
    have hg1 : g1 < w.heap.size := World.block_lt_of_cell? w _ HW.out.1
    have c3 := cell_keep b2 (one_cell7 h35) (by simp; omega)
    have c4 := cell_keep b2 (one_cell7 h45) (by simp; omega)
    have cr := cell_keep b2 cr5 (by simp; omega)
    have CG := Hid.mk (Bt.get_any B g (rvL fb (2 * n)) (16 * k) 16 Wb b3 (by omega) (by omega) (by rw [hlen]; omega))
    have hv := nextN_two fb n j HF.out (by omega)
    rw [show 16 * (n - 1 - j) = 16 * k by omega] at hv
    rw [show (16 : Int).toNat = 16 from rfl, hv] at CG
    have hv2 : fb (2 * j) + 256 * fb (2 * j + 1) < 65536 := by have := HF.out (2 * j) (by omega); have := HF.out (2 * j + 1) (by omega); omega
    obtain ⟨x, ex⟩ : ∃ x, x = fb (2 * j) + 256 * fb (2 * j + 1) := ⟨_, rfl⟩
    rw [← ex] at CG hv2
    have hjn : j < n := by omega
    have jn : (j : Int) < (n : Int) := by omega
    have HB := Hid.mk (And.intro b2 (And.intro b4 (And.intro b5 (And.intro ej (And.intro ex (And.intro c3 (And.intro cr hg1)))))))
    clear b2 b3 b4 b5 ej ex c3 cr hg1 hv K5 h35 h45 r5 R5 cr5 h15 hlen hRd k4 k5 hB5 h3 h4
    clear hP0 eBs
    gi_wp2
    refine ⟨trivial, rfl, (CallsIn.inRound (w5.heap.size + 1) (callsIn_wide.2 CG.out)).mono ?_⟩
    rintro e W3 ⟨rfl, hr3, hk3⟩
    obtain ⟨b2, b4, b5, ej, ex, c3, cr, hg1⟩ := HB.out
    have hk3 := kept_of hk3
    have c3' := cell_keep hk3 c3 (by simp; omega)
    have cr' := cell_keep hk3 cr (by simp; omega)
    have R3 := b4.keep hk3 (by simp; omega)
    have hcell := R3.at (j := op + j) (by omega)
    have hfz := R3.fz (op + j)
    have HS := Hid.mk (R3.set (i := op + j) (v := x) (by omega))
    have HR3 := Hid.mk hr3
    have HK3 := Hid.mk hk3
    clear hr3 hk3 b2 b4 b5 ej ex c3 cr hg1 R3 c4
    gi_wp2
    obtain ⟨b2, b4, b5, ej, ex, c3, cr, hg1⟩ := HB.out
    obtain ⟨hP0, eBs⟩ := HE.out
    have ks : Kept [gp] W3 (W3.setCell ⟨gp, op + j, none⟩ (.int .u16 (x : Int))) := (Kept.refl _ _).setCell (.inl (by simp)) _
    have kb : Kept [gp, B] Wb (W3.setCell ⟨gp, op + j, none⟩ (.int .u16 (x : Int))) := (HK3.out.mono (by simp)).step ks (by simp)
    refine ⟨⟨b2.trans kb, Nat.lt_of_lt_of_le b5 kb.size, ?_, HS.out.congr (fun i hi => ?_)⟩, kb.fu (by simp; omega), kb.block _ (by omega) (by simp; omega), kb.block _ (by omega) (by simp; omega)⟩
    · exact Bt.reader_kept HR3.out (kept_to ks) (by simp; omega) (by simp; omega)
    · unfold stP smP
      by_cases h1 : i = op + j
      · subst h1
        rw [if_pos rfl, if_pos (by omega), show op + j - op = j by omega]
        exact ex
      · rw [if_neg h1]
        by_cases h2 : op + (n - k) ≤ i ∧ i < op + n
        · rw [if_pos h2, if_pos (by omega)]
        · rw [if_neg h2, if_neg (by omega)]
  case done =>
    rintro W' ⟨a1, a2, a3, a4⟩ hK
    have HD := Hid.mk (And.intro a1 (And.intro a4 hK))
    clear a1 a2 a3 a4 hK
    go_wp2
    refine ⟨by simp, .inl ⟨_, _, rfl, run_takeDeferred HD.out.2.2, ?_⟩⟩
    have ks : Kept [w5.heap.size] W' (W'.putObj w5.heap.size (.deferred none)) := (Kept.refl _ W').putObj _ (.inl (by simp))
    exact ⟨_, results_tmp rfl _ _ _, rfl, HD.out.2.1.keep ks (by simp; omega), ((K5.mono (by simp)).step HD.out.1 (fun x hx => by simp at hx; rcases hx with rfl | rfl; exact .inl (by simp); right; omega)).putObj _ (.inr (by have := K5.size; omega))⟩
end Go.Proofs.YtodlkpcbkilglaaDoor
