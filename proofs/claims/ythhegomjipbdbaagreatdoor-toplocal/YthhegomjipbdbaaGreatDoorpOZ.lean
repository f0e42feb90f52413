import Derived.Test.YthhegomjipbdbaaGreatDoorpMZ
namespace Go.Proofs.YthhegomjipbdbaaGreatDoor.Pc
open Go.RowKit

theorem make_slc (r : Nat) (hr : r ≤ 1000000) (w : World) : ∃ w', Sem.run Tryz.prog (Instr.makeSlice 103 (.int .i64 (r : Int)) (.int .i64 (r : Int))) w = .ok (.slice (some ⟨w.heap.size, 0, none⟩) r r) w' ∧ w'.heap[w.heap.size]? = some (.cells (List.replicate r (.slice none 0 0)).toArray 28 (0, 0)) ∧ Kept [] w w' := by
  obtain ⟨j0, gi, gz0, gz1, gz2⟩ := info_parts Tryz.infoGR
  obtain ⟨w', hrun, r1, r2⟩ := run_make_full (P := Tryz.prog) w 0 103 28 j0 (.slice none 0 0) 1 Tryz.underlying103 gi gz0 gz1 .i64 .i64 r (by rw [gz2]; omega) (by unfold maxLen; omega) (by omega)
  have hr3 := row_heap r1 rfl
  rw [show (madeCells (Value.slice none 0 0).cells (r * 1)).toList = List.replicate r (.slice none 0 0) by rw [Nat.mul_one]; exact toList_madeCells_one _ _] at hr3
  exact ⟨w', hrun, hr3, (Kept.of_grown r2).mono (by simp)⟩
/-- Slices of which k are written. -/
def slC (vs : Nat → Value) (k N : Nat) : List Value := Tl.fl (fun i => if i < k then vs i else .slice none 0 0) N
theorem slC_zero (vs : Nat → Value) (N : Nat) : slC vs 0 N = List.replicate N (.slice none 0 0) := by
  apply List.ext_getElem?
  intro i
  by_cases h : i < N
  · unfold slC; rw [Tl.fl_at _ _ _ h, if_neg (by omega)]; simp [h]
  · rw [List.getElem?_eq_none (by unfold slC; rw [Tl.fl_length]; omega), List.getElem?_eq_none (by simp; omega)]
theorem slC_set (vs : Nat → Value) (k N : Nat) (v : Value) : (slC vs k N).set k v = slC (fun i => if i = k then v else vs i) (k + 1) N := by
  apply List.ext_getElem?
  intro i
  by_cases h : i < N
  · rw [List.getElem?_set]
    unfold slC
    rw [Tl.fl_at _ _ _ h, Tl.fl_at _ _ _ h, Tl.fl_length]
    by_cases e : k = i
    · subst e; simp [h]
    · have e' : ¬ i = k := fun q => e q.symm
      by_cases h2 : i < k
      · have h3 : i < k + 1 := by omega
        simp [e, e', h2, h3]
      · have h3 : ¬ i < k + 1 := by omega
        simp [e, h2, h3]
  · rw [List.getElem?_eq_none (by rw [List.length_set]; unfold slC; rw [Tl.fl_length]; omega), List.getElem?_eq_none (by unfold slC; rw [Tl.fl_length]; omega)]
theorem reads_kept {w w' : World} {bo : Option Addr} {l : List Nat} {g : Nat} (h : Reads w bo l) (hk : Kept [g] w w') (hn : ∀ b o, bo = some ⟨b, o, none⟩ → b ≠ g) : Reads w' bo l := by
  rcases h with h | ⟨b, off, e, hc⟩
  · exact .inl h
  · exact .inr ⟨b, off, e, fun i hi => Tl.cell_keep hk (hc i hi) (by simpa using hn b off e)⟩
/-- Rows of which k stand, their list in the block g. -/
structure Rws (w : World) (g k N : Nat) (vs : Nat → Value) (P : Nat → List Nat) : Prop where
  out : w.heap[g]? = some (.cells (slC vs k N).toArray 28 (0, 0))
  row : ∀ i, i < k → ∃ bo cap, vs i = .slice bo (P i).length cap ∧ (P i).length ≤ cap ∧ Reads w bo (P i) ∧ ∀ b o, bo = some ⟨b, o, none⟩ → g < b
theorem Rws.keep {w w' : World} {g k N : Nat} {vs : Nat → Value} {P : Nat → List Nat} (h : Rws w g k N vs P) (hk : Kept [] w w') : Rws w' g k N vs P :=
  ⟨hk.heap h.out (by simp), fun i hi => by obtain ⟨bo, cap, h1, h2, h3, h4⟩ := h.row i hi; exact ⟨bo, cap, h1, h2, h3.keep hk, h4⟩⟩
theorem Rws.put {w : World} {g k N S : Nat} {vs : Nat → Value} {P : Nat → List Nat} (h : Rws w g k N vs P) {bo : Option Addr} {cap : Nat} (ho : w.ownsRow S 5 1 (.slice bo (P k).length cap) (P k).length ((P k).map byt)) (hS : g < S) :
    Rws (w.setCell ⟨g, k, none⟩ (.slice bo (P k).length cap)) g (k + 1) N (fun i => if i = k then .slice bo (P k).length cap else vs i) P := by
  have hK : Kept [g] w (w.setCell ⟨g, k, none⟩ (.slice bo (P k).length cap)) := (Kept.refl [g] w).setCell (p := ⟨g, k, none⟩) (.inl (by simp)) _
  refine ⟨?_, fun i hi => ?_⟩
  · rw [heap_setCell_at h.out, List.setIfInBounds_toArray, slC_set]
  · by_cases e : i = k
    · subst e
      have hb : ∀ b o, bo = some ⟨b, o, none⟩ → g < b := fun b o e => by
        subst e
        have := (own_block ho).1
        omega
      have hc : (P i).length ≤ cap := by
        rcases ho.2 with ⟨h1, h2⟩ | ⟨g', cap', cur, h1, _, _, h4, _⟩
        · omega
        · injection h1 with a b c; omega
      exact ⟨bo, cap, by simp, hc, reads_kept (reads_row ho) hK (fun b o e => Nat.ne_of_gt (hb b o e)), hb⟩
    · obtain ⟨b1, c1, h1, h2, h3, h4⟩ := h.row i (by omega)
      exact ⟨b1, c1, by simp [e, h1], h2, reads_kept h3 hK (fun b o e => Nat.ne_of_gt (h4 b o e)), h4⟩
theorem Rws.kept1 {w w' : World} {g k N x : Nat} {vs : Nat → Value} {P : Nat → List Nat} (h : Rws w g k N vs P) (hk : Kept [x] w w') (hx : x < g) : Rws w' g k N vs P :=
  ⟨hk.heap h.out (by simp; omega), fun i hi => by obtain ⟨bo, cap, h1, h2, h3, h4⟩ := h.row i hi; exact ⟨bo, cap, h1, h2, reads_kept h3 hk (fun b o e => by have := h4 b o e; omega), h4⟩⟩
theorem Rws.mc {w : World} {g N : Nat} {vs : Nat → Value} {P : Nat → List Nat} (h : Rws w g N N vs P) : Py.MC w (some ⟨g, 0, none⟩) ((List.range N).map P) := by
  refine .inr ⟨g, 0, rfl, fun i hi => ?_⟩
  have hi : i < N := by simpa using hi
  have e : ((List.range N).map P).getD i [] = P i := by
    rw [List.getD_eq_getElem?_getD, List.getElem?_map, List.getElem?_range hi]; rfl
  rw [e]
  obtain ⟨bo, cap, h1, h2, h3, _⟩ := h.row i hi
  refine ⟨bo, cap, ?_, h2, h3⟩
  rw [Nat.zero_add]
  refine cellAt h.out ?_
  rw [List.getElem?_toArray]
  unfold slC
  rw [Tl.fl_at _ _ _ hi, if_pos hi, h1]

set_option maxHeartbeats 8000000 in
set_option maxRecDepth 1000000 in
theorem try_any (W H D : Int) (A : Bool) (po : Option Addr) (m d : Nat) (sw sh : Int) (lo : Option Addr) (n c : Nat) (cap : Int) (p : Nat) (G : Nat) (r : Nat → Int) (N : Nat) (bw bh : Nat → Nat → Nat) (f : Nat → Nat → Nat → Nat) (X : Nat → Nat → Nat × Nat) (w : World)
    (HJ : ∀ k, k < N → ∀ u, Kept [] w u → Jb u W H D A po m d sw sh lo n c cap (p : Int) G (k : Int) r (bw k) (bh k) (f k) (X k))
    (HC : ∀ u, Kept [] w u → Calls Tryz.prog 43 #[.pointer (some ⟨G, 0, none⟩)] u fun e w' => e = .returned (.int .i64 (N : Int)) ∧ Kept [] u w') (h1 : 1 ≤ N) (h2 : N ≤ 70000) (hp : p ≤ 16) (hl : ∀ k, k < N → (payL (X k) m).length ≤ 20000000) :
    Calls Tryz.prog 45 #[jbv W H D A po m d sw sh lo n c cap (p : Int) (some ⟨G, 0, none⟩), rgv r] w fun e w' => ∃ g, e = .returned (dfv W H D A sw sh r N p (rcl (lnf ((List.range N).map fun k => payL (X k) m)) N p) (some ⟨g, 0, none⟩) N) ∧ w.heap.size ≤ g ∧ Py.MC w' (some ⟨g, 0, none⟩) ((List.range N).map fun k => payL (X k) m) ∧ Kept [] w w' := by
  obtain ⟨w1, e1⟩ : ∃ w1, w.alloc (.cells #[.int .i64 W, .int .i64 H, .int .i64 D, .bool A, .slice po m d, .int .i64 sw, .int .i64 sh, .slice lo n c, .int .i64 cap, .int .i64 (p : Int), .pointer (some ⟨G, 0, none⟩)] 97 (0, 0)) = w1 := ⟨_, rfl⟩
  obtain ⟨w2, e2⟩ : ∃ w2, w1.alloc (.cells #[.int .i64 (r 0), .int .i64 (r 1), .int .i64 (r 2), .int .i64 (r 3)] 25 (0, 0)) = w2 := ⟨_, rfl⟩
  obtain ⟨w3, e3⟩ : ∃ w3, w2.alloc (.cells #[.int .i64 0, .int .i64 0, .int .i64 0, .bool false, .int .i64 0, .int .i64 0, .int .i64 0, .int .i64 0, .int .i64 0, .int .i64 0, .int .i64 0, .int .i64 0, .int .i64 0, .slice none 0 0] 105 (0, 0)) = w3 := ⟨_, rfl⟩
  obtain ⟨B, eB⟩ : ∃ B, w.heap.size = B := ⟨_, rfl⟩
  have z1 : w1.heap.size = B + 1 := by rw [← e1, ← eB]; exact Array.size_push _
  have z2 : w2.heap.size = B + 1 + 1 := by rw [← z1, ← e2]; exact Array.size_push _
  have k1 : Kept [] w w1 := by rw [← e1]; exact (Kept.refl [] w).alloc _
  have k2 : Kept [] w1 w2 := by rw [← e2]; exact (Kept.refl [] w1).alloc _
  have k3 : Kept [] w2 w3 := by rw [← e3]; exact (Kept.refl [] w2).alloc _
  have HB0 := Hid.mk ((k2.trans k3).heap (show w1.heap[B]? = some (.cells #[.int .i64 W, .int .i64 H, .int .i64 D, .bool A, .slice po m d, .int .i64 sw, .int .i64 sh, .slice lo n c, .int .i64 cap, .int .i64 (p : Int), .pointer (some ⟨G, 0, none⟩)] 97 (0, 0)) by rw [← e1, ← eB]; exact heap_alloc_new _ _) (by simp))
  have HB1 := Hid.mk (k3.heap (show w2.heap[B + 1]? = some (.cells #[.int .i64 (r 0), .int .i64 (r 1), .int .i64 (r 2), .int .i64 (r 3)] 25 (0, 0)) by rw [← e2, ← z1]; exact heap_alloc_new _ _) (by simp))
  have HB2 := Hid.mk (show w3.heap[B + 1 + 1]? = some (.cells #[.int .i64 0, .int .i64 0, .int .i64 0, .bool false, .int .i64 0, .int .i64 0, .int .i64 0, .int .i64 0, .int .i64 0, .int .i64 0, .int .i64 0, .int .i64 0, .int .i64 0, .slice none 0 0] 105 (0, 0)) by rw [← e3, ← z2]; exact heap_alloc_new _ _)
  have K3 := Hid.mk ((k1.trans k2).trans k3)
  have CJ := Hid.mk HJ
  have CC := Hid.mk (HC w3 K3.out)
  have HB := Hid.mk eB
  have j10 := cellAt (i := 10) HB0.out rfl
  have HLL := Hid.mk hl
  clear HJ HC k1 k2 k3 hl
  go_enter Tryz.func45, Tryz.ntmps45
  go_wp2_with (fail)
  clear e1 e2 e3 z1 z2 eB
  refine CC.out.mono ?_
  rintro e w4 ⟨rfl, k4⟩
  obtain ⟨w5, m5, i5, k5⟩ := make_slc N (by omega) w4
  obtain ⟨g, eg⟩ : ∃ g, w4.heap.size = g := ⟨_, rfl⟩
  rw [eg] at m5 i5
  have K5 := Hid.mk (k4.trans k5)
  have HG4 := Hid.mk k4.size
  have I5 : Hid (Rws w5 g 0 N (fun _ => .slice none 0 0) (fun k => payL (X k) m)) := Hid.mk ⟨by rw [slC_zero]; exact i5, fun i hi => by omega⟩
  have EG : Hid (w3.heap.size ≤ g ∧ g < w5.heap.size) := Hid.mk ⟨by rw [← eg]; exact k4.size, lt_of_block i5⟩
  clear i5 k5 k4 j10 CC
  go_wp2
  clear m5 eg
  go_loopw [13] (fun i wr => ∃ (k : Nat) (vs : Nat → Value), k ≤ N ∧ i = .int .i64 (k : Int) ∧ Hid (Rws wr g k N vs (fun k => payL (X k) m) ∧ Kept [] w3 wr ∧ g < wr.heap.size)) (fun i _ => N - (intOf i).toNat)
  case atStart => exact ⟨0, _, Nat.zero_le _, rfl, Hid.mk ⟨I5.out, K5.out, EG.out.2⟩⟩
  case round =>
    obtain ⟨k, vs, hk, rfl, HI⟩ := hrel
    obtain ⟨j0, j1, j2, j3, j4, j5, j6, j7, j8, j9, j10⟩ := cel11 (HI.out.2.1.heap HB0.out (by simp))
    obtain ⟨q0, q1, q2, q3⟩ := cel4 (HI.out.2.1.heap HB1.out (by simp))
    by_cases hlt : k < N
    · have ik : (k : Int) < (N : Int) := by omega
      have CP := Hid.mk (payload_any W H D A po m d sw sh lo n c cap (p : Int) G (k : Int) r (bw k) (bh k) (f k) (X k) wr (CJ.out k hlt wr (K3.out.trans HI.out.2.1)))
      go_wp2_with (fail)
      refine CP.out.mono ?_
      rintro e w6 ⟨V6, rfl, ho6, k6⟩
      obtain ⟨b6, c6, rfl⟩ := row_form ho6
      have R6 := HI.out.1.keep k6
      have P6 := Hid.mk (R6.put ho6 HI.out.2.2)
      have hcg := cellAt (i := k) (v := .slice none 0 0) R6.out (by rw [List.getElem?_toArray]; unfold slC; rw [Tl.fl_at _ _ _ hlt, if_neg (by omega)])
      have hfg := row_fz R6.out k
      obtain ⟨x, ex⟩ : ∃ x, (payL (X k) m).length = x := ⟨_, rfl⟩
      rw [ex] at P6 ⊢
      have K6 : Hid (Kept [] w3 (w6.setCell ⟨g, k, none⟩ (.slice b6 x c6))) := Hid.mk ((HI.out.2.1.trans k6).setCell (p := ⟨g, k, none⟩) (.inr EG.out.1) _)
      have HZ6 : Hid (g < (w6.setCell ⟨g, k, none⟩ (.slice b6 x c6)).heap.size) := Hid.mk (lt_of_block P6.out.out)
      clear ho6 k6 R6 ex j0 j1 j2 j3 j4 j5 j6 j7 j8 j9 j10 q0 q1 q2 q3
      go_wp2
      go_roundw
      case rel => exact ⟨k + 1, _, by omega, by go_num, Hid.mk ⟨P6.out, K6.out, HZ6.out⟩⟩
      case measure => simp [intOf]; omega
    · obtain rfl : N = k := by omega
      have HMC := Hid.mk HI.out.1.mc
      obtain ⟨PL, ePL⟩ : ∃ PL, (List.range N).map (fun k => payL (X k) m) = PL := ⟨_, rfl⟩
      have HPN : PL.length = N := by rw [← ePL]; simp
      have HPL : ∀ i, i < N → lnf PL i ≤ 20000000 := fun i hi => by
        unfold lnf
        rw [← ePL, List.getD_eq_getElem?_getD, List.getElem?_map, List.getElem?_range hi]
        exact HLL.out i hi
      rw [ePL] at HMC
      have CD := Hid.mk (newDraft_any W H D A sw sh lo n c cap p r (some ⟨g, 0, none⟩) N N PL wr HMC.out HPN h1 h2 hp HPL)
      obtain ⟨ln, eln⟩ : ∃ x, rcl (lnf PL) N p = x := ⟨_, rfl⟩
      rw [eln] at CD
      have ELN := Hid.mk (And.intro eln ePL)
      have KI := Hid.mk HI.out.2.1
      have HRW := Hid.mk HI.out.1
      clear hlt hk h1 h2 hp eln ePL HPN HPL HI
      go_wp2_with (fail)
      refine CD.out.mono ?_
      rintro e w7 ⟨rfl, k7⟩
      have hD := (KI.out.trans k7).heap HB2.out (by simp)
      have S9 := setAll_row [.int .i64 W, .int .i64 H, .int .i64 D, .bool A, .int .i64 sw, .int .i64 sh, .int .i64 (r 0), .int .i64 (r 1), .int .i64 (r 2), .int .i64 (r 3), .int .i64 (N : Int), .int .i64 (p : Int), .int .i64 (ln : Int), .slice (some ⟨g, 0, none⟩) N N] 0 w7 [] _ hD rfl rfl
      simp only [setAll] at S9
      have S9 := Hid.mk S9
      obtain ⟨d0, d1, d2, d3, d4, d5, d6, d7, d8, d9, d10, d11, d12, d13⟩ := cel14 hD
      have dz := row_fz hD
      have K7 := Hid.mk (KI.out.trans k7)
      have M7 := Hid.mk (HRW.out.keep k7)
      clear hD k7 j0 j1 j2 j3 j4 j5 j6 j7 j8 j9 j10 q0 q1 q2 q3
      go_wp2
      refine bodyPost_ret (v := dfv W H D A sw sh r N p ln (some ⟨g, 0, none⟩) N) ?_ rfl ⟨g, by rw [ELN.out.2, ELN.out.1], ?_, ?_, ?_⟩
      · exact results_cell_row rfl _ _ (B + 1 + 1) 105 _ (0, 0) _ rfl S9.out.1 Tryz.underlying105 rfl Tryz.infoD
      · exact Nat.le_trans K3.out.size EG.out.1
      · exact (M7.out.kept1 S9.out.2 (by have h9 := EG.out.1; have h8 := lt_of_block HB2.out; omega)).mc
      · exact (K3.out.trans K7.out).step S9.out.2 (fun x hx => by simp at hx; subst hx; exact .inr (by have := HB.out; omega))
end Go.Proofs.YthhegomjipbdbaaGreatDoor.Pc

namespace Go.Proofs.YthhegomjipbdbaaGreatDoor.Pc
open Go.RowKit

theorem Tryz.infoC : (Tryz.prog.info? 59).map (·.size) = some 6 := by kernel_rfl
/-- What is coded, as a value. -/
abbrev cdv (V : Value) (i : Int) (r : Nat → Int) : Value := .agg #[V, .int .i64 i, .int .i64 (r 0), .int .i64 (r 1), .int .i64 (r 2), .int .i64 (r 3)]

set_option maxHeartbeats 8000000 in
set_option maxRecDepth 1000000 in
theorem coded_any (W H D : Int) (A : Bool) (sw sh : Int) (r : Nat → Int) (N p ln : Nat) (g : Nat) (st : Int) (rb : List Nat) (w : World)
    (HR : ∀ u, Kept [] w u → Calls Tryz.prog 73 #[dfv W H D A sw sh r N p ln (some ⟨g, 0, none⟩) N] u fun e w' => ∃ V, e = .returned V ∧ w'.ownsRow u.heap.size 5 1 V ln (rb.map byt) ∧ Kept [] u w') :
    Calls Tryz.prog 46 #[dfv W H D A sw sh r N p ln (some ⟨g, 0, none⟩) N, .int .i64 st] w fun e w' => ∃ bo c, e = .returned (cdv (.slice bo ln c) st r) ∧ w'.ownsRow w.heap.size 5 1 (.slice bo ln c) ln (rb.map byt) ∧ Kept [] w w' := by
  obtain ⟨w1, e1⟩ : ∃ w1, w.alloc (.cells #[.int .i64 W, .int .i64 H, .int .i64 D, .bool A, .int .i64 sw, .int .i64 sh, .int .i64 (r 0), .int .i64 (r 1), .int .i64 (r 2), .int .i64 (r 3), .int .i64 (N : Int), .int .i64 (p : Int), .int .i64 (ln : Int), .slice (some ⟨g, 0, none⟩) N N] 105 (0, 0)) = w1 := ⟨_, rfl⟩
  obtain ⟨w2, e2⟩ : ∃ w2, w1.alloc (.cells #[.slice none 0 0, .int .i64 0, .int .i64 0, .int .i64 0, .int .i64 0, .int .i64 0] 59 (0, 0)) = w2 := ⟨_, rfl⟩
  obtain ⟨B, eB⟩ : ∃ B, w.heap.size = B := ⟨_, rfl⟩
  have z1 : w1.heap.size = B + 1 := by rw [← e1, ← eB]; exact Array.size_push _
  have k1 : Kept [] w w1 := by rw [← e1]; exact (Kept.refl [] w).alloc _
  have k2 : Kept [] w1 w2 := by rw [← e2]; exact (Kept.refl [] w1).alloc _
  have hb := k2.heap (show w1.heap[B]? = some (.cells #[.int .i64 W, .int .i64 H, .int .i64 D, .bool A, .int .i64 sw, .int .i64 sh, .int .i64 (r 0), .int .i64 (r 1), .int .i64 (r 2), .int .i64 (r 3), .int .i64 (N : Int), .int .i64 (p : Int), .int .i64 (ln : Int), .slice (some ⟨g, 0, none⟩) N N] 105 (0, 0)) by rw [← e1, ← eB]; exact heap_alloc_new _ _) (by simp)
  have HC := Hid.mk (show w2.heap[B + 1]? = some (.cells #[.slice none 0 0, .int .i64 0, .int .i64 0, .int .i64 0, .int .i64 0, .int .i64 0] 59 (0, 0)) by rw [← e2, ← z1]; exact heap_alloc_new _ _)
  have RK : Hid (∀ u, Kept [] w2 u → u.cell? ⟨B, 0, none⟩ = some (.int .i64 W) ∧ u.cell? ⟨B, 1, none⟩ = some (.int .i64 H) ∧ u.cell? ⟨B, 2, none⟩ = some (.int .i64 D) ∧ u.cell? ⟨B, 3, none⟩ = some (.bool A) ∧ u.cell? ⟨B, 4, none⟩ = some (.int .i64 sw) ∧ u.cell? ⟨B, 5, none⟩ = some (.int .i64 sh) ∧ u.cell? ⟨B, 6, none⟩ = some (.int .i64 (r 0)) ∧ u.cell? ⟨B, 7, none⟩ = some (.int .i64 (r 1)) ∧ u.cell? ⟨B, 8, none⟩ = some (.int .i64 (r 2)) ∧ u.cell? ⟨B, 9, none⟩ = some (.int .i64 (r 3)) ∧ u.cell? ⟨B, 10, none⟩ = some (.int .i64 (N : Int)) ∧ u.cell? ⟨B, 11, none⟩ = some (.int .i64 (p : Int)) ∧ u.cell? ⟨B, 12, none⟩ = some (.int .i64 (ln : Int)) ∧ u.cell? ⟨B, 13, none⟩ = some (.slice (some ⟨g, 0, none⟩) N N)) := Hid.mk (fun u ku => cel14 (ku.heap hb (by simp)))
  have RK0 := RK.out w2 (Kept.refl _ _)
  have K2 := Hid.mk (k1.trans k2)
  have CR := Hid.mk HR
  have HB := Hid.mk eB
  clear HR k1 k2 hb
  go_enter Tryz.func46, Tryz.ntmps46
  go_wp2_with (fail)
  clear e1 e2 z1 eB
  refine wp_region_held_drew (S := fun u => u.cell? ⟨B, 0, none⟩ = some (.int .i64 W) ∧ u.cell? ⟨B, 1, none⟩ = some (.int .i64 H) ∧ u.cell? ⟨B, 2, none⟩ = some (.int .i64 D) ∧ u.cell? ⟨B, 3, none⟩ = some (.bool A) ∧ u.cell? ⟨B, 4, none⟩ = some (.int .i64 sw) ∧ u.cell? ⟨B, 5, none⟩ = some (.int .i64 sh) ∧ u.cell? ⟨B, 6, none⟩ = some (.int .i64 (r 0)) ∧ u.cell? ⟨B, 7, none⟩ = some (.int .i64 (r 1)) ∧ u.cell? ⟨B, 8, none⟩ = some (.int .i64 (r 2)) ∧ u.cell? ⟨B, 9, none⟩ = some (.int .i64 (r 3)) ∧ u.cell? ⟨B, 10, none⟩ = some (.int .i64 (N : Int)) ∧ u.cell? ⟨B, 11, none⟩ = some (.int .i64 (p : Int)) ∧ u.cell? ⟨B, 12, none⟩ = some (.int .i64 (ln : Int)) ∧ u.cell? ⟨B, 13, none⟩ = some (.slice (some ⟨g, 0, none⟩) N N)) (by kernel_rfl) RK0 (fun hHeld => ?_)
  refine wpAnyH_take (i := 0) (oi := _) (v := ?_) rfl (by kernel_rfl) (by kernel_rfl) (by kernel_rfl) (fun _ _ _ h => h) (Or.inl ⟨by rfl, ?y0⟩) (by assumption) ?r0
  case y0 => (intro w hSw; (try dsimp only at hSw); go_simp; try with_reducible rfl)
  refine wpAnyH_take (i := 2) (oi := _) (v := ?_) rfl (by kernel_rfl) (by kernel_rfl) (by kernel_rfl) (fun _ _ _ h => h) (Or.inl ⟨by rfl, ?y2⟩) (by assumption) ?r2
  case y2 => (intro w hSw; (try dsimp only at hSw); go_simp; try with_reducible rfl)
  refine wpAnyH_take (i := 3) (oi := _) (v := ?_) rfl (by kernel_rfl) (by kernel_rfl) (by kernel_rfl) (fun _ _ _ h => h) (Or.inl ⟨by rfl, ?y3⟩) (by assumption) ?r3
  case y3 => (intro w hSw; (try dsimp only at hSw); go_simp; try with_reducible rfl)
  refine wpAnyH_take (i := 4) (oi := _) (v := ?_) rfl (by kernel_rfl) (by kernel_rfl) (by kernel_rfl) (fun _ _ _ h => h) (Or.inl ⟨by rfl, ?y4⟩) (by assumption) ?r4
  case y4 => (intro w hSw; (try dsimp only at hSw); go_simp; try with_reducible rfl)
  refine wpAnyH_take (i := 5) (oi := _) (v := ?_) rfl (by kernel_rfl) (by kernel_rfl) (by kernel_rfl) (fun _ _ _ h => h) (Or.inl ⟨by rfl, ?y5⟩) (by assumption) ?r5
  case y5 => (intro w hSw; (try dsimp only at hSw); go_simp; try with_reducible rfl)
  refine wpAnyH_ready (rs := [1]) (by kernel_rfl) (by simp) ?_
  refine AllReadyH.cons rfl (fun K hK => ?_) AllReadyH.nil
  go_simp
  go_at_call 73
  refine (CR.out _ (K2.out.drew)).mono ?_
  rintro e w3 ⟨V3, rfl, ho3, k3⟩
  obtain ⟨b3, c3, rfl⟩ := row_form ho3
  have K3 : Hid (Kept [] w2 w3) := Hid.mk (((Kept.refl [] w2).drew).trans k3)
  have HC3 := K3.out.heap HC.out (by simp)
  obtain ⟨w4, e4, h4, k4⟩ := row_set #[.slice b3 ln c3, .int .i64 st, .int .i64 (r 0), .int .i64 (r 1), .int .i64 (r 2), .int .i64 (r 3)] HC3
  have HO4 : Hid (w4.ownsRow w.heap.size 5 1 (.slice b3 ln c3) ln (rb.map byt)) := Hid.mk (own_base (k4.row ho3 (fun b hb => by
    have h9 := (own_lo ho3 hb).1
    have h8 := lt_of_block HC.out
    simp only [List.mem_singleton]
    have h7 : w2.drew.heap.size = w2.heap.size := rfl
    omega)) K2.out.size)
  have K4 : Hid (Kept [] w w4) := Hid.mk ((K2.out.trans K3.out).step k4 (fun x hx => by simp at hx; subst hx; exact .inr (by have := HB.out; omega)))
  have H4 := Hid.mk h4
  have K4b := Hid.mk k4
  clear ho3 k3 h4 k4
  refine hK.out _ _ (RK.out _ K3.out) (fun hHeld => ?_)
  clear hK K
  refine wpAnyH_take (i := 6) (oi := _) (v := ?_) rfl (by kernel_rfl) (by kernel_rfl) (by kernel_rfl) (fun _ _ _ h => h) (Or.inl ⟨by rfl, ?y6⟩) (by assumption) ?r6
  case y6 => (intro w hSw; (try dsimp only at hSw); go_simp; try with_reducible rfl)
  refine wpAnyH_ready (rs := [7]) (by kernel_rfl) (by simp) ?_
  refine AllReadyH.cons rfl (fun K hK => ?_) AllReadyH.nil
  rw [if_pos (by rfl)]
  refine wp_store_row 59 (.tmp 4) (.tmp 11) rfl (B + 1) #[.slice b3 ln c3, .int .i64 st, .int .i64 (r 0), .int .i64 (r 1), .int .i64 (r 2), .int .i64 (r 3)] rfl rfl 59 _ HC3 Tryz.infoC rfl (by simp [Value.oneCell']) ?_
  rw [e4]
  have RK4 : w4.cell? ⟨B, 0, none⟩ = some (.int .i64 W) ∧ w4.cell? ⟨B, 1, none⟩ = some (.int .i64 H) ∧ w4.cell? ⟨B, 2, none⟩ = some (.int .i64 D) ∧ w4.cell? ⟨B, 3, none⟩ = some (.bool A) ∧ w4.cell? ⟨B, 4, none⟩ = some (.int .i64 sw) ∧ w4.cell? ⟨B, 5, none⟩ = some (.int .i64 sh) ∧ w4.cell? ⟨B, 6, none⟩ = some (.int .i64 (r 0)) ∧ w4.cell? ⟨B, 7, none⟩ = some (.int .i64 (r 1)) ∧ w4.cell? ⟨B, 8, none⟩ = some (.int .i64 (r 2)) ∧ w4.cell? ⟨B, 9, none⟩ = some (.int .i64 (r 3)) ∧ w4.cell? ⟨B, 10, none⟩ = some (.int .i64 (N : Int)) ∧ w4.cell? ⟨B, 11, none⟩ = some (.int .i64 (p : Int)) ∧ w4.cell? ⟨B, 12, none⟩ = some (.int .i64 (ln : Int)) ∧ w4.cell? ⟨B, 13, none⟩ = some (.slice (some ⟨g, 0, none⟩) N N) := by
    obtain ⟨f0, f1, f2, f3, f4, f5, f6, f7, f8, f9, f10, f11, f12, f13⟩ := RK.out _ K3.out
    have hn : B ∉ [B + 1] := by simp
    exact ⟨Tl.cell_keep K4b.out f0 hn, Tl.cell_keep K4b.out f1 hn, Tl.cell_keep K4b.out f2 hn, Tl.cell_keep K4b.out f3 hn, Tl.cell_keep K4b.out f4 hn, Tl.cell_keep K4b.out f5 hn, Tl.cell_keep K4b.out f6 hn, Tl.cell_keep K4b.out f7 hn, Tl.cell_keep K4b.out f8 hn, Tl.cell_keep K4b.out f9 hn, Tl.cell_keep K4b.out f10 hn, Tl.cell_keep K4b.out f11 hn, Tl.cell_keep K4b.out f12 hn, Tl.cell_keep K4b.out f13 hn⟩
  refine hK.out _ _ RK4 (fun hHeld => ?_)
  clear hK K RK4
  refine wpAnyH_done (by kernel_rfl) ?_ _
  clear hHeld HC3 e4
  go_wp2
  refine bodyPost_ret (v := cdv (.slice b3 ln c3) st r) ?_ rfl ⟨b3, c3, rfl, HO4.out, K4.out⟩
  exact results_cell_row rfl _ _ (B + 1) 59 _ (0, 0) _ rfl H4.out Tryz.underlying59 rfl Tryz.infoC

/-- A job that may be coded: what each rung comes to. -/
structure Jw (w : World) (W H D : Int) (A : Bool) (po : Option Addr) (m d : Nat) (sw sh : Int) (lo : Option Addr) (n c : Nat) (cap : Int) (p : Nat) (G N : Nat) (L : Nat → Nat → Int) (LN : Nat → Nat) (PS : Nat → List (List Nat)) (RB : Nat → List Nat) : Prop where
  tr : ∀ i, i < n → ∀ u, Kept [] w u → Calls Tryz.prog 45 #[jbv W H D A po m d sw sh lo n c cap (p : Int) (some ⟨G, 0, none⟩), rgv (L i)] u fun e w' => ∃ g, e = .returned (dfv W H D A sw sh (L i) N p (LN i) (some ⟨g, 0, none⟩) N) ∧ Py.MC w' (some ⟨g, 0, none⟩) (PS i) ∧ Kept [] u w'
  cd : ∀ i, i < n → ∀ u g, Kept [] w u → Py.MC u (some ⟨g, 0, none⟩) (PS i) → Calls Tryz.prog 46 #[dfv W H D A sw sh (L i) N p (LN i) (some ⟨g, 0, none⟩) N, .int .i64 (i : Int)] u fun e w' => ∃ bo c, e = .returned (cdv (.slice bo (LN i) c) (i : Int) (L i)) ∧ w'.ownsRow u.heap.size 5 1 (.slice bo (LN i) c) (LN i) ((RB i).map byt) ∧ Kept [] u w'
theorem Jw.keep {w w' : World} {W H D : Int} {A : Bool} {po : Option Addr} {m d : Nat} {sw sh : Int} {lo : Option Addr} {n c : Nat} {cap : Int} {p G N : Nat} {L : Nat → Nat → Int} {LN : Nat → Nat} {PS : Nat → List (List Nat)} {RB : Nat → List Nat} (h : Jw w W H D A po m d sw sh lo n c cap p G N L LN PS RB) (hk : Kept [] w w') : Jw w' W H D A po m d sw sh lo n c cap p G N L LN PS RB :=
  ⟨fun i hi u ku => h.tr i hi u (hk.trans ku), fun i hi u g ku => h.cd i hi u g (hk.trans ku)⟩
/-- What climb comes to. -/
def ClPost (w : World) (n : Nat) (L : Nat → Nat → Int) (LN : Nat → Nat) (RB : Nat → List Nat) (most : Int) (e : Ending) (w' : World) : Prop :=
  (∃ i, i < n ∧ (LN i : Int) ≤ most ∧ (∀ j, j < i → most < (LN j : Int)) ∧ ∃ bo c, e = .returned (.tuple #[cdv (.slice bo (LN i) c) (i : Int) (L i), .int .i64 0]) ∧ w'.ownsRow w.heap.size 5 1 (.slice bo (LN i) c) (LN i) ((RB i).map byt) ∧ Kept [] w w') ∨
  ((∀ j, j < n → most < (LN j : Int)) ∧ e = .returned (.tuple #[cdv (.slice none 0 0) 0 (fun _ => 0), .int .i64 122]) ∧ Kept [] w w')

set_option maxHeartbeats 8000000 in
set_option maxRecDepth 1000000 in
theorem climb_any (W H D : Int) (A : Bool) (po : Option Addr) (m d : Nat) (sw sh : Int) (lo : Option Addr) (n c : Nat) (cap : Int) (p : Nat) (G N : Nat) (L : Nat → Nat → Int) (LN : Nat → Nat) (PS : Nat → List (List Nat)) (RB : Nat → List Nat) (most : Int) (w : World) (hJ : Jw w W H D A po m d sw sh lo n c cap p G N L LN PS RB) (hL : Ldr w lo n L) (hn : n ≤ 1000) :
    Calls Tryz.prog 51 #[.slice lo n c, .int .i64 most, .func (.func 45) #[jbv W H D A po m d sw sh lo n c cap (p : Int) (some ⟨G, 0, none⟩)] #[]] w fun e w' => ClPost w n L LN RB most e w' := by
  obtain ⟨w1, e1⟩ : ∃ w1, w.alloc (.cells #[.slice none 0 0, .int .i64 0, .int .i64 0, .int .i64 0, .int .i64 0, .int .i64 0] 59 (0, 0)) = w1 := ⟨_, rfl⟩
  obtain ⟨B, eB⟩ : ∃ B, w.heap.size = B := ⟨_, rfl⟩
  have k1 : Kept [] w w1 := by rw [← e1]; exact (Kept.refl [] w).alloc _
  have HC := Hid.mk (show w1.heap[B]? = some (.cells #[.slice none 0 0, .int .i64 0, .int .i64 0, .int .i64 0, .int .i64 0, .int .i64 0] 59 (0, 0)) by rw [← e1, ← eB]; exact heap_alloc_new _ _)
  have HJ := Hid.mk (hJ.keep k1)
  have HL := Hid.mk (hL.keep k1)
  have K1 := Hid.mk k1
  have HB := Hid.mk eB
  clear hJ hL k1
  go_enter Tryz.func51, Tryz.ntmps51
  go_wp2
  clear e1 eB
  go_loopw [13] (fun i wr => ∃ k : Nat, k ≤ n ∧ i = .int .i64 (k : Int) ∧ Hid (Kept [] w1 wr ∧ ∀ j, j < k → most < (LN j : Int))) (fun i _ => n - (intOf i).toNat)
  case atStart => exact ⟨0, Nat.zero_le _, rfl, Hid.mk ⟨Kept.refl _ _, fun j hj => by omega⟩⟩
  case round =>
    obtain ⟨k, hk, rfl, HI⟩ := hrel
    by_cases hlt : k < n
    · obtain ⟨gl, off, rfl, c0, c1, c2, c3⟩ := (HL.out.keep HI.out.1).at hlt
      have ix : (k : Int) < (n : Int) := by omega
      have C1 := Hid.mk (fun u ku => HJ.out.tr k hlt u (HI.out.1.trans ku))
      have C2 := Hid.mk (fun u g ku hm => HJ.out.cd k hlt u g (HI.out.1.trans ku) hm)
      have HLT := Hid.mk hlt
      have HRr : Hid (∀ V, cdv V (k : Int) (L k) = .agg #[V, .int .i64 (k : Int), .int .i64 (L k 0), .int .i64 (L k 1), .int .i64 (L k 2), .int .i64 (L k 3)]) := Hid.mk (fun V => rfl)
      obtain ⟨rr, er⟩ : ∃ rr, L k = rr := ⟨_, rfl⟩
      rw [er] at C1 C2 c0 c1 c2 c3
      have ER := Hid.mk er
      obtain ⟨ln, eln⟩ : ∃ ln, LN k = ln := ⟨_, rfl⟩
      rw [eln] at C1 C2
      have ELN := Hid.mk eln
      obtain ⟨a0, g0⟩ : ∃ a, rr 0 = a := ⟨_, rfl⟩
      obtain ⟨a1, g1⟩ : ∃ a, rr 1 = a := ⟨_, rfl⟩
      obtain ⟨a2, g2⟩ : ∃ a, rr 2 = a := ⟨_, rfl⟩
      obtain ⟨a3, g3⟩ : ∃ a, rr 3 = a := ⟨_, rfl⟩
      simp only [rgv, dfv, cdv, g0, g1, g2, g3] at C1 C2 c0 c1 c2 c3
      have EA : Hid (rr 0 = a0 ∧ rr 1 = a1 ∧ rr 2 = a2 ∧ rr 3 = a3) := Hid.mk ⟨g0, g1, g2, g3⟩
      obtain ⟨w3, e3⟩ : ∃ w3, wr.alloc (.cells #[.int .i64 a0, .int .i64 a1, .int .i64 a2, .int .i64 a3] 25 (0, 0)) = w3 := ⟨_, rfl⟩
      have k3 : Kept [] wr w3 := by rw [← e3]; exact (Kept.refl [] wr).alloc _
      obtain ⟨v0, v1, v2, v3⟩ := cel4 (show w3.heap[wr.heap.size]? = some (.cells #[.int .i64 a0, .int .i64 a1, .int .i64 a2, .int .i64 a3] 25 (0, 0)) by rw [← e3]; exact heap_alloc_new _ _)
      have K3 := Hid.mk k3
      clear er eln g0 g1 g2 g3 k3
      go_wp2_with (fail)
      clear e3
      refine (C1.out w3 K3.out).mono ?_
      rintro e w4 ⟨g4, rfl, hm4, k4⟩
      obtain ⟨w5, e5⟩ : ∃ w5, w4.alloc (.cells #[.int .i64 W, .int .i64 H, .int .i64 D, .bool A, .int .i64 sw, .int .i64 sh, .int .i64 a0, .int .i64 a1, .int .i64 a2, .int .i64 a3, .int .i64 (N : Int), .int .i64 (p : Int), .int .i64 (ln : Int), .slice (some ⟨g4, 0, none⟩) N N] 105 (0, 0)) = w5 := ⟨_, rfl⟩
      have k5 : Kept [] w4 w5 := by rw [← e5]; exact (Kept.refl [] w4).alloc _
      obtain ⟨q0, q1, q2, q3, q4, q5, q6, q7, q8, q9, q10, q11, q12, q13⟩ := cel14 (show w5.heap[w4.heap.size]? = _ by rw [← e5]; exact heap_alloc_new _ _)
      have K5 := Hid.mk ((K3.out.trans k4).trans k5)
      have HM5 := Hid.mk (hm4.keep k5)
      clear k4 k5 hm4 v0 v1 v2 v3 c0 c1 c2 c3 C1
      by_cases hle : (ln : Int) ≤ most
      · have C3 := Hid.mk (C2.out w5 g4 K5.out HM5.out)
        have HLE := Hid.mk hle
        go_wp2_with (fail)
        clear e5 q0 q1 q2 q3 q4 q5 q6 q7 q8 q9 q10 q11 q12 q13
        refine C3.out.mono ?_
        rintro e w6 ⟨bo, cb, rfl, ho6, k6⟩
        have K6 := Hid.mk ((HI.out.1.trans K5.out).trans k6)
        have hC := K6.out.heap HC.out (by simp)
        have S9 := setAll_row [.slice bo ln cb, .int .i64 (k : Int), .int .i64 a0, .int .i64 a1, .int .i64 a2, .int .i64 a3] 0 w6 [] _ hC rfl rfl
        simp only [setAll] at S9
        have HO9 := Hid.mk (own_base (S9.2.row ho6 (fun b hb => by
          have h9 := (own_lo ho6 hb).1
          have h8 := lt_of_block HC.out
          have h7 := (HI.out.1.trans K5.out).size
          simp only [List.mem_singleton]
          omega)) (Nat.le_trans K1.out.size (HI.out.1.trans K5.out).size))
        have S9 := Hid.mk S9
        obtain ⟨d0, d1, d2, d3, d4, d5⟩ := cel6 hC
        have dz := row_fz hC
        clear hC ho6 k6 C3 C2
        go_wp2
        refine bodyPost_ret (v := .tuple #[.agg #[.slice bo ln cb, .int .i64 (k : Int), .int .i64 a0, .int .i64 a1, .int .i64 a2, .int .i64 a3], .int .i64 0]) ?_ rfl (.inl ⟨k, HLT.out, by rw [ELN.out]; exact HLE.out, HI.out.2, bo, cb, ?_, ?_, ?_⟩)
        · exact Tl.results_two rfl _ _ B 59 _ (0, 0) _ _ rfl S9.out.1 Tryz.underlying59 Tryz.infoC rfl
        · obtain ⟨x0, x1, x2, x3⟩ := EA.out
          rw [ELN.out, ER.out, ← x0, ← x1, ← x2, ← x3]
        · rw [ELN.out]; exact HO9.out
        · exact (K1.out.trans K6.out).step S9.out.2 (fun x hx => by simp at hx; subst hx; exact .inr (by rw [HB.out]; exact Nat.le_refl _))
      · have HGT : Hid (most < (LN k : Int)) := Hid.mk (by rw [ELN.out]; omega)
        have dle : decide ((ln : Int) ≤ most) = false := by simpa using hle
        clear C2 hle
        go_wp2
        go_roundw
        case rel => exact ⟨k + 1, by omega, by go_num, Hid.mk ⟨HI.out.1.trans K5.out, fun j hj => by
          by_cases e : j = k
          · subst e; exact HGT.out
          · exact HI.out.2 j (by omega)⟩⟩
        case measure => simp [intOf]; omega
    · obtain rfl : n = k := by omega
      have hC := HI.out.1.heap HC.out (by simp)
      have S9 := setAll_row [.slice none 0 0, .int .i64 0, .int .i64 0, .int .i64 0, .int .i64 0, .int .i64 0] 0 wr [] _ hC rfl rfl
      simp only [setAll] at S9
      have S9 := Hid.mk S9
      obtain ⟨d0, d1, d2, d3, d4, d5⟩ := cel6 hC
      have dz := row_fz hC
      clear hC
      go_wp2
      refine bodyPost_ret (v := .tuple #[.agg #[.slice none 0 0, .int .i64 0, .int .i64 0, .int .i64 0, .int .i64 0, .int .i64 0], .int .i64 122]) ?_ rfl (.inr ⟨HI.out.2, rfl, ?_⟩)
      · exact Tl.results_two rfl _ _ B 59 _ (0, 0) _ _ rfl S9.out.1 Tryz.underlying59 Tryz.infoC rfl
      · exact (K1.out.trans HI.out.1).step S9.out.2 (fun x hx => by simp at hx; subst hx; exact .inr (by rw [HB.out]; exact Nat.le_refl _))
end Go.Proofs.YthhegomjipbdbaaGreatDoor.Pc
