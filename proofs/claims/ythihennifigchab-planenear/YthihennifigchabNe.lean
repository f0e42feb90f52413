import Derived.Test.YthihennifigchabNd
namespace Go.Proofs.Ythihennifigchab
open Go.RowKit

theorem Ln.keep0 {w0 w w' : World} {LB : Nat} {V : Value} {n : Nat} {bs ln : Nat → Nat} {F : Nat → Nat → Nat} (h : Ln w0 w LB V n bs ln F) (hk : Kept [] w w') : Ln w0 w' LB V n bs ln F :=
  ⟨hk.heap h.lst (by simp), h.all.keep0 hk, h.new, h.oth, h.kept.trans hk⟩
theorem Ln.pl {w0 w : World} {LB : Nat} {V : Value} {n : Nat} {bs ln : Nat → Nat} {F : Nat → Nat → Nat} (h : Ln w0 w LB V n bs ln F) : Pl w (some ⟨LB, 0, none⟩) n ln F := by
  refine .inr ⟨LB, 0, rfl, fun i hi => ⟨some ⟨bs i, 0, none⟩, ln i + 7, ?_, .inr ⟨bs i, 0, rfl, fun j hj => ?_⟩⟩⟩
  · rw [Nat.zero_add, cell_of_row _ _ _ _ _ _ h.lst, List.getElem?_toArray, fl_at _ _ _ (by omega)]
    unfold lsC
    rw [if_pos hi]
  · rw [Nat.zero_add]
    exact (h.all.row i hi).at (by omega)
theorem Ln.plF {w0 w : World} {LB : Nat} {V : Value} {n : Nat} {bs ln : Nat → Nat} {F : Nat → Nat → Nat} (h : Ln w0 w LB V n bs ln (fun i => ltF (F i) (ln i))) : Pl w (some ⟨LB, 0, none⟩) n ln F := by
  rcases h.pl with h0 | ⟨g, off, e, hc⟩
  · exact .inl h0
  · refine .inr ⟨g, off, e, fun i hi => ?_⟩
    obtain ⟨bo, c, h1, h2⟩ := hc i hi
    exact ⟨bo, c, h1, h2.congr (fun j hj => if_pos hj)⟩
/-- Samples beyond what is there are none. -/
theorem Pc.nice {w : World} {po : Option Addr} {n : Nat} {ln : Nat → Nat} {F : Nat → Nat → Nat} (h : Pc w po n ln F) (hF : ∀ i, i < n → ∀ j, j < ln i → F i j < 65536) : ∃ G, Pc w po n ln G ∧ ∀ i j, G i j < 65536 := by
  refine ⟨fun i j => if i < n ∧ j < ln i then F i j else 0, ?_, fun i j => ?_⟩
  · rcases h with h | ⟨g, off, e, hc⟩
    · exact .inl h
    · refine .inr ⟨g, off, e, fun i hi => ?_⟩
      obtain ⟨bo, c, h1, h2, h3⟩ := hc i hi
      exact ⟨bo, c, h1, h2, h3.congr (fun j hj => (if_pos ⟨hi, hj⟩).symm)⟩
  · show (if i < n ∧ j < ln i then F i j else 0) < 65536
    split
    · rename_i h; exact hF i h.1 j h.2
    · decide
/-- One sample is written. -/
theorem Ln.upd {w0 w : World} {LB : Nat} {V : Value} {n : Nat} {bs ln : Nat → Nat} {F : Nat → Nat → Nat} (h : Ln w0 w LB V n bs ln F) {P K v : Nat} (hP : P < n) : Ln w0 (w.setCell ⟨bs P, K, none⟩ (.int .u16 (v : Int))) LB V n bs ln (updF F P K v) := by
  have Ks : Kept [bs P] w (w.setCell ⟨bs P, K, none⟩ (.int .u16 (v : Int))) := (Kept.refl _ _).setCell (p := ⟨bs P, K, none⟩) (.inl (by simp)) _
  refine ⟨Ks.heap h.lst (by
    simp
    intro e
    have h1 := h.all.row P hP
    have h2 := h.lst
    unfold Row at h1
    rw [← e, h2] at h1
    simp at h1), ⟨Ks.row h.all.own (fun g hg => by
    simp
    intro e
    subst e
    exact own_row h.all.own (h.all.row P hP) hg), fun i hi => ?_, h.all.mon, h.all.lo⟩, h.new, h.oth, h.kept.setCell (p := ⟨bs P, K, none⟩) (.inr (h.all.lo P hP)) _⟩
  unfold updF
  by_cases e : i = P
  · subst e
    rw [if_pos rfl]
    exact (h.all.row i hi).set
  · rw [if_neg e]
    refine (h.all.row i hi).keep Ks ?_
    simp
    intro e2
    rcases Nat.lt_trichotomy i P with h1 | h1 | h1
    · have := h.all.mon i P h1 hP; omega
    · exact e h1
    · have := h.all.mon P i h1 hi; omega

set_option maxHeartbeats 32000000 in
set_option maxRecDepth 1000000 in
theorem near_any (W H D : Int) (A : Bool) (po : Option Addr) (n c : Nat) (ln : Nat → Nat) (F0 : Nat → Nat → Nat) (a x y v : Int) (w : World) (hr0 : Pc w po n ln F0) (hn : n ≤ 5864062014634) (hln : ∀ i, i < n → ln i ≤ 70368744175616) (hF0 : ∀ i, i < n → ∀ j, j < ln i → F0 i j < 65536) (ha : -9223372036854775808 ≤ a ∧ a ≤ 9223372036854775807) (hx : -9223372036854775808 ≤ x ∧ x ≤ 9223372036854775807) (hv : -9223372036854775808 ≤ v ∧ v ≤ 9223372036854775807) :
    Calls Try.prog 7 #[frv W H D A po n c, atv a x y, .int .i64 v] w fun e w' => e = .returned (.bool true) ∧ Kept [] w w' := by
  obtain ⟨F, hr, hF⟩ := hr0.nice hF0
  have hnb : n ≤ 9223372036854775807 := by omega
  have Hlb : Hid (∀ i, i < n → ln i ≤ 9223372036854775807) := Hid.mk (fun i hi => by have := hln i hi; omega)
  have Hr := Hid.mk hr.pl
  have Hln := Hid.mk hln
  have HF := Hid.mk hF
  have CR : Hid (∀ u, Pl u po n ln F → Calls Try.prog 13 #[frv W H D A po n c] u fun e w' => e = .returned (.int .i64 (vE W H D A n ln F)) ∧ Kept [] u w') := Hid.mk (fun u h => rvalid_any W H D A po n c ln F u h hnb Hlb.out (fun i _ j _ => HF.out i j))
  have h1 := heap_alloc_new w (.cells #[.int .i64 W, .int .i64 H, .int .i64 D, .bool A, .slice po n c] 26)
  have k1 := alloc_kept w (.cells #[.int .i64 W, .int .i64 H, .int .i64 D, .bool A, .slice po n c] 26)
  have h2 := heap_alloc_new (w.alloc (.cells #[.int .i64 W, .int .i64 H, .int .i64 D, .bool A, .slice po n c] 26)) (.cells #[.int .i64 a, .int .i64 x, .int .i64 y] 36)
  have k2 := alloc_kept (w.alloc (.cells #[.int .i64 W, .int .i64 H, .int .i64 D, .bool A, .slice po n c] 26)) (.cells #[.int .i64 a, .int .i64 x, .int .i64 y] 36)
  rw [World.size_alloc] at h2
  have hh1 := k2.heap h1 (by simp)
  have K1 := Hid.mk (k1.trans k2)
  have P1 := Hid.mk (And.intro hh1 h2)
  clear hr0 hF0 hr hln hF h1 k1 h2 k2 hh1
  go_enter Try.func7, Try.ntmps7
  go_wp2_with (fail)
  obtain ⟨w1, ew1⟩ : ∃ w1, w1 = (w.alloc (.cells #[.int .i64 W, .int .i64 H, .int .i64 D, .bool A, .slice po n c] 26)).alloc (.cells #[.int .i64 a, .int .i64 x, .int .i64 y] 36) := ⟨_, rfl⟩
  rw [← ew1] at P1 K1 ⊢
  obtain ⟨FB, eFB⟩ : ∃ FB, FB = w.heap.size := ⟨_, rfl⟩
  obtain ⟨AB, eAB⟩ : ∃ AB, AB = w.heap.size + 1 := ⟨_, rfl⟩
  rw [← eAB, ← eFB] at P1 ⊢
  have HB := Hid.mk (And.intro eFB eAB)
  clear ew1 eFB eAB
  refine (shown_any w1).mono ?_
  rintro e w2 ⟨rfl, hk2⟩
  have K2 := Hid.mk (K1.out.trans hk2)
  have F2 := Hid.mk (hk2.heap P1.out.1 (by simp))
  have A2 := Hid.mk (hk2.heap P1.out.2 (by simp))
  clear hk2 P1 K1
  obtain ⟨⟨f0, f1, f2, f3, f4⟩, _⟩ := five F2.out
  go_wp2_with (fail)
  refine (CR.out w2 (Hr.out.keep K2.out)).mono ?_
  rintro e w3 ⟨rfl, hk3⟩
  have K3 := Hid.mk (K2.out.trans hk3)
  have F3 := Hid.mk (hk3.heap F2.out (by simp))
  have A3 := Hid.mk (hk3.heap A2.out (by simp))
  clear hk3 K2 F2 A2 f0 f1 f2 f3 f4
  by_cases hz : vE W H D A n ln F = 0
  · have hV := vE_zero.1 hz
    rw [hz]
    have hn1 : 1 ≤ n := by rw [hV.num]; have := np_lo A; omega
    have hn4 : n ≤ 4 := by rw [hV.num]; exact np_hi A
    obtain ⟨⟨f0, f1, f2, f3, f4⟩, _⟩ := five F3.out
    obtain ⟨a0, a1, a2⟩ := tri A3.out
    have HV := Hid.mk hV
    clear hz hV
    go_wp2_with (fail)
    refine (place_any a (n : Int) w3 ha (by omega) (by omega)).mono ?_
    rintro e w3' ⟨rfl, rfl⟩
    have p0 := plc_lo a (n := (n : Int)) (by omega)
    have p1 := plc_hi a (n := (n : Int)) (by omega)
    obtain ⟨P, eP⟩ : ∃ P : Nat, plc a (n : Int) = (P : Int) := ⟨(plc a n).toNat, by omega⟩
    rw [eP]
    have hP : P < n := by omega
    clear p0 p1 eP
    obtain ⟨g, off, bo, c', rfl, hc0, hrd⟩ := Hr.out.at hP
    have hc := cell_keep K3.out hc0 (by simp)
    have hL : 1 ≤ ln P ∧ ln P ≤ 16777216 := by
      have h := HV.out.len P hP
      have := wpH (P : Int) HV.out.shp.1.1 HV.out.shp.1.2 HV.out.shp.2.1.1 HV.out.shp.2.1.2
      omega
    obtain ⟨L, eL⟩ : ∃ L, L = ln P := ⟨_, rfl⟩
    rw [← eL] at hc hL
    have EL := Hid.mk eL
    have ix : (P : Int) < (n : Int) := by omega
    have CP := Hid.mk (fun u => place_any x (L : Int) u hx (by omega) (by omega))
    have HRD := Hid.mk hrd
    have HGC := Hid.mk hc0
    rw [← EL.out] at HGC
    clear eL hc0 hrd
    go_wp2
    go_region_held_law (fun w' => w'.cell? ⟨AB, 1, none⟩ = some (.int .i64 x) ∧ w'.cell? ⟨FB, 4, none⟩ = some (.slice (some ⟨g, off, none⟩) n c) ∧ w'.cell? ⟨g, off + P, none⟩ = some (.slice bo L c')) (first | exact ⟨a1, f4, hc⟩ | go_keep) ((go_at_call 14; refine (CP.out _).mono ?_; rintro e w9 ⟨rfl, rfl⟩))
    go_wp2_with (fail)
    have q0 := plc_lo x (n := (L : Int)) (by omega)
    have q1 := plc_hi x (n := (L : Int)) (by omega)
    obtain ⟨K, eK⟩ : ∃ K : Nat, plc x (L : Int) = (K : Int) := ⟨(plc x L).toNat, by omega⟩
    rw [eK]
    have hKL : K < L := by omega
    clear q0 q1 eK
    refine (lend_any W H D A (some ⟨g, off, none⟩) n c ln F _ (Hr.out.keep (K3.out.drew)) hn Hln.out).mono ?_
    rintro e w4 ⟨LB, V, bs, rfl, hL4⟩
    obtain ⟨vo, vc, rfl⟩ : ∃ vo vc, V = .slice vo n vc := by
      rcases hL4.all.own.2 with ⟨e2, h0⟩ | ⟨g2, cap, cur, e2, _⟩
      · exact ⟨none, 0, by rw [e2, h0]⟩
      · exact ⟨_, _, e2⟩
    have m1 := heap_alloc_new w4 (.cells #[.int .i64 W, .int .i64 H, .int .i64 D, .bool A, slv LB n (n + 2), .slice vo n vc, slv LB (n + 2) (n + 2)] 29)
    have j1 := alloc_kept w4 (.cells #[.int .i64 W, .int .i64 H, .int .i64 D, .bool A, slv LB n (n + 2), .slice vo n vc, slv LB (n + 2) (n + 2)] 29)
    have m2 := heap_alloc_new (w4.alloc (.cells #[.int .i64 W, .int .i64 H, .int .i64 D, .bool A, slv LB n (n + 2), .slice vo n vc, slv LB (n + 2) (n + 2)] 29)) (.cells #[.int .i64 W, .int .i64 H, .int .i64 D, .bool A, slv LB n (n + 2)] 26)
    have j2 := alloc_kept (w4.alloc (.cells #[.int .i64 W, .int .i64 H, .int .i64 D, .bool A, slv LB n (n + 2), .slice vo n vc, slv LB (n + 2) (n + 2)] 29)) (.cells #[.int .i64 W, .int .i64 H, .int .i64 D, .bool A, slv LB n (n + 2)] 26)
    rw [World.size_alloc] at m2
    have kq : Kept [] w4 _ := j1.trans j2
    have L6 := Hid.mk (hL4.keep0 kq)
    have K6 := Hid.mk (((K3.out.drew).trans hL4.kept).trans kq)
    have F6 := Hid.mk (kq.heap (hL4.kept.heap (show w3'.drew.heap[FB]? = _ from F3.out) (by simp)) (by simp))
    have G6 := Hid.mk m2
    have HFL : Hid (FB < w4.heap.size) := Hid.mk (lt_of_block (hL4.kept.heap (show w3'.drew.heap[FB]? = _ from F3.out) (by simp)))
    have HBL : Hid (∀ i, i < n → bs i < w4.heap.size ∧ w.heap.size ≤ bs i ∧ FB < bs i) := Hid.mk (fun i hi => ⟨(hL4.all.row i hi).lt, Nat.le_trans K3.out.size (hL4.all.lo i hi), Nat.lt_of_lt_of_le (lt_of_block F3.out) (hL4.all.lo i hi)⟩)
    obtain ⟨w6, ew6⟩ : ∃ w6, w6 = (w4.alloc (.cells #[.int .i64 W, .int .i64 H, .int .i64 D, .bool A, slv LB n (n + 2), .slice vo n vc, slv LB (n + 2) (n + 2)] 29)).alloc (.cells #[.int .i64 W, .int .i64 H, .int .i64 D, .bool A, slv LB n (n + 2)] 26) := ⟨_, rfl⟩
    rw [← ew6] at L6 K6 F6 G6
    have EW6 := Hid.mk ew6
    clear m1 j1 m2 j2 kq hL4 ew6 f0 f1 f2 f3 f4 a0 a1 a2 hc
    go_wp2
    rw [← EW6.out]
    obtain ⟨GB, eGB⟩ : ∃ GB, GB = w4.heap.size + 1 := ⟨_, rfl⟩
    rw [← eGB] at G6 ⊢
    have HGB : Hid (FB < w4.heap.size ∧ GB = w4.heap.size + 1) := Hid.mk ⟨HFL.out, eGB⟩
    clear eGB EW6
    have hV := HV.out
    obtain ⟨M, hM, hM1, hsh⟩ : ∃ M : Nat, M = mx D + 1 ∧ (1 ≤ M ∧ M ≤ 4096) ∧ ∀ u : World, Sem.run Try.prog (Op.shift BinOp.shl IntKind.i64 1 IntKind.i64 D) u = .ok (.int .i64 (M : Int)) u := by
      rcases hV.shp.2.2.1 with h | h
      · exact ⟨1024, by rw [h]; rfl, by omega, fun u => by rw [h]; first | rfl | kernel_rfl⟩
      · exact ⟨4096, by rw [h]; rfl, by omega, fun u => by rw [h]; first | rfl | kernel_rfl⟩
    have r0 := plc_lo v (n := (M : Int)) (by omega)
    have r1 := plc_hi v (n := (M : Int)) (by omega)
    obtain ⟨NV, eNV⟩ : ∃ NV : Nat, plc v (M : Int) = (NV : Int) := ⟨(plc v M).toNat, by omega⟩
    have hNV : NV ≤ mx D := by omega
    have hNV2 : NV ≤ 4095 := by omega
    have CP2 : Hid (∀ u, Calls Try.prog 14 #[.int .i64 v, .int .i64 (M : Int)] u fun e w' => e = .returned (.int .i64 (NV : Int)) ∧ w' = u) := Hid.mk (fun u => by
      have h := place_any v (M : Int) u hv (by omega) (by omega)
      rw [eNV] at h
      exact h)
    have hwu : IntKind.u16.wrap (NV : Int) = (NV : Int) := by simp [IntKind.wrap, IntKind.bits, IntKind.signed]; omega
    obtain ⟨⟨_, _, _, _, g4⟩, _⟩ := five G6.out
    obtain ⟨⟨_, _, f2, _, f4⟩, _⟩ := five F6.out
    have zL : w6.cell? ⟨LB, P, none⟩ = some (slv (bs P) L (L + 7)) := by
      rw [cell_of_row _ _ _ _ _ _ L6.out.lst, List.getElem?_toArray, fl_at _ _ _ (by omega)]
      unfold lsC
      rw [if_pos hP, EL.out]
    have hrow := L6.out.all.row P hP
    have hcr := hrow.at (show K < ln P + 7 by have := EL.out; omega)
    have hfr := hrow.fz K
    have ixK : (K : Int) < (L : Int) := by omega
    have ixP : (P : Int) < (n : Int) := by omega
    have nb : ∀ {z : Nat}, z = FB ∨ z = GB ∨ z = LB → z ∉ [bs P] := fun {z} h => by
      have h1 := (HBL.out P hP).1
      have h2 := HGB.out
      have h3 : LB ≠ bs P := fun e => by
        have h5 := L6.out.lst
        unfold Row at hrow
        rw [← e, h5] at hrow
        simp at hrow
      have h4 := (HBL.out P hP).2.2
      have h6 := HB.out
      simp
      rcases h with h | h | h
      · omega
      · omega
      · rw [h]; exact h3
    have KD := Hid.mk (((Kept.refl [bs P] w6).drew).setCell (p := ⟨bs P, K, none⟩) (.inl (by simp)) (.int .u16 (NV : Int)))
    have y1 := cell_keep KD.out g4 (nb (.inr (.inl rfl)))
    have y2 := cell_keep KD.out zL (nb (.inr (.inr rfl)))
    have y3 := cell_keep KD.out f2 (nb (.inl rfl))
    have HNB := Hid.mk (And.intro (nb (.inl rfl)) (nb (.inr (.inl rfl))))
    have HNV := Hid.mk (And.intro hNV eNV)
    clear r0 r1 hV hrow eNV hM hNV nb
    go_region_held_law (fun w' => w'.cell? ⟨GB, 4, none⟩ = some (slv LB n (n + 2)) ∧ w'.cell? ⟨LB, P, none⟩ = some (slv (bs P) L (L + 7)) ∧ w'.cell? ⟨FB, 2, none⟩ = some (.int .i64 D)) (first | exact ⟨g4, zL, f2⟩ | exact ⟨y1, y2, y3⟩ | go_keep) ((go_at_call 14; refine (CP2.out _).mono ?_; rintro e w9 ⟨rfl, rfl⟩))
    have L7a := (L6.out.upd (K := K) (v := NV) hP).keep0 ((Kept.refl [] _).drew)
    have K7a := (K6.out.setCell (p := ⟨bs P, K, none⟩) (.inr (HBL.out P hP).2.1) (.int .u16 (NV : Int))).drew
    have KS : Kept [bs P] w6 (w6.setCell ⟨bs P, K, none⟩ (.int .u16 (NV : Int))).drew := ((Kept.refl [bs P] w6).setCell (p := ⟨bs P, K, none⟩) (.inl (by simp)) _).drew
    have F7a := KS.heap F6.out HNB.out.1
    have G7a := KS.heap G6.out HNB.out.2
    obtain ⟨w7, ew7⟩ : ∃ w7, w7 = (w6.setCell ⟨bs P, K, none⟩ (.int .u16 (NV : Int))).drew := ⟨_, rfl⟩
    rw [← ew7] at L7a K7a F7a G7a ⊢
    have P7a : Pl w7 (some ⟨LB, 0, none⟩) n ln (updF F P K NV) := by
      rcases L7a.pl with h0 | ⟨g', off', e, hc⟩
      · exact .inl h0
      · refine .inr ⟨g', off', e, fun i hi => ?_⟩
        obtain ⟨bo', c'', h1, h2⟩ := hc i hi
        refine ⟨bo', c'', h1, h2.congr (fun j hj => ?_)⟩
        unfold updF
        split
        · rename_i e2
          subst e2
          unfold upd
          split
          · rfl
          · exact if_pos hj
        · exact if_pos hj
    obtain ⟨hb, qb, rfl, hbc0⟩ := HRD.out.at (show K < ln P by have := EL.out; omega)
    have hbc := cell_keep K7a hbc0 (by simp)
    have hgc := cell_keep K7a HGC.out (by simp)
    obtain ⟨⟨_, _, _, _, f4'⟩, _⟩ := five F7a
    obtain ⟨⟨_, _, _, _, g4'⟩, _⟩ := five G7a
    have zL' : w7.cell? ⟨LB, P, none⟩ = some (slv (bs P) L (L + 7)) := by
      rw [cell_of_row _ _ _ _ _ _ L7a.lst, List.getElem?_toArray, fl_at _ _ _ (by omega)]
      unfold lsC
      rw [if_pos hP, EL.out]
    have hcr' : w7.cell? ⟨bs P, K, none⟩ = some (.int .u16 (NV : Int)) := by
      have h := (L7a.all.row P hP).at (show K < ln P + 7 by have := EL.out; omega)
      rw [h]
      unfold updF upd
      rw [if_pos rfl, if_pos rfl]
    have P7 := Hid.mk P7a
    have K7 := Hid.mk K7a
    have F7 := Hid.mk F7a
    have G7 := Hid.mk G7a
    have hfb := HF.out P K
    obtain ⟨FV, eFV⟩ : ∃ FV, FV = F P K := ⟨_, rfl⟩
    rw [← eFV] at hbc hfb
    have EFV := Hid.mk eFV
    clear L7a K7a F7a G7a P7a KS ew7 g4 f2 f4 zL hcr hfr y1 y2 y3 hbc0 eFV L6 K6 F6 G6 KD
    go_wp2
    go_quiet (fail)
    have K8 := Hid.mk (K7.out.drewN nq)
    have k78 : Kept [] w7 (w7.drewN nq) := (Kept.refl [] w7).drewN nq
    have P8 := Hid.mk (P7.out.keep k78)
    have F8 := Hid.mk (k78.heap F7.out (by simp))
    have G8 := Hid.mk (k78.heap G7.out (by simp))
    have hgc8 := cell_keep k78 hgc (by simp)
    obtain ⟨w8, ew8⟩ : ∃ w8, w8 = w7.drewN nq := ⟨_, rfl⟩
    rw [← ew8] at K8 P8 F8 G8 hgc8 ⊢
    clear k78 ew8 hbc hgc f4' g4' zL' hcr' P7 K7 F7 G7
    obtain ⟨dd, edd⟩ : ∃ dd, dd = df FV NV := ⟨_, rfl⟩
    have hdd : (dd : Int) = if (NV : Int) < (FV : Int) then (FV : Int) - NV else (NV : Int) - FV := by
      rw [edd]
      unfold df
      split <;> omega
    have EDD := Hid.mk edd
    clear edd
    go_upto_if 86 with (fail)
    go_cut [12] (fun s wc => s = .int .i64 (dd : Int) ∧ wc = w8)
    case first =>
      by_cases hlt : (NV : Int) < (FV : Int)
      · rw [if_pos hlt] at hdd
        go_wp2
        go_meet
        exact ⟨by congr 1; omega, rfl⟩
      · rw [if_neg hlt] at hdd
        go_wp2
        go_meet
        exact ⟨by congr 1; omega, rfl⟩
    case rest =>
      obtain ⟨rfl, hwc⟩ := hcut
      obtain rfl := hwc.symm
      clear hdd
      have hVg := vld_upd (P := P) (K := K) HV.out HNV.out.1
      have hv0 := vE_zero.2 HV.out
      have hv1 := vE_zero.2 hVg
      have al0 : alE W H D A W H D A 0 0 = 0 := by unfold alE; rw [if_pos rfl, if_pos rfl, if_pos ⟨rfl, rfl, rfl, rfl⟩]
      have hGb : ∀ i j, updF F P K NV i j < 65536 := fun i j => by
        unfold updF
        split
        · unfold upd
          split
          · omega
          · exact HF.out P j
        · exact HF.out i j
      obtain ⟨h, eh⟩ : ∃ h : Nat → Int, h = fun t => if t = P then (dd : Int) else 0 := ⟨_, rfl⟩
      have hPin : (0 : Int) ≤ (P : Int) ∧ (P : Int) < (n : Int) := by omega
      have hKl : K < ln P := by have := EL.out; omega
      have hdd : df (F P K) NV = dd := by rw [EDD.out, EFV.out]
      have hsq : sqs (F P) (updF F P K NV P) (ln P) = dd * dd := by
        rw [show updF F P K NV P = upd (F P) K NV from if_pos rfl, sqs_upd, if_pos hKl, hdd]
      have hdl : dd ≤ 65535 := by rw [EDD.out]; unfold df; omega
      have hz2 : dd * dd ≤ 65535 * 65535 := Nat.mul_le_mul hdl hdl
      obtain ⟨z, ez⟩ : ∃ z, z = dd * dd := ⟨_, rfl⟩
      have hme := meB_ok z L (by omega) hL.1 (by omega)
      obtain ⟨rB, erB⟩ : ∃ rB, rB = meB z L := ⟨_, rfl⟩
      rw [← erB] at hme
      have C1 : Hid (∀ u, Pl u (some ⟨g, off, none⟩) n ln F → Calls Try.prog 27 #[frv W H D A (some ⟨g, off, none⟩) n c, frv W H D A (some ⟨g, off, none⟩) n c] u fun e w' => e = .returned (.tuple #[rgv (fun _ => 0), .int .i64 0]) ∧ Kept [] u w') := Hid.mk (fun u hu => by
        have h := apart_any W H D A (some ⟨g, off, none⟩) n c ln F W H D A (some ⟨g, off, none⟩) n c ln F u hu hu hnb Hlb.out hnb Hlb.out HF.out HF.out
        rw [hv0, al0, if_pos rfl, rgF_self] at h
        exact h)
      have C2 : Hid (∀ u, Pl u (some ⟨g, off, none⟩) n ln F → Pl u (some ⟨LB, 0, none⟩) n ln (updF F P K NV) → Calls Try.prog 27 #[frv W H D A (some ⟨g, off, none⟩) n c, frv W H D A (some ⟨LB, 0, none⟩) n (n + 2)] u fun e w' => e = .returned (.tuple #[rgv h, .int .i64 0]) ∧ Kept [] u w') := Hid.mk (fun u hu hu2 => by
        have h9 := apart_any W H D A (some ⟨g, off, none⟩) n c ln F W H D A (some ⟨LB, 0, none⟩) n (n + 2) ln (updF F P K NV) u hu hu2 hnb Hlb.out hnb Hlb.out HF.out hGb
        rw [hv0, hv1, al0, if_pos rfl, rgF_upd n ln F P K NV hP hKl, hdd, ← eh] at h9
        exact h9)
      have C3 : Hid (∀ u, Pl u (some ⟨g, off, none⟩) n ln F → Pl u (some ⟨LB, 0, none⟩) n ln (updF F P K NV) → Calls Try.prog 28 #[frv W H D A (some ⟨g, off, none⟩) n c, frv W H D A (some ⟨LB, 0, none⟩) n (n + 2), .int .i64 (P : Int)] u fun e w' => e = .returned (.tuple #[.float .f64 rB, .int .i64 0]) ∧ Kept [] u w') := Hid.mk (fun u hu hu2 => by
        have h9 := error_any W H D A (some ⟨g, off, none⟩) n c ln F W H D A (some ⟨LB, 0, none⟩) n (n + 2) ln (updF F P K NV) (P : Int) u hu hu2 hnb Hlb.out hnb Hlb.out HF.out hGb
        rw [hv0, hv1, al0] at h9
        unfold erX erE at h9
        rw [if_pos rfl, if_pos hPin, if_pos rfl, if_pos hPin, Int.toNat_natCast, hsq, ← EL.out, ← ez, ← erB] at h9
        exact h9)
      have C4 : Hid (∀ u, Pl u (some ⟨g, off, none⟩) n ln F → Pl u (some ⟨LB, 0, none⟩) n ln (updF F P K NV) → Calls Try.prog 28 #[frv W H D A (some ⟨LB, 0, none⟩) n (n + 2), frv W H D A (some ⟨g, off, none⟩) n c, .int .i64 (P : Int)] u fun e w' => e = .returned (.tuple #[.float .f64 rB, .int .i64 0]) ∧ Kept [] u w') := Hid.mk (fun u hu hu2 => by
        have h9 := error_any W H D A (some ⟨LB, 0, none⟩) n (n + 2) ln (updF F P K NV) W H D A (some ⟨g, off, none⟩) n c ln F (P : Int) u hu2 hu hnb Hlb.out hnb Hlb.out hGb HF.out
        rw [hv0, hv1, al0] at h9
        unfold erX erE at h9
        rw [if_pos rfl, if_pos hPin, if_pos rfl, if_pos hPin, Int.toNat_natCast, sqs_comm, hsq, ← EL.out, ← ez, ← erB] at h9
        exact h9)
      have C5 : Hid (∀ u, Pl u (some ⟨g, off, none⟩) n ln F → Pl u (some ⟨LB, 0, none⟩) n ln (updF F P K NV) → Calls Try.prog 19 #[frv W H D A (some ⟨g, off, none⟩) n c, frv W H D A (some ⟨LB, 0, none⟩) n (n + 2)] u fun e w' => e = .returned (.bool (decide (dd = 0))) ∧ Kept [] u w') := Hid.mk (fun u hu hu2 => by
        have h9 := same_any W H D A (some ⟨g, off, none⟩) (some ⟨LB, 0, none⟩) n c n (n + 2) ln ln F (updF F P K NV) u hu hu2 rfl hnb Hlb.out Hlb.out
        rw [alF_upd n ln F P K NV hP hKl, hdd] at h9
        exact h9)
      have HM := Hid.mk hme
      have HZ := Hid.mk (And.intro ez eh)
      have hP4 : P < 4 := by omega
      clear hVg hv0 hv1 al0 hGb eh hPin hKl hdd hsq hdl ez hme erB
      obtain ⟨⟨f0, f1, f2, f3, f4⟩, _⟩ := five F8.out
      go_wp2_with (fail)
      refine (C1.out _ (Hr.out.keep K8.out)).mono ?_
      rintro e w9 ⟨rfl, hk9⟩
      have kA := alloc_kept w9 (.cells #[.int .i64 0, .int .i64 0, .int .i64 0, .int .i64 0] 67)
      have kN := heap_alloc_new w9 (.cells #[.int .i64 0, .int .i64 0, .int .i64 0, .int .i64 0] 67)
      have hkA := hk9.trans kA
      have KA := Hid.mk (K8.out.trans hkA)
      have PA := Hid.mk (P8.out.keep hkA)
      have FA := Hid.mk (hkA.heap F8.out (by simp))
      have GA := Hid.mk (hkA.heap G8.out (by simp))
      have OA := Hid.mk kN
      have hgA := cell_keep hkA hgc8 (by simp)
      clear hk9 kA kN hkA f0 f1 f2 f3 f4 K8 P8 F8 G8 hgc8
      obtain ⟨⟨f0, f1, f2, f3, f4⟩, _⟩ := five FA.out
      obtain ⟨⟨g0, g1, g2, g3, g4⟩, _⟩ := five GA.out
      go_wp2_with (fail)
      refine (C2.out _ (Hr.out.keep KA.out) PA.out).mono ?_
      rintro e wB ⟨rfl, hkB⟩
      have kA := alloc_kept wB (.cells #[.int .i64 (h 0), .int .i64 (h 1), .int .i64 (h 2), .int .i64 (h 3)] 67)
      have kN := heap_alloc_new wB (.cells #[.int .i64 (h 0), .int .i64 (h 1), .int .i64 (h 2), .int .i64 (h 3)] 67)
      have hkA := hkB.trans kA
      have KB := Hid.mk (KA.out.trans hkA)
      have PB := Hid.mk (PA.out.keep hkA)
      have FBb := Hid.mk (hkA.heap FA.out (by simp))
      have GBb := Hid.mk (hkA.heap GA.out (by simp))
      have OB := Hid.mk (hkA.heap OA.out (by simp))
      have RBb := Hid.mk kN
      have hgB := cell_keep hkA hgA (by simp)
      clear hkB kA kN hkA f0 f1 f2 f3 f4 g0 g1 g2 g3 g4 KA PA FA GA OA hgA
      obtain ⟨⟨f0, f1, f2, f3, f4⟩, _⟩ := five FBb.out
      obtain ⟨⟨g0, g1, g2, g3, g4⟩, _⟩ := five GBb.out
      go_wp2_with (fail)
      refine (C3.out _ (Hr.out.keep KB.out) PB.out).mono ?_
      rintro e wC ⟨rfl, hkC⟩
      have KC := Hid.mk (KB.out.trans hkC)
      have PC := Hid.mk (PB.out.keep hkC)
      have FC := Hid.mk (hkC.heap FBb.out (by simp))
      have GC := Hid.mk (hkC.heap GBb.out (by simp))
      have OC := Hid.mk (hkC.heap OB.out (by simp))
      have RC := Hid.mk (hkC.heap RBb.out (by simp))
      have hgC := cell_keep hkC hgB (by simp)
      clear hkC f0 f1 f2 f3 f4 g0 g1 g2 g3 g4 KB PB FBb GBb OB RBb hgB
      obtain ⟨⟨f0, f1, f2, f3, f4⟩, _⟩ := five FC.out
      obtain ⟨⟨g0, g1, g2, g3, g4⟩, _⟩ := five GC.out
      go_wp2_with (fail)
      refine (C4.out _ (Hr.out.keep KC.out) PC.out).mono ?_
      rintro e wD ⟨rfl, hkD⟩
      have ks0 := alloc_kept wD (.cells ([Value.int .i64 0, .int .i64 0, .int .i64 0, .int .i64 0].set P (.int .i64 (dd : Int))).toArray 67)
      have kN := heap_alloc_new wD (.cells ([Value.int .i64 0, .int .i64 0, .int .i64 0, .int .i64 0].set P (.int .i64 (dd : Int))).toArray 67)
      have hAs : Arr (wD.alloc (.cells ([Value.int .i64 0, .int .i64 0, .int .i64 0, .int .i64 0].set P (.int .i64 (dd : Int))).toArray 67)) wD.heap.size h := by
        unfold Arr
        rw [kN, HZ.out.2]
        match P, hP4 with
        | 0, _ => rfl
        | 1, _ => rfl
        | 2, _ => rfl
        | 3, _ => rfl
      have hkE := hkD.trans ks0
      have KE := Hid.mk (KC.out.trans hkE)
      have PE := Hid.mk (PC.out.keep hkE)
      have FE := Hid.mk (hkE.heap FC.out (by simp))
      have GE := Hid.mk (hkE.heap GC.out (by simp))
      have OE := Hid.mk (hkE.heap OC.out (by simp))
      have RE := Hid.mk (hkE.heap RC.out (by simp))
      have WE := Hid.mk hAs
      have hgE := cell_keep hkE hgC (by simp)
      have ixP4 : (P : Int) < 4 := by omega
      clear kN ks0 hAs hkE hkD f0 f1 f2 f3 f4 g0 g1 g2 g3 g4 KC PC FC GC OC RC hgC
      go_upto_region 18 with (fail)
      obtain ⟨wE, ewE⟩ : ∃ wE, wE = wD.alloc (.cells ([Value.int .i64 0, .int .i64 0, .int .i64 0, .int .i64 0].set P (.int .i64 (dd : Int))).toArray 67) := ⟨_, rfl⟩
      rw [← ewE] at KE PE FE GE OE RE WE hgE ⊢
      clear ewE
      obtain ⟨⟨f0, f1, f2, f3, f4⟩, _⟩ := five FE.out
      obtain ⟨⟨g0, g1, g2, g3, g4⟩, _⟩ := five GE.out
      go_wp2_with (fail)
      refine (C5.out _ (Hr.out.keep KE.out) PE.out).mono ?_
      rintro e wF ⟨rfl, hkF⟩
      have KF := Hid.mk (KE.out.trans hkF)
      obtain ⟨⟨o0, o1, o2, o3⟩, _⟩ := four (hkF.heap OE.out (by simp))
      obtain ⟨⟨r0, r1, r2, r3⟩, _⟩ := four (hkF.heap RE.out (by simp))
      have hW : Arr wF wD.heap.size h := WE.out.keep hkF (by simp)
      have e0 := hW.at (show 0 < 4 by omega)
      have e1 := hW.at (show 1 < 4 by omega)
      have e2 := hW.at (show 2 < 4 by omega)
      have e3 := hW.at (show 3 < 4 by omega)
      have hgF := cell_keep hkF hgE (by simp)
      clear f0 f1 f2 f3 f4
      obtain ⟨⟨f0, f1, f2, f3, f4⟩, _⟩ := five (hkF.heap FE.out (by simp))
      have aq := arr_eq h
      have aq0 := arr_eq (fun _ => 0)
      have hmul : (dd : Int) * (dd : Int) = (z : Int) := by rw [HZ.out.1]; push_cast; rfl
      have hwz : IntKind.i64.wrap (z : Int) = (z : Int) := wrap_i (by omega) (by have := HZ.out.1; omega)
      have hq : ∀ (u : World) (t : TypeId), Sem.run Try.prog (binOp .quo t (.float .f64 (floatOfInt .f64 (z : Int))) (.float .f64 (floatOfInt .f64 (L : Int)))) u = .ok (.float .f64 rB) u := fun u t => run_float_arith u .quo t .f64 _ _ rB HM.out.1
      have hfe := HM.out.2
      clear hkF hW g0 g1 g2 g3 g4 KE PE FE GE OE RE WE hgE
      go_wp2
      go_ret
      refine ⟨ret_bool ?_, KF.out⟩
      by_cases h0 : dd = 0
      · subst h0; rfl
      · simp [h0]
  · have HE := Hid.mk (show (vE W H D A n ln F != 0) = true by simpa using hz)
    obtain ⟨E, eE⟩ : ∃ E, E = vE W H D A n ln F := ⟨_, rfl⟩
    rw [← eE] at HE ⊢
    have hne := HE.out
    go_wp2
    go_ret
    exact ⟨rfl, K3.out⟩
end Go.Proofs.Ythihennifigchab
