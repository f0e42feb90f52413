import Derived.Test.YtgjjnkhkjnkahaaDoorMb
namespace Go.Proofs.YtgjjnkhkjnkahaaDoor
open Go.RowKit

theorem Vld.sz {W H D : Int} {A : Bool} {n : Nat} {ln : Nat → Nat} {F : Nat → Nat → Nat} (h : Vld W H D A n ln F) {i : Nat} (hi : i < n) : ln i = pz W H i ∧ 1 ≤ pz W H i ∧ pz W H i ≤ 16777216 := by
  have h1 := h.len i hi
  have h2 := wpH (i : Int) h.shp.1.1 h.shp.1.2 h.shp.2.1.1 h.shp.2.1.2
  have h3 : pz W H i = (wp W (i : Int) * H).toNat := rfl
  omega
theorem Vld.n4 {W H D : Int} {A : Bool} {n : Nat} {ln : Nat → Nat} {F : Nat → Nat → Nat} (h : Vld W H D A n ln F) : n ≤ 4 := by rw [h.num]; exact np_hi A
theorem mx_le (D : Int) : mx D ≤ 4095 := by unfold mx; split <;> omega
/-- Rows that lie in older memory. -/
theorem Rd.old {w : World} {ao : Option Addr} {n : Nat} {f : Nat → Nat} (h : Rd w ao n f) (hn : 1 ≤ n) : ∀ x y, ao = some ⟨x, y, none⟩ → x < w.heap.size := fun x y e => by
  obtain ⟨g, off, e2, hc⟩ := h.at (show 0 < n by omega)
  rw [e] at e2
  cases e2
  exact World.block_lt_of_cell? w _ hc

set_option maxHeartbeats 16000000 in
set_option maxRecDepth 1000000 in
theorem mix_yes (W H D : Int) (A : Bool) (po : Option Addr) (n c : Nat) (ln : Nat → Nat) (F : Nat → Nat → Nat) (po2 : Option Addr) (c2 : Nat) (ln2 : Nat → Nat) (G : Nat → Nat → Nat) (p o : Nat) (w : World)
    (hr : Pl w po n ln F) (hv : Vld W H D A n ln F) (hr2 : Pl w po2 n ln2 G) (hv2 : Vld W H D A n ln2 G) (hp : p ≤ o) (ho : 1 ≤ o) (ho2 : o ≤ 101) :
    Calls Tryd.prog 7 #[frv W H D A po n c, frv W H D A po2 n c2, .int .i64 (p : Int), .int .i64 (o : Int)] w fun e w' => ∃ g bs, e = .returned (.tuple #[frv W H D A (some ⟨g, 0, none⟩) n n, .int .i64 0]) ∧ Mk w w' g n n bs (pz W H) (mxF F G p o) := by
  have hn4 := hv.n4
  have CV := Hid.mk (fun u (hk : Kept [] w u) => by
    have h := valid_any W H D A po n c ln F u (hr.keep hk) (by omega) (fun i hi => by have := hv.sz hi; omega)
    rw [vE_zero.2 hv] at h
    exact h)
  have CV2 := Hid.mk (fun u (hk : Kept [] w u) => by
    have h := valid_any W H D A po2 n c2 ln2 G u (hr2.keep hk) (by omega) (fun i hi => by have := hv2.sz hi; omega)
    rw [vE_zero.2 hv2] at h
    exact h)
  have CN := Hid.mk (fun u => (new_any W H D A u).mono (fun e w' h => h.1 (shE_ok hv.shp)))
  rw [← hv.num] at CN
  have N := ent555 w (.int .i64 W) (.int .i64 H) (.int .i64 D) (.bool A) (.slice po n c) (.int .i64 W) (.int .i64 H) (.int .i64 D) (.bool A) (.slice po2 n c2) (.int .i64 0) (.int .i64 0) (.int .i64 0) (.bool false) (.slice none 0 0) 29
  obtain ⟨w1, ew1⟩ : ∃ w1, w1 = ((w.alloc (.cells #[.int .i64 W, .int .i64 H, .int .i64 D, .bool A, .slice po n c] 29 (0, 0))).alloc (.cells #[.int .i64 W, .int .i64 H, .int .i64 D, .bool A, .slice po2 n c2] 29 (0, 0))).alloc (.cells #[.int .i64 0, .int .i64 0, .int .i64 0, .bool false, .slice none 0 0] 29 (0, 0)) := ⟨_, rfl⟩
  rw [← ew1] at N
  have HN := Hid.mk N
  have EW := Hid.mk ew1
  have Hall := Hid.mk (And.intro hr (And.intro hv (And.intro hr2 hv2)))
  have HO := Hid.mk (And.intro hp (And.intro ho ho2))
  have b1 : ¬ (o : Int) < 1 := by omega
  have b2 : ¬ 101 < (o : Int) := by omega
  have b3 : ¬ (p : Int) < 0 := by omega
  have b4 : ¬ (o : Int) < (p : Int) := by omega
  clear N ew1 hr hv hr2 hv2 hp ho ho2
  go_enter Tryd.func7, Tryd.ntmps7
  go_wp2_with (fail)
  rw [← EW.out]
  refine (CV.out _ HN.out.2.2.2).mono ?_
  rintro e w2 ⟨rfl, k2⟩
  obtain ⟨⟨c0, c1, c2', c3, c4⟩, _⟩ := five (k2.heap HN.out.2.1 (by simp))
  have K2 := Hid.mk k2
  clear k2 b1 b2 b3 b4
  go_wp2_with (fail)
  refine (CV2.out _ (HN.out.2.2.2.trans K2.out)).mono ?_
  rintro e w3 ⟨rfl, k3⟩
  have K3 := Hid.mk (K2.out.trans k3)
  obtain ⟨⟨x0, x1, x2, x3, x4⟩, _⟩ := five (K3.out.heap HN.out.1 (by simp))
  obtain ⟨⟨y0, y1, y2, y3, y4⟩, _⟩ := five (K3.out.heap HN.out.2.1 (by simp))
  clear k3 c0 c1 c2' c3 c4
  go_wp2_with (fail)
  refine (CN.out _).mono ?_
  rintro e w5 ⟨g, bs, rfl, hM⟩
  have hk5 := K3.out.trans hM.kept
  have H5 := Hid.mk (And.intro (hk5.heap HN.out.1 (by simp)) (And.intro (hk5.heap HN.out.2.1 (by simp)) (hk5.heap HN.out.2.2.1 (by simp))))
  have M5 := Hid.mk (hM.base (HN.out.2.2.2.trans K3.out))
  have hl3 : Hid (w.heap.size + 1 + 1 < w3.heap.size) := Hid.mk (lt_of_block (K3.out.heap HN.out.2.2.1 (by simp)))
  have Hgt : Hid (w3.heap.size ≤ g ∧ g < w5.heap.size ∧ ∀ i, i < n → bs i < w5.heap.size ∧ w3.heap.size ≤ bs i) := Hid.mk ⟨hM.new, hM.lt, fun i hi => ⟨(hM.row i hi).lt, by have := hM.gt i hi; have := hM.new; omega⟩⟩
  clear hM hk5 x0 x1 x2 x3 x4 y0 y1 y2 y3 y4 CV CV2 CN HN EW
  go_wp2_with (fail)
  obtain ⟨w6, ew6⟩ : ∃ w6, w6 = w5.alloc (.cells #[.int .i64 W, .int .i64 H, .int .i64 D, .bool A, .slice (some ⟨g, 0, none⟩) n n] 29 (0, 0)) := ⟨_, rfl⟩
  have hk6 : Kept [] w5 w6 := by rw [ew6]; exact alloc_kept _ _
  have hv6 : w6.heap[w5.heap.size]? = some (.cells #[.int .i64 W, .int .i64 H, .int .i64 D, .bool A, .slice (some ⟨g, 0, none⟩) n n] 29 (0, 0)) := by rw [ew6]; exact heap_alloc_new _ _
  rw [← ew6]
  have H6 := Hid.mk (And.intro (hk6.heap H5.out.1 (by simp)) (And.intro (hk6.heap H5.out.2.1 (by simp)) (And.intro (hk6.heap H5.out.2.2 (by simp)) hv6)))
  have M6 : Hid (Mk w w6 g n n bs (pz W H) (fun i => if i < 0 then mxF F G p o i else fun _ => 0)) := Hid.mk ((M5.out.keep hk6).congr (fun i _ j _ => by rw [if_neg (by omega)]))
  obtain ⟨b, eb⟩ : ∃ b, b = w.heap.size := ⟨_, rfl⟩
  obtain ⟨B, eB⟩ : ∃ B, B = w5.heap.size := ⟨_, rfl⟩
  have HNE : Hid (b ∉ rbs bs n ∧ b + 1 ∉ rbs bs n ∧ b + 1 + 1 ∉ rbs bs n ∧ B ∉ rbs bs n ∧ w.heap.size ≤ b + 1 + 1 ∧ g ∉ rbs bs n) := Hid.mk (by
    have h1 := hl3.out
    have h2 := Hgt.out
    refine ⟨fun h => ?_, fun h => ?_, fun h => ?_, fun h => ?_, by omega, fun h => ?_⟩ <;>
    · obtain ⟨i, hi, e⟩ := mem_rbs.1 h
      have := h2.2.2 i hi
      have := M5.out.gt i hi
      omega)
  have HB3 : Hid (b = w.heap.size) := Hid.mk eb
  rw [← eb] at H6 ⊢
  rw [← eB] at H6 ⊢
  clear ew6 hk6 hv6 H5 M5 eb eB
  go_loopw [58] (fun i wr => ∃ t : Nat, t ≤ n ∧ i = .int .i64 (t : Int) ∧ Mk w wr g n n bs (pz W H) (fun i => if i < t then mxF F G p o i else fun _ => 0) ∧ Kept (rbs bs n) w6 wr) (fun i _ => n - (intOf i).toNat)
  case atStart => exact ⟨0, by omega, rfl, M6.out, Kept.refl _ _⟩
  case round =>
    obtain ⟨t, ht, rfl, hM, hkr⟩ := hrel
    have HM := Hid.mk hM
    have Hkr := Hid.mk hkr
    have H7 := Hid.mk (And.intro (hkr.heap H6.out.1 HNE.out.1) (And.intro (hkr.heap H6.out.2.1 HNE.out.2.1) (And.intro (hkr.heap H6.out.2.2.1 HNE.out.2.2.1) (hkr.heap H6.out.2.2.2 HNE.out.2.2.2.1))))
    clear hM hkr
    by_cases hlt : t < n
    · obtain ⟨hr, hv, hr2, hv2⟩ := Hall.out
      obtain ⟨hp, ho, ho2⟩ := HO.out
      obtain ⟨g1, off, bo, cc, rfl, hc, hrd⟩ := hr.at hlt
      obtain ⟨g2, off2, bo2, cc2, rfl, hc2, hrd2⟩ := hr2.at hlt
      obtain ⟨hz, hz1, hz2⟩ := hv.sz hlt
      obtain ⟨hz3, _, _⟩ := hv2.sz hlt
      rw [hz] at hc hrd
      rw [hz3] at hc2 hrd2
      have hn1 := HM.out.new
      have hn2 := HM.out.gt t hlt
      have d1 := cell_keep HM.out.kept hc (by simp)
      have d2 := cell_keep HM.out.kept hc2 (by simp)
      have d3 := HM.out.cell hlt (Nat.le_refl n)
      obtain ⟨⟨_, _, _, _, v0⟩, _⟩ := five H7.out.2.2.2
      obtain ⟨⟨_, _, _, _, v1⟩, _⟩ := five H7.out.1
      obtain ⟨⟨_, _, _, _, v2⟩, _⟩ := five H7.out.2.1
      have CM : Hid (∀ u, Kept [] wr u → Calls Tryd.prog 17 #[.slice (some ⟨bs t, 0, none⟩) (pz W H t) (pz W H t), .slice bo (pz W H t) cc, .slice bo2 (pz W H t) cc2, .int .i64 (p : Int), .int .i64 (o : Int)] u fun e w' => e = .returned (.tuple #[]) ∧ Row w' (bs t) (pz W H t) (mxF F G p o t) ∧ Kept [bs t] u w') := Hid.mk (fun u hu => mixPlane_any (bs t) (pz W H t) cc cc2 _ (F t) (G t) bo bo2 p o u ((HM.out.row t hlt).keep hu (by simp)) ((hrd.keep HM.out.kept).keep hu) ((hrd2.keep HM.out.kept).keep hu) (fun x y e => by have := hrd.old hz1 x y e; omega) (fun x y e => by have := hrd2.old hz1 x y e; omega) hp ho ho2 (fun i hi => by have := hv.top t hlt i (by omega); have := mx_le D; omega) (fun i hi => by have := hv2.top t hlt i (by omega); have := mx_le D; omega) (by omega))
      have HM7 : Hid (∀ u w7, Kept [] wr u → Row w7 (bs t) (pz W H t) (mxF F G p o t) → Kept [bs t] u w7 → Mk w w7 g n n bs (pz W H) (fun i => if i < t + 1 then mxF F G p o i else fun _ => 0) ∧ Kept (rbs bs n) w6 w7) := Hid.mk (fun u w7 hu h1 h2 => ⟨(HM.out.keep hu).upd hlt h2 (h1.congr (fun j _ => by rw [if_pos (by omega)])) (fun i _ hne j _ => by
        by_cases e : i < t
        · rw [if_pos e, if_pos (by omega)]
        · rw [if_neg e, if_neg (by omega)]), (Hkr.out.step hu (by simp)).step h2 (fun x hx => by simp at hx; subst hx; exact .inl (mem_rbs.2 ⟨t, hlt, rfl⟩))⟩)
      have m0 : B ≠ bs t := fun e => HNE.out.2.2.2.1 (mem_rbs.2 ⟨t, hlt, e.symm⟩)
      have m1 : b ≠ bs t := fun e => HNE.out.1 (mem_rbs.2 ⟨t, hlt, e.symm⟩)
      have m2 : b + 1 ≠ bs t := fun e => HNE.out.2.1 (mem_rbs.2 ⟨t, hlt, e.symm⟩)
      have m3 : g ≠ bs t := by omega
      have m4 : g1 ≠ bs t := by have := World.block_lt_of_cell? w _ hc; simp only at this; omega
      have m5 : g2 ≠ bs t := by have := World.block_lt_of_cell? w _ hc2; simp only at this; omega
      have ix : (t : Int) < (n : Int) := by omega
      obtain ⟨z, ez⟩ : ∃ z, pz W H t = z := ⟨_, rfl⟩
      rw [ez] at CM d1 d2 d3 HM7
      clear hr hv hr2 hv2 hp ho ho2 hc hc2 hrd hrd2 hz hz1 hz2 hz3 hn1 hn2 ez
      go_upto_region 15 with (fail)
      have CE : Hid (∀ u, Kept [bs t] wr u → u.cell? ⟨B, 4, none⟩ = some (.slice (some ⟨g, 0, none⟩) n n) ∧ u.cell? ⟨g, t, none⟩ = some (.slice (some ⟨bs t, 0, none⟩) z z) ∧ u.cell? ⟨b, 4, none⟩ = some (.slice (some ⟨g1, off, none⟩) n c) ∧ u.cell? ⟨g1, off + t, none⟩ = some (.slice bo z cc) ∧ u.cell? ⟨b + 1, 4, none⟩ = some (.slice (some ⟨g2, off2, none⟩) n c2) ∧ u.cell? ⟨g2, off2 + t, none⟩ = some (.slice bo2 z cc2)) := Hid.mk (fun u h7 => ⟨cell_keep h7 v0 (by simpa using m0), cell_keep h7 d3 (by simpa using m3), cell_keep h7 v1 (by simpa using m1), cell_keep h7 d1 (by simpa using m4), cell_keep h7 v2 (by simpa using m2), cell_keep h7 d2 (by simpa using m5)⟩)
      clear v0 v1 v2 d1 d2 d3 m0 m1 m2 m3 m4 m5
      refine wp_region_held_drew (S := fun u => Kept [bs t] wr u) (by kernel_rfl) (Kept.refl [bs t] wr).drew (fun hH0 => ?_)
      refine wpAnyH_take (i := 0) (oi := _) (v := ?_) rfl (by kernel_rfl) (by kernel_rfl) (by kernel_rfl) (fun _ _ _ h => h) (Or.inl ⟨by rfl, ?y0wr⟩) (by assumption) ?r0wr
      case y0wr => (intro u hSw; have hSu : Kept [bs t] wr u := hSw; obtain ⟨q0, q1, q2, q3, q4, q5⟩ := CE.out u hSu; go_simp; try with_reducible rfl)
      refine wpAnyH_take (i := 1) (oi := _) (v := ?_) rfl (by kernel_rfl) (by kernel_rfl) (by kernel_rfl) (fun _ _ _ h => h) (Or.inl ⟨by rfl, ?y1wr⟩) (by assumption) ?r1wr
      case y1wr => (intro u hSw; have hSu : Kept [bs t] wr u := hSw; obtain ⟨q0, q1, q2, q3, q4, q5⟩ := CE.out u hSu; go_simp; try with_reducible rfl)
      refine wpAnyH_take (i := 2) (oi := _) (v := ?_) rfl (by kernel_rfl) (by kernel_rfl) (by kernel_rfl) (fun _ _ _ h => h) (Or.inl ⟨by rfl, ?y2wr⟩) (by assumption) ?r2wr
      case y2wr => (intro u hSw; have hSu : Kept [bs t] wr u := hSw; obtain ⟨q0, q1, q2, q3, q4, q5⟩ := CE.out u hSu; go_simp; try with_reducible rfl)
      refine wpAnyH_take (i := 3) (oi := _) (v := ?_) rfl (by kernel_rfl) (by kernel_rfl) (by kernel_rfl) (fun _ _ _ h => h) (Or.inl ⟨by rfl, ?y3wr⟩) (by assumption) ?r3wr
      case y3wr => (intro u hSw; have hSu : Kept [bs t] wr u := hSw; obtain ⟨q0, q1, q2, q3, q4, q5⟩ := CE.out u hSu; go_simp; try with_reducible rfl)
      refine wpAnyH_take (i := 4) (oi := _) (v := ?_) rfl (by kernel_rfl) (by kernel_rfl) (by kernel_rfl) (fun _ _ _ h => h) (Or.inl ⟨by rfl, ?y4wr⟩) (by assumption) ?r4wr
      case y4wr => (intro u hSw; have hSu : Kept [bs t] wr u := hSw; obtain ⟨q0, q1, q2, q3, q4, q5⟩ := CE.out u hSu; go_simp; try with_reducible rfl)
      refine wpAnyH_take (i := 5) (oi := _) (v := ?_) rfl (by kernel_rfl) (by kernel_rfl) (by kernel_rfl) (fun _ _ _ h => h) (Or.inl ⟨by rfl, ?y5wr⟩) (by assumption) ?r5wr
      case y5wr => (intro u hSw; have hSu : Kept [bs t] wr u := hSw; obtain ⟨q0, q1, q2, q3, q4, q5⟩ := CE.out u hSu; go_simp; try with_reducible rfl)
      refine wpAnyH_take (i := 6) (oi := _) (v := ?_) rfl (by kernel_rfl) (by kernel_rfl) (by kernel_rfl) (fun _ _ _ h => h) (Or.inl ⟨by rfl, ?y6wr⟩) (by assumption) ?r6wr
      case y6wr => (intro u hSw; have hSu : Kept [bs t] wr u := hSw; obtain ⟨q0, q1, q2, q3, q4, q5⟩ := CE.out u hSu; go_simp; try with_reducible rfl)
      refine wpAnyH_take (i := 7) (oi := _) (v := ?_) rfl (by kernel_rfl) (by kernel_rfl) (by kernel_rfl) (fun _ _ _ h => h) (Or.inl ⟨by rfl, ?y7wr⟩) (by assumption) ?r7wr
      case y7wr => (intro u hSw; have hSu : Kept [bs t] wr u := hSw; obtain ⟨q0, q1, q2, q3, q4, q5⟩ := CE.out u hSu; go_simp; try with_reducible rfl)
      refine wpAnyH_take (i := 8) (oi := _) (v := ?_) rfl (by kernel_rfl) (by kernel_rfl) (by kernel_rfl) (fun _ _ _ h => h) (Or.inl ⟨by rfl, ?y8wr⟩) (by assumption) ?r8wr
      case y8wr => (intro u hSw; have hSu : Kept [bs t] wr u := hSw; obtain ⟨q0, q1, q2, q3, q4, q5⟩ := CE.out u hSu; go_simp; try with_reducible rfl)
      refine wpAnyH_take (i := 9) (oi := _) (v := ?_) rfl (by kernel_rfl) (by kernel_rfl) (by kernel_rfl) (fun _ _ _ h => h) (Or.inl ⟨by rfl, ?y9wr⟩) (by assumption) ?r9wr
      case y9wr => (intro u hSw; have hSu : Kept [bs t] wr u := hSw; obtain ⟨q0, q1, q2, q3, q4, q5⟩ := CE.out u hSu; go_simp; try with_reducible rfl)
      refine wpAnyH_take (i := 10) (oi := _) (v := ?_) rfl (by kernel_rfl) (by kernel_rfl) (by kernel_rfl) (fun _ _ _ h => h) (Or.inl ⟨by rfl, ?y10wr⟩) (by assumption) ?r10wr
      case y10wr => (intro u hSw; have hSu : Kept [bs t] wr u := hSw; obtain ⟨q0, q1, q2, q3, q4, q5⟩ := CE.out u hSu; go_simp; try with_reducible rfl)
      refine wpAnyH_take (i := 11) (oi := _) (v := ?_) rfl (by kernel_rfl) (by kernel_rfl) (by kernel_rfl) (fun _ _ _ h => h) (Or.inl ⟨by rfl, ?y11wr⟩) (by assumption) ?r11wr
      case y11wr => (intro u hSw; have hSu : Kept [bs t] wr u := hSw; obtain ⟨q0, q1, q2, q3, q4, q5⟩ := CE.out u hSu; go_simp; try with_reducible rfl)
      refine wpAnyH_take (i := 12) (oi := _) (v := ?_) rfl (by kernel_rfl) (by kernel_rfl) (by kernel_rfl) (fun _ _ _ h => h) (Or.inl ⟨by rfl, ?y12wr⟩) (by assumption) ?r12wr
      case y12wr => (intro u hSw; have hSu : Kept [bs t] wr u := hSw; obtain ⟨q0, q1, q2, q3, q4, q5⟩ := CE.out u hSu; go_simp; try with_reducible rfl)
      refine wpAnyH_take (i := 13) (oi := _) (v := ?_) rfl (by kernel_rfl) (by kernel_rfl) (by kernel_rfl) (fun _ _ _ h => h) (Or.inl ⟨by rfl, ?y13wr⟩) (by assumption) ?r13wr
      case y13wr => (intro u hSw; have hSu : Kept [bs t] wr u := hSw; obtain ⟨q0, q1, q2, q3, q4, q5⟩ := CE.out u hSu; go_simp; try with_reducible rfl)
      refine wpAnyH_take (i := 14) (oi := _) (v := ?_) rfl (by kernel_rfl) (by kernel_rfl) (by kernel_rfl) (fun _ _ _ h => h) (Or.inl ⟨by rfl, ?y14wr⟩) (by assumption) ?r14wr
      case y14wr => (intro u hSw; have hSu : Kept [bs t] wr u := hSw; obtain ⟨q0, q1, q2, q3, q4, q5⟩ := CE.out u hSu; go_simp; try with_reducible rfl)
      refine wpAnyH_take (i := 15) (oi := _) (v := ?_) rfl (by kernel_rfl) (by kernel_rfl) (by kernel_rfl) (fun _ _ _ h => h) (Or.inl ⟨by rfl, ?y15wr⟩) (by assumption) ?r15wr
      case y15wr => (intro u hSw; have hSu : Kept [bs t] wr u := hSw; obtain ⟨q0, q1, q2, q3, q4, q5⟩ := CE.out u hSu; go_simp; try with_reducible rfl)
      refine wpAnyH_take (i := 16) (oi := _) (v := ?_) rfl (by kernel_rfl) (by kernel_rfl) (by kernel_rfl) (fun _ _ _ h => h) (Or.inl ⟨by rfl, ?y16wr⟩) (by assumption) ?r16wr
      case y16wr => (intro u hSw; have hSu : Kept [bs t] wr u := hSw; obtain ⟨q0, q1, q2, q3, q4, q5⟩ := CE.out u hSu; go_simp; try with_reducible rfl)
      refine wpAnyH_ready (rs := [17]) (by kernel_rfl) (by simp) ?_
      refine AllReadyH.cons rfl (fun K hK => ?_) AllReadyH.nil
      go_simp
      go_at_call 17
      refine (CM.out _ (Kept.refl [] wr).drew).mono ?_
      rintro e w7 ⟨rfl, hrow7, hk7⟩
      obtain ⟨hm7, hkk7⟩ := HM7.out _ w7 (Kept.refl [] wr).drew hrow7 hk7
      refine hK.out _ _ hk7.undrew (fun hH1 => ?_)
      clear hK K hH0 CM HM7
      refine wpAnyH_done (by kernel_rfl) ?_ _
      clear hH1
      go_wp2
      go_roundw
      case rel => exact ⟨t + 1, by omega, by go_num, hm7, hkk7⟩
      case measure => simp [intOf]; omega
    · obtain rfl : n = t := by omega
      obtain ⟨⟨z0, z1, z2, z3, z4⟩, f0, f1, f2, f3, f4⟩ := five H7.out.2.2.1
      obtain ⟨⟨v0, v1, v2, v3, v4⟩, _⟩ := five H7.out.2.2.2
      have hgg := Hgt.out
      have hl4 := hl3.out
      have Hb := Hid.mk HNE.out
      go_wp2_with (fail)
      have s5 := set5 (.int .i64 W) (.int .i64 H) (.int .i64 D) (.bool A) (.slice (some ⟨g, 0, none⟩) n n) H7.out.2.2.1
      refine bodyPost_ret (v := .tuple #[frv W H D A (some ⟨g, 0, none⟩) n n, .int .i64 0]) ?_ rfl ⟨g, bs, rfl, ?_⟩
      · exact results_two rfl _ _ (b + 1 + 1) 29 _ (0, 0) _ _ rfl s5.1 Tryd.underlying29 Tryd.info29 rfl
      · refine ⟨s5.2.heap HM.out.out ?_, fun i hi => ((HM.out.row i hi).keep s5.2 ?_).congr (fun j _ => by rw [if_pos hi]), HM.out.gt, HM.out.mon, HM.out.new, HM.out.kept.step s5.2 (fun x hx => by simp at hx; subst hx; exact .inr Hb.out.2.2.2.2.1)⟩
        · rw [List.mem_singleton]
          intro e
          have := HB3.out
          omega
        · rw [List.mem_singleton]
          intro e
          exact Hb.out.2.2.1 (mem_rbs.2 ⟨i, hi, e⟩)
end Go.Proofs.YtgjjnkhkjnkahaaDoor
