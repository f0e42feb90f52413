import Derived.Test.YthihennifigchaaYc
import Derived.Test.YthihennifigchaaLd
namespace Go.Proofs.Ythihennifigchaa
open Go.RowKit

/-- One row is written over. -/
theorem Mk.upd {w0 w w' : World} {G n k : Nat} {bs ln : Nat → Nat} {F F' : Nat → Nat → Nat} (h : Mk w0 w G n n bs ln F) (hk : k < n) (hw : Kept [bs k] w w') (hr : Row w' (bs k) (ln k) (F' k)) (hF : ∀ i, i < n → i ≠ k → ∀ j, j < ln i → F' i j = F i j) : Mk w0 w' G n n bs ln F' := by
  have hg := h.gt k hk
  refine ⟨hw.heap h.out (by rw [List.mem_singleton]; omega), fun i hi => ?_, h.gt, h.mon, h.new, h.kept.step hw (fun x hx => by simp at hx; subst hx; exact .inr (by have := h.new; omega))⟩
  by_cases e : i = k
  · subst e; exact hr
  · refine ((h.row i hi).keep hw ?_).congr (fun j hj => (hF i hi e j hj).symm)
    rw [List.mem_singleton]
    intro e2
    rcases Nat.lt_or_gt_of_ne e with h1 | h1
    · have := h.mon i k h1 hk; omega
    · have := h.mon k i h1 hi; omega
theorem Mk.congr {w0 w : World} {G n : Nat} {bs ln : Nat → Nat} {F F' : Nat → Nat → Nat} (h : Mk w0 w G n n bs ln F) (hF : ∀ i, i < n → ∀ j, j < ln i → F i j = F' i j) : Mk w0 w G n n bs ln F' :=
  ⟨h.out, fun i hi => (h.row i hi).congr (hF i hi), h.gt, h.mon, h.new, h.kept⟩
theorem Mk.base {w0 w1 w : World} {G k n : Nat} {bs ln : Nat → Nat} {F : Nat → Nat → Nat} (h : Mk w1 w G k n bs ln F) (hk : Kept [] w0 w1) : Mk w0 w G k n bs ln F :=
  ⟨h.out, h.row, h.gt, h.mon, Nat.le_trans hk.size h.new, hk.trans h.kept⟩

/-- A plane with a block in it, as far as r rows. -/
def psR (f bf : Nat → Nat) (wN X Y bw r : Nat) : Nat → Nat := fun j => if (Y ≤ j / wN ∧ j / wN < Y + r) ∧ X ≤ j % wN ∧ j % wN < X + bw then bf ((j / wN - Y) * bw + (j % wN - X)) else f j
theorem psR_zero (f bf : Nat → Nat) (wN X Y bw j : Nat) : psR f bf wN X Y bw 0 j = f j := if_neg (by omega)
theorem psR_step (f bf : Nat → Nat) (wN X Y bw r o q j : Nat) (hX : X + bw ≤ wN) (hb : 1 ≤ bw) (ho : o = (Y + r) * wN + X) (hq : q = r * bw) : ovr (psR f bf wN X Y bw r) (fun i => bf (q + i)) o bw j = psR f bf wN X Y bw (r + 1) j := by
  have hdm := Nat.div_add_mod j wN
  have hml := Nat.mod_lt j (show 0 < wN by omega)
  have key : (o ≤ j ∧ j < o + bw) ↔ (j / wN = Y + r ∧ X ≤ j % wN ∧ j % wN < X + bw) := by
    constructor
    · intro h
      have hd : j / wN = Y + r := by
        apply Nat.div_eq_of_lt_le
        · rw [Nat.mul_comm] at ho ⊢; omega
        · rw [Nat.succ_mul]; omega
      rw [hd, Nat.mul_comm] at hdm
      exact ⟨hd, by omega, by omega⟩
    · rintro ⟨h1, h2, h3⟩
      rw [h1, Nat.mul_comm] at hdm
      omega
  unfold ovr
  by_cases h : o ≤ j ∧ j < o + bw
  · rw [if_pos h]
    obtain ⟨h1, h2, h3⟩ := key.1 h
    unfold psR
    rw [if_pos (by omega)]
    rw [h1, Nat.mul_comm] at hdm
    rw [h1, show Y + r - Y = r by omega, ← hq, show j - o = j % wN - X by omega]
  · rw [if_neg h]
    unfold psR
    have hn : ¬ (j / wN = Y + r ∧ X ≤ j % wN ∧ j % wN < X + bw) := fun e => h (key.2 e)
    by_cases c : (Y ≤ j / wN ∧ j / wN < Y + r) ∧ X ≤ j % wN ∧ j % wN < X + bw
    · rw [if_pos c, if_pos (by omega)]
    · rw [if_neg c, if_neg (by omega)]
/-- A frame with a block in it. -/
def psF (F : Nat → Nat → Nat) (p : Nat) (bf : Nat → Nat) (wN X Y bw bh : Nat) : Nat → Nat → Nat := fun i => if i = p then psR (F p) bf wN X Y bw bh else F i
/-- Crop of paste. -/
theorem crp_ps (f bf : Nat → Nat) (wN X Y bw bh j : Nat) (hX : X + bw ≤ wN) (hb : 1 ≤ bw) (hj : j < bw * bh) : crp (psR f bf wN X Y bw bh) wN X Y bw j = bf j := by
  have hm := Nat.mod_lt j (show 0 < bw by omega)
  have hd : j / bw < bh := by
    rw [Nat.div_lt_iff_lt_mul (by omega)]
    rw [Nat.mul_comm] at hj
    exact hj
  unfold crp psR
  have e1 : ((Y + j / bw) * wN + X + j % bw) / wN = Y + j / bw := by
    rw [Nat.add_assoc, Nat.mul_comm, Nat.mul_add_div (by omega), Nat.div_eq_of_lt (show X + j % bw < wN by omega), Nat.add_zero]
  have e2 : ((Y + j / bw) * wN + X + j % bw) % wN = X + j % bw := by
    rw [Nat.add_assoc, Nat.mul_comm, Nat.mul_add_mod, Nat.mod_eq_of_lt (show X + j % bw < wN by omega)]
  rw [e1, e2, if_pos ⟨⟨Nat.le_add_right _ _, Nat.add_lt_add_left hd Y⟩, Nat.le_add_right _ _, Nat.add_lt_add_left hm X⟩, Nat.add_sub_cancel_left, Nat.add_sub_cancel_left]
  congr 1
  rw [Nat.mul_comm]
  exact Nat.div_add_mod j bw
/-- Paste of crop. -/
theorem ps_crp (f : Nat → Nat) (wN X Y bw bh j : Nat) (hb : 1 ≤ bw) : psR f (crp f wN X Y bw) wN X Y bw bh j = f j := by
  unfold psR
  split
  · rename_i h
    unfold crp
    have e1 : ((j / wN - Y) * bw + (j % wN - X)) / bw = j / wN - Y := by
      rw [Nat.mul_comm, Nat.mul_add_div (by omega), Nat.div_eq_of_lt (show j % wN - X < bw by omega), Nat.add_zero]
    have e2 : ((j / wN - Y) * bw + (j % wN - X)) % bw = j % wN - X := by
      rw [Nat.mul_comm, Nat.mul_add_mod, Nat.mod_eq_of_lt (show j % wN - X < bw by omega)]
    rw [e1, e2, show Y + (j / wN - Y) = j / wN by omega]
    congr 1
    have := Nat.div_add_mod j wN
    rw [Nat.mul_comm] at this
    omega
  · rfl

/-- Blocks of a frame, a block and a frame. -/
theorem ent535 (w : World) (a0 a1 a2 a3 a4 b0 b1 b2 c0 c1 c2 c3 c4 : Value) (t t' t2 : Nat) :
    (((w.alloc (.cells #[a0, a1, a2, a3, a4] t (0, 0))).alloc (.cells #[b0, b1, b2] t' (0, 0))).alloc (.cells #[c0, c1, c2, c3, c4] t2 (0, 0))).heap[w.heap.size]? = some (.cells #[a0, a1, a2, a3, a4] t (0, 0)) ∧
    (((w.alloc (.cells #[a0, a1, a2, a3, a4] t (0, 0))).alloc (.cells #[b0, b1, b2] t' (0, 0))).alloc (.cells #[c0, c1, c2, c3, c4] t2 (0, 0))).heap[w.heap.size + 1]? = some (.cells #[b0, b1, b2] t' (0, 0)) ∧
    (((w.alloc (.cells #[a0, a1, a2, a3, a4] t (0, 0))).alloc (.cells #[b0, b1, b2] t' (0, 0))).alloc (.cells #[c0, c1, c2, c3, c4] t2 (0, 0))).heap[w.heap.size + 1 + 1]? = some (.cells #[c0, c1, c2, c3, c4] t2 (0, 0)) ∧
    Kept [] w (((w.alloc (.cells #[a0, a1, a2, a3, a4] t (0, 0))).alloc (.cells #[b0, b1, b2] t' (0, 0))).alloc (.cells #[c0, c1, c2, c3, c4] t2 (0, 0))) := by
  refine ⟨((alloc_kept _ _).trans (alloc_kept _ _)).heap (heap_alloc_new w _) (by simp), (alloc_kept _ _).heap ?_ (by simp), ?_, ((alloc_kept _ _).trans (alloc_kept _ _)).trans (alloc_kept _ _)⟩
  · have := heap_alloc_new (w.alloc (.cells #[a0, a1, a2, a3, a4] t (0, 0))) (.cells #[b0, b1, b2] t' (0, 0))
    rwa [World.size_alloc] at this
  · have := heap_alloc_new ((w.alloc (.cells #[a0, a1, a2, a3, a4] t (0, 0))).alloc (.cells #[b0, b1, b2] t' (0, 0))) (.cells #[c0, c1, c2, c3, c4] t2 (0, 0))
    rwa [World.size_alloc, World.size_alloc] at this

set_option maxHeartbeats 16000000 in
set_option maxRecDepth 1000000 in
theorem paste_yes (W H D : Int) (A : Bool) (po : Option Addr) (n c : Nat) (ln : Nat → Nat) (F : Nat → Nat → Nat) (p X Y bw bh : Nat) (so : Option Addr) (m k : Nat) (bf : Nat → Nat) (w : World) (hr : Pc w po n ln F) (hv : Vld W H D A n ln F) (hs : Rd w so m bf) (hmk : m ≤ k) (hm : m = bw * bh) (hbf : ∀ i, i < m → bf i ≤ mx D) (hp : p < n) (h1 : 1 ≤ bw) (h2 : 1 ≤ bh) (h3 : (X : Int) + bw ≤ wp W p) (h4 : (Y : Int) + bh ≤ H) :
    Calls Try.prog 31 #[frv W H D A po n c, .int .i64 (p : Int), .int .i64 (X : Int), .int .i64 (Y : Int), blv (bw : Int) (bh : Int) so m k] w fun e w' => ∃ g bs, e = .returned (.tuple #[frv W H D A (some ⟨g, 0, none⟩) n n, .int .i64 0]) ∧ Mk w w' g n n bs (pz W H) (psF F p bf (wp W (p : Int)).toNat X Y bw bh) := by
  have hsh := hv.shp
  have hs1 := hsh.1
  have hs2 := hsh.2.1
  have wl := wp_lo (p : Int) hs1.1
  have wh := wp_hi (p : Int) hs1.1
  have CV := Hid.mk (fun u (hk : Kept [] w u) => by
    have h := valid_any W H D A po n c ln F u (hr.keep hk).pl (by rw [hv.num]; exact Nat.le_trans (np_hi A) (by decide)) (fun i hi => by have h1 := hv.len i hi; have h2 := wpH (i : Int) hs1.1 hs1.2 hs2.1 hs2.2; omega)
    rw [vE_zero.2 hv] at h
    exact h)
  have CI := Hid.mk (fun u => inPlane_any W H D p X Y bw bh A u (by omega) (by omega) hs1 hs2)
  rw [show inP W H A p X Y bw bh = true by unfold inP lie; rw [decide_eq_true (by rw [← hv.num]; omega), decide_eq_true (by omega)]; rfl] at CI
  have hmb : m ≤ 16777216 := by rw [hm]; exact Nat.le_trans (Nat.mul_le_mul (show bw ≤ 4096 by omega) (show bh ≤ 4096 by omega)) (by decide)
  have CA := Hid.mk (fun u (hk : Kept [] w u) => above_any so m k bf D u (hs.keep hk) hsh.2.2.1 (by omega))
  rw [abv_no.2 hbf] at CA
  have hnn := hv.num
  have hn4 : n ≤ 4 := by rw [hnn]; exact np_hi A
  have CB := Hid.mk (fun u => blank_any W H D A u hs1.1 hs1.2 hs2.1 hs2.2)
  rw [← hnn] at CB
  obtain ⟨wN, ewN⟩ : ∃ m : Nat, wp W (p : Int) = (m : Int) := ⟨(wp W (p : Int)).toNat, by omega⟩
  have CS : Hid (∀ u, Calls Try.prog 41 #[shv W H D A, .int .i64 (p : Int)] u fun e w' => e = .returned (.tuple #[.int .i64 (wN : Int), .int .i64 H]) ∧ Kept [] u w') := Hid.mk (fun u => by have := sides_any W H D p A u (by omega) hs1.2; rw [ewN] at this; exact this)
  rw [show (wp W (p : Int)).toNat = wN by rw [ewN]; rfl]
  have N := ent535 w (.int .i64 W) (.int .i64 H) (.int .i64 D) (.bool A) (.slice po n c) (.int .i64 (bw : Int)) (.int .i64 (bh : Int)) (.slice so m k) (.int .i64 0) (.int .i64 0) (.int .i64 0) (.bool false) (.slice none 0 0) 38 54 38
  obtain ⟨w1, ew1⟩ : ∃ w1, w1 = ((w.alloc (.cells #[.int .i64 W, .int .i64 H, .int .i64 D, .bool A, .slice po n c] 38 (0, 0))).alloc (.cells #[.int .i64 (bw : Int), .int .i64 (bh : Int), .slice so m k] 54 (0, 0))).alloc (.cells #[.int .i64 0, .int .i64 0, .int .i64 0, .bool false, .slice none 0 0] 38 (0, 0)) := ⟨_, rfl⟩
  rw [← ew1] at N
  have HN := Hid.mk N
  have EW := Hid.mk ew1
  have ixp : (p : Int) < (n : Int) := by omega
  have hwm : IntKind.i64.wrap ((bw : Int) * (bh : Int)) = (m : Int) := by
    rw [show (bw : Int) * (bh : Int) = (m : Int) by rw [hm]; simp]
    exact wrap_i (by omega) (by omega)
  have Hall := Hid.mk (And.intro hr (And.intro hv (And.intro hs (And.intro hmk (And.intro hm (And.intro h1 (And.intro h2 (And.intro h3 (And.intro h4 ewN)))))))))
  clear N ew1 hr hv hs hsh hs1 hs2 wl wh ewN hmk hm hbf h1 h2 h3 h4 hnn hmb
  go_enter Try.func31, Try.ntmps31
  go_wp2_with (first | (go_at_call 22; rw [← EW.out]; refine (CV.out _ HN.out.2.2.2).mono ?_; rintro e w2 ⟨rfl, hk2⟩; obtain ⟨⟨c0, c1, c2, c3, c4⟩, _⟩ := five (hk2.heap HN.out.1 (by simp)); obtain ⟨⟨r0, r1, r2⟩, _⟩ := tri' (hk2.heap HN.out.2.1 (by simp))) | (go_at_call 51; refine (CI.out _).mono ?_; rintro e w3 ⟨rfl, hk3⟩; obtain ⟨⟨d0, d1, d2, d3, d4⟩, _⟩ := five ((hk2.trans hk3).heap HN.out.1 (by simp)); obtain ⟨⟨s0, s1, s2⟩, _⟩ := tri' ((hk2.trans hk3).heap HN.out.2.1 (by simp)); have K3 := Hid.mk (HN.out.2.2.2.trans (hk2.trans hk3))) | (go_at_call 49; refine (CA.out _ K3.out).mono ?_; rintro e w4 ⟨rfl, hw⟩; obtain rfl := hw.symm))
  refine (CB.out _).mono ?_
  rintro e w5 ⟨g, bs, rfl, hM⟩
  have hk5 := (hk2.trans hk3).trans hM.kept
  have H5 := Hid.mk (And.intro (hk5.heap HN.out.1 (by simp)) (And.intro (hk5.heap HN.out.2.1 (by simp)) (hk5.heap HN.out.2.2.1 (by simp))))
  have M5 := Hid.mk (hM.base K3.out)
  have hl3 : Hid (w.heap.size + 1 + 1 < w3.heap.size) := Hid.mk (lt_of_block ((hk2.trans hk3).heap HN.out.2.2.1 (by simp)))
  have Hgt : Hid (w3.heap.size ≤ g ∧ g < w5.heap.size ∧ ∀ i, i < n → bs i < w5.heap.size ∧ w3.heap.size ≤ bs i) := Hid.mk ⟨hM.new, hM.lt, fun i hi => ⟨(hM.row i hi).lt, by have := hM.gt i hi; have := hM.new; omega⟩⟩
  obtain ⟨⟨e0, e1, e2, e3, e4⟩, _⟩ := five H5.out.1
  have hlw : w.heap.size < w5.heap.size := lt_of_block H5.out.1
  clear hM hk5 hk2 hk3 c0 c1 c2 c3 c4 r0 r1 r2 d0 d1 d2 d3 d4 s0 s1 s2 CV CI CA CB HN EW hwm
  go_wp2
  obtain ⟨w6, ew6⟩ : ∃ w6, w6 = w5.alloc (.cells #[.int .i64 W, .int .i64 H, .int .i64 D, .bool A, .slice (some ⟨g, 0, none⟩) n n] 38 (0, 0)) := ⟨_, rfl⟩
  have hk6 : Kept [] w5 w6 := by rw [ew6]; exact alloc_kept _ _
  have hv6 : w6.heap[w5.heap.size]? = some (.cells #[.int .i64 W, .int .i64 H, .int .i64 D, .bool A, .slice (some ⟨g, 0, none⟩) n n] 38 (0, 0)) := by rw [ew6]; exact heap_alloc_new _ _
  rw [← ew6]
  have H6 := Hid.mk (And.intro (hk6.heap H5.out.1 (by simp)) (And.intro (hk6.heap H5.out.2.1 (by simp)) (And.intro (hk6.heap H5.out.2.2 (by simp)) hv6)))
  have M6 : Hid (Mk w w6 g n n bs (pz W H) (fun i => if i < 0 then F i else fun _ => 0)) := Hid.mk ((M5.out.keep hk6).congr (fun i _ j _ => by rw [if_neg (by omega)]))
  obtain ⟨b, eb⟩ : ∃ b, b = w.heap.size := ⟨_, rfl⟩
  obtain ⟨B, eB⟩ : ∃ B, B = w5.heap.size := ⟨_, rfl⟩
  have HNE : Hid (b ∉ rbs bs n ∧ b + 1 ∉ rbs bs n ∧ b + 1 + 1 ∉ rbs bs n ∧ B ∉ rbs bs n ∧ w.heap.size ≤ b + 1 + 1) := Hid.mk (by
    have h1 := hl3.out
    have h2 := Hgt.out
    refine ⟨fun h => ?_, fun h => ?_, fun h => ?_, fun h => ?_, by omega⟩ <;>
    · obtain ⟨i, hi, e⟩ := mem_rbs.1 h
      have := h2.2.2 i hi
      omega)
  have HB3 : Hid (b = w.heap.size) := Hid.mk eb
  rw [← eb] at H6 ⊢
  rw [← eB] at H6 ⊢
  clear ew6 hk6 hv6 e0 e1 e2 e3 e4 hlw H5 M5 eb eB
  go_loopw [62] (fun i wr => ∃ t : Nat, t ≤ n ∧ i = .int .i64 (t : Int) ∧ Mk w wr g n n bs (pz W H) (fun i => if i < t then F i else fun _ => 0) ∧ Kept (rbs bs n) w6 wr) (fun i _ => n - (intOf i).toNat)
  case atStart => exact ⟨0, by omega, rfl, M6.out, Kept.refl _ _⟩
  case round =>
    obtain ⟨t, ht, rfl, hM, hkr⟩ := hrel
    have HM := Hid.mk hM
    have Hkr := Hid.mk hkr
    have H7 := Hid.mk (And.intro (hkr.heap H6.out.1 HNE.out.1) (And.intro (hkr.heap H6.out.2.1 HNE.out.2.1) (And.intro (hkr.heap H6.out.2.2.1 HNE.out.2.2.1) (hkr.heap H6.out.2.2.2 HNE.out.2.2.2.1))))
    clear hM hkr
    by_cases hlt : t < n
    · obtain ⟨g1, off, bo, cc, rfl, hc, hcc, hrd⟩ := (Hall.out.1.keep HM.out.kept).at hlt
      have hvl := Hall.out.2.1
      have hlen := hvl.len t hlt
      have hb := wpH (t : Int) hvl.shp.1.1 hvl.shp.1.2 hvl.shp.2.1.1 hvl.shp.2.1.2
      have hpz : ln t = pz W H t := by show _ = (wp W (t : Int) * H).toNat; omega
      have hpos : 1 ≤ ln t := by omega
      obtain ⟨g2, o2, hbo, hsr⟩ : ∃ g2 o2, bo = some ⟨g2, o2, none⟩ ∧ ∀ i, i < ln t → wr.cell? ⟨g2, o2 + i, none⟩ = some (.int .u16 (F t i : Int)) := by
        rcases hrd with h | ⟨g2, o2, e, h⟩
        · omega
        · exact ⟨g2, o2, e, h⟩
      subst hbo
      obtain ⟨⟨_, _, _, _, v4⟩, _⟩ := five H7.out.2.2.2
      have hce := HM.out.cell hlt (Nat.le_refl n)
      obtain ⟨w7, hcp, hrow7, hk7⟩ := copy_mid wr (bs t) (pz W H t) 0 (pz W H t) (pz W H t) g2 o2 (ln t) cc _ (F t) (HM.out.row t hlt) (fun i hi => hsr i (by omega)) (by omega) (by omega)
      have HM7 : Hid (Mk w w7 g n n bs (pz W H) (fun i => if i < t + 1 then F i else fun _ => 0)) := Hid.mk (HM.out.upd hlt hk7 (hrow7.congr (fun j hj => by unfold ovr; rw [if_pos (by omega), if_pos (by omega)]; rfl)) (fun i _ hne j _ => by
        by_cases e : i < t
        · rw [if_pos e, if_pos (by omega)]
        · rw [if_neg e, if_neg (by omega)]))
      have HK7 := Hid.mk (Hkr.out.step hk7 (fun x hx => by simp at hx; subst hx; exact .inl (mem_rbs.2 ⟨t, hlt, rfl⟩)))
      have ix : (t : Int) < (n : Int) := by omega
      obtain ⟨z, ez⟩ : ∃ z, z = pz W H t := ⟨_, rfl⟩
      obtain ⟨y, ey⟩ : ∃ y, y = ln t := ⟨_, rfl⟩
      rw [← ez] at hce hcp
      rw [← ey] at hc hcp
      clear ez ey hvl hlen hb hpz hpos hsr hrd hrow7 hk7 hcc
      go_wp2
      go_roundw
      case rel => exact ⟨t + 1, by omega, by go_num, HM7.out, HK7.out⟩
      case measure => simp [intOf]; omega
    · obtain rfl : n = t := by omega
      obtain ⟨⟨q0, q1, q2, q3, q4⟩, _⟩ := five H7.out.1
      go_wp2_with (fail)
      refine (CS.out _).mono ?_
      rintro e w8 ⟨rfl, hk8⟩
      have H8 := Hid.mk (And.intro (hk8.heap H7.out.2.1 (by simp)) (And.intro (hk8.heap H7.out.2.2.1 (by simp)) (hk8.heap H7.out.2.2.2 (by simp))))
      have M8 : Hid (Mk w w8 g n n bs (pz W H) (psF F p bf wN X Y bw 0)) := Hid.mk ((HM.out.keep hk8).congr (fun i hi j _ => by
        rw [if_pos hi]
        unfold psF
        by_cases e : i = p
        · rw [if_pos e, e, psR_zero]
        · rw [if_neg e]))
      obtain ⟨⟨r0, r1, r2⟩, _⟩ := tri' H8.out.1
      clear hk8 q0 q1 q2 q3 q4 H7 HM Hkr CS M6 H6
      go_wp2
      go_loopw [84] (fun i wr => ∃ t : Nat, t ≤ bh ∧ i = .int .i64 (t : Int) ∧ Mk w wr g n n bs (pz W H) (psF F p bf wN X Y bw t) ∧ Kept (rbs bs n) w8 wr) (fun i _ => bh - (intOf i).toNat)
      case atStart => exact ⟨0, by omega, rfl, M8.out, Kept.refl _ _⟩
      case round =>
        obtain ⟨t, ht, rfl, hM, hkr⟩ := hrel
        have HM := Hid.mk hM
        have Hkr := Hid.mk hkr
        have H9 := Hid.mk (And.intro (hkr.heap H8.out.1 HNE.out.2.1) (And.intro (hkr.heap H8.out.2.1 HNE.out.2.2.1) (hkr.heap H8.out.2.2 HNE.out.2.2.2.1)))
        obtain ⟨⟨p0, p1, p2⟩, _⟩ := tri' H9.out.1
        obtain ⟨⟨v0, v1, v2, v3, v4⟩, _⟩ := five H9.out.2.2
        clear hM hkr r0 r1 r2
        by_cases hlt : t < bh
        · obtain ⟨_, hvl, hsb, hmk, hmm, h1, h2, h3, h4, ewN⟩ := Hall.out
          have hs1 := hvl.shp.1
          have hs2 := hvl.shp.2.1
          have wh := wp_hi (p : Int) hs1.1
          obtain ⟨hN, ehN⟩ : ∃ m : Nat, H = (m : Int) := ⟨H.toNat, by omega⟩
          have hz : pz W H p = wN * hN := by
            show (wp W (p : Int) * H).toNat = wN * hN
            rw [ewN, ehN, ← Int.natCast_mul, Int.toNat_natCast]
          obtain ⟨o, eo⟩ : ∃ o : Nat, o = (Y + t) * wN + X := ⟨_, rfl⟩
          have hb1 : (Y + t + 1) * wN ≤ hN * wN := Nat.mul_le_mul_right _ (by omega)
          have hb2 : (Y + t + 1) * wN = (Y + t) * wN + wN := by rw [Nat.add_mul, Nat.one_mul]
          have hb3 : hN * wN = wN * hN := Nat.mul_comm _ _
          have hb4 : wN * hN ≤ 16777216 := Nat.le_trans (Nat.mul_le_mul (show wN ≤ 4096 by omega) (show hN ≤ 4096 by omega)) (by decide)
          have hoz : o + bw ≤ pz W H p := by omega
          have hcast : ((Y : Int) + (t : Int)) * (wN : Int) = (((Y + t) * wN : Nat) : Int) := by simp
          have hbnd : 0 ≤ ((Y : Int) + (t : Int)) * (wN : Int) ∧ ((Y : Int) + (t : Int)) * (wN : Int) ≤ 16777216 := by rw [hcast]; omega
          have ET : Hid (((Y : Int) + (t : Int)) * (wN : Int) + (X : Int) = (o : Int)) := Hid.mk (by rw [hcast, eo]; omega)
          obtain ⟨q, eq⟩ : ∃ q : Nat, q = t * bw := ⟨_, rfl⟩
          have hq1 : (t + 1) * bw ≤ bh * bw := Nat.mul_le_mul_right _ (by omega)
          have hq2 : (t + 1) * bw = q + bw := by rw [Nat.add_mul, Nat.one_mul, eq]
          have hq3 : bh * bw = m := by rw [hmm, Nat.mul_comm]
          have hqm : q + bw ≤ m := by omega
          have hmb : m ≤ 16777216 := by rw [hmm]; exact Nat.le_trans (Nat.mul_le_mul (show bw ≤ 4096 by omega) (show bh ≤ 4096 by omega)) (by decide)
          obtain ⟨g2, o2, hso, hsr⟩ : ∃ g2 o2, so = some ⟨g2, o2, none⟩ ∧ ∀ i, i < m → wr.cell? ⟨g2, o2 + i, none⟩ = some (.int .u16 (bf i : Int)) := by
            rcases hsb.keep HM.out.kept with h | ⟨g2, o2, e, h⟩
            · omega
            · exact ⟨g2, o2, e, h⟩
          have hce := HM.out.cell hp (Nat.le_refl n)
          have hwq : IntKind.i64.wrap ((t : Int) * (bw : Int)) = (q : Int) := by
            rw [show (t : Int) * (bw : Int) = (q : Int) by rw [eq]; simp]
            exact wrap_i (by omega) (by omega)
          have hwo : IntKind.i64.wrap ((o : Int) + (bw : Int)) = ((o + bw : Nat) : Int) := by
            rw [show (o : Int) + (bw : Int) = ((o + bw : Nat) : Int) by simp]
            exact wrap_i (by omega) (by omega)
          obtain ⟨w9, hcp, hrow9, hk9⟩ := copy_mid wr.drew (bs p) (pz W H p) o bw (pz W H p - o) g2 (o2 + q) (m - q) (k - q) _ (fun i => bf (q + i)) ((HM.out.row p hp).keep ((Kept.refl [] wr).drew) (by simp)) (fun i hi => by have := hsr (q + i) (by omega); rw [← Nat.add_assoc] at this; exact this) (by omega) (by omega)
          have HM9 : Hid (Mk w w9 g n n bs (pz W H) (psF F p bf wN X Y bw (t + 1))) := Hid.mk ((HM.out.keep ((Kept.refl [] wr).drew)).upd hp hk9 (hrow9.congr (fun j _ => by
            unfold psF
            rw [if_pos rfl, if_pos rfl]
            exact psR_step (F p) bf wN X Y bw t o q j (by omega) h1 eo eq)) (fun i _ hne j _ => by unfold psF; rw [if_neg hne, if_neg hne]))
          have HK9 := Hid.mk (Hkr.out.step hk9.undrew (fun x hx => by simp at hx; subst hx; exact .inl (mem_rbs.2 ⟨p, hp, rfl⟩)))
          have p09 := cell_keep hk9.undrew p0 (by rw [List.mem_singleton]; intro e; exact HNE.out.2.1 (mem_rbs.2 ⟨p, hp, e.symm⟩))
          have p29 := cell_keep hk9.undrew p2 (by rw [List.mem_singleton]; intro e; exact HNE.out.2.1 (mem_rbs.2 ⟨p, hp, e.symm⟩))
          have v49 := cell_keep hk9.undrew v4 (by rw [List.mem_singleton]; intro e; exact HNE.out.2.2.2.1 (mem_rbs.2 ⟨p, hp, e.symm⟩))
          have hce9 := HM9.out.cell hp (Nat.le_refl n)
          obtain ⟨z, ez⟩ : ∃ z, z = pz W H p := ⟨_, rfl⟩
          rw [← ez] at hce hce9 hcp hoz
          subst hso
          have i1 : (o : Int) ≤ ((o + bw : Nat) : Int) := by omega
          have i2 : ((o + bw : Nat) : Int) ≤ (z : Int) := by omega
          have i3 : o < z := by omega
          have i4 : ¬ z ≤ o := by omega
          have i5 : q ≤ m := by omega
          have i6 : ¬ m < q := by omega
          have i7 : q < k := by omega
          have i8 : ¬ k ≤ q := by omega
          have i9 : ¬ k < m := by omega
          have j1 : o ≤ o + bw := by omega
          have j2 : o + bw ≤ z := by omega
          have j3 : m ≤ k := hmk
          have hY : (Y : Int) + (t : Int) ≤ 8192 := by omega
          have hXb : (X : Int) ≤ 4096 := by omega
          clear hvl hsb hmk hmm h1 h2 h3 h4 ewN hs1 hs2 wh ehN hz eo hb1 hb2 hb3 hb4 hcast eq hq1 hq2 hq3 hsr ez hrow9 hk9 v0 v1 v2 v3 p1
          go_upto_region 20 with (fail)
          go_cut [19] (fun s wc => s = .int .i64 (o : Int) ∧ wc = wr)
          case first =>
            go_wp2
            all_goals go_meet
            all_goals exact ⟨by rw [ET.out], rfl⟩
          case rest =>
            obtain ⟨rfl, hwc⟩ := hcut
            obtain rfl := hwc.symm
            clear hbnd
            go_wp2
            go_region_held_law (fun w' => w'.cell? ⟨B, 4, none⟩ = some (.slice (some ⟨g, 0, none⟩) n n) ∧ w'.cell? ⟨b + 1, 0, none⟩ = some (.int .i64 (bw : Int)) ∧ w'.cell? ⟨b + 1, 2, none⟩ = some (.slice (some ⟨g2, o2, none⟩) m k) ∧ w'.cell? ⟨g, p, none⟩ = some (.slice (some ⟨bs p, 0, none⟩) z z)) (first | exact ⟨v4, p0, p2, hce⟩ | exact ⟨v49, p09, p29, hce9⟩ | go_keep) (fail)
            all_goals go_wp2
            all_goals go_roundw
            all_goals first
              | exact ⟨t + 1, by omega, by go_num, HM9.out, HK9.out⟩
              | (simp [intOf]; omega)
        · obtain rfl : bh = t := by omega
          obtain ⟨⟨z0, z1, z2, z3, z4⟩, f0, f1, f2, f3, f4⟩ := five H9.out.2.1
          have hgg := Hgt.out
          have hl4 := hl3.out
          have Hb := Hid.mk HNE.out
          go_wp2
          have s5 := set5 (.int .i64 W) (.int .i64 H) (.int .i64 D) (.bool A) (.slice (some ⟨g, 0, none⟩) n n) H9.out.2.1
          refine bodyPost_ret (v := .tuple #[frv W H D A (some ⟨g, 0, none⟩) n n, .int .i64 0]) ?_ rfl ⟨g, bs, rfl, ?_⟩
          · exact results_two rfl _ _ (b + 1 + 1) 38 _ (0, 0) _ _ rfl s5.1 Try.underlying38 Try.info38 rfl
          · refine ⟨s5.2.heap HM.out.out ?_, fun i hi => (HM.out.row i hi).keep s5.2 ?_, HM.out.gt, HM.out.mon, HM.out.new, HM.out.kept.step s5.2 (fun x hx => by simp at hx; subst hx; exact .inr Hb.out.2.2.2.2)⟩
            · rw [List.mem_singleton]
              intro e
              have := HB3.out
              omega
            · rw [List.mem_singleton]
              intro e
              exact Hb.out.2.2.1 (mem_rbs.2 ⟨i, hi, e⟩)
end Go.Proofs.Ythihennifigchaa

namespace Go.Proofs.Ythihennifigchaa
open Go.RowKit

/-- Paste's error. -/
def psE (W H D p X Y bw bh : Int) (A : Bool) (n : Nat) (ln : Nat → Nat) (F : Nat → Nat → Nat) (m : Nat) (bf : Nat → Nat) : Int := if vE W H D A n ln F = 0 then (if inP W H A p X Y bw bh = true then (if (m : Int) = bw * bh then (if abv bf m (mx D) = true then 64 else 0) else 63) else 65) else vE W H D A n ln F

set_option maxHeartbeats 16000000 in
set_option maxRecDepth 1000000 in
theorem paste_no (W H D p X Y bw bh : Int) (A : Bool) (po : Option Addr) (n c : Nat) (ln : Nat → Nat) (F : Nat → Nat → Nat) (so : Option Addr) (m k : Nat) (bf : Nat → Nat) (w : World) (hr : Pc w po n ln F) (hs : Rd w so m bf) (hmx : m ≤ 9223372036854775807) (hn : n ≤ 9223372036854775807) (hln : ∀ i, i < n → ln i ≤ 9223372036854775807) (hX : -9223372036854775808 ≤ X ∧ X ≤ 9223372036854775807) (hY : -9223372036854775808 ≤ Y ∧ Y ≤ 9223372036854775807) (hE : psE W H D p X Y bw bh A n ln F m bf ≠ 0) :
    Calls Try.prog 31 #[frv W H D A po n c, .int .i64 p, .int .i64 X, .int .i64 Y, blv bw bh so m k] w fun e w' => e = .returned (.tuple #[frv 0 0 0 false none 0 0, .int .i64 (psE W H D p X Y bw bh A n ln F m bf)]) ∧ Kept [] w w' := by
  have CV := Hid.mk (fun u (hk : Kept [] w u) => valid_any W H D A po n c ln F u (hr.keep hk).pl hn hln)
  have N := ent535 w (.int .i64 W) (.int .i64 H) (.int .i64 D) (.bool A) (.slice po n c) (.int .i64 bw) (.int .i64 bh) (.slice so m k) (.int .i64 0) (.int .i64 0) (.int .i64 0) (.bool false) (.slice none 0 0) 38 54 38
  obtain ⟨w1, ew1⟩ : ∃ w1, w1 = ((w.alloc (.cells #[.int .i64 W, .int .i64 H, .int .i64 D, .bool A, .slice po n c] 38 (0, 0))).alloc (.cells #[.int .i64 bw, .int .i64 bh, .slice so m k] 54 (0, 0))).alloc (.cells #[.int .i64 0, .int .i64 0, .int .i64 0, .bool false, .slice none 0 0] 38 (0, 0)) := ⟨_, rfl⟩
  rw [← ew1] at N
  have HN := Hid.mk N
  have EW := Hid.mk ew1
  obtain ⟨E, eE⟩ : ∃ E, vE W H D A n ln F = E := ⟨_, rfl⟩
  by_cases h0 : E = 0
  · have hv : Vld W H D A n ln F := vE_zero.1 (eE.trans h0)
    have hs1 := hv.shp.1
    have hs2 := hv.shp.2.1
    have hs3 := hv.shp.2.2.1
    have hwl := wp_lo p hs1.1
    have hwh := wp_hi p hs1.1
    subst h0
    rw [eE] at CV
    have CI := Hid.mk (fun u => inPlane_any W H D p X Y bw bh A u hX hY hs1 hs2)
    have CA := Hid.mk (fun u (hk : Kept [] w u) => above_any so m k bf D u (hs.keep hk) hs3 hmx)
    by_cases hi : inP W H A p X Y bw bh = true
    · have hi2 := hi
      unfold inP at hi2
      rw [Bool.and_eq_true] at hi2
      have hp := of_decide_eq_true hi2.1
      have hl := hi2.2
      have hd : 1 ≤ bw ∧ 1 ≤ bh ∧ 0 ≤ X ∧ 0 ≤ Y ∧ X + bw ≤ wp W p ∧ Y + bh ≤ H := of_decide_eq_true hl
      have hb1 : 1 ≤ bw * bh := by have := Int.mul_le_mul hd.1 hd.2.1 (by omega) (by omega); omega
      have hb2 : bw * bh ≤ 16777216 := by have := Int.mul_le_mul (show bw ≤ 4096 by omega) (show bh ≤ 4096 by omega) (by omega) (by omega); omega
      have hwm : IntKind.i64.wrap (bw * bh) = bw * bh := wrap_i (by omega) (by omega)
      rw [hi] at CI
      by_cases hm : (m : Int) = bw * bh
      · have ha : abv bf m (mx D) = true := by
          cases e : abv bf m (mx D) with
          | true => rfl
          | false => exact absurd (by unfold psE; rw [eE, if_pos rfl, if_pos hi, if_pos hm, e]; rfl) hE
        have eC : psE W H D p X Y bw bh A n ln F m bf = 64 := by unfold psE; rw [eE, if_pos rfl, if_pos hi, if_pos hm, if_pos ha]
        rw [eC]
        rw [ha] at CA
        have hne : ((m : Int) != bw * bh) = false := by simpa using hm
        clear N ew1 hr hs hv hs1 hs2 hs3 hwl hwh hE eC hX hY hn hln hmx eE hi hi2 hp hl hd hb1 hb2 ha hm
        go_enter Try.func31, Try.ntmps31
        go_wp2_with (first | (go_at_call 22; rw [← EW.out]; refine (CV.out _ HN.out.2.2.2).mono ?_; rintro e w2 ⟨rfl, hk2⟩; obtain ⟨⟨c0, c1, c2, c3, c4⟩, _⟩ := five ((hk2).heap HN.out.1 (by simp)); obtain ⟨⟨r0, r1, r2⟩, _⟩ := tri' ((hk2).heap HN.out.2.1 (by simp))) | (go_at_call 51; refine (CI.out _).mono ?_; rintro e w3 ⟨rfl, hk3⟩; obtain ⟨⟨d0, d1, d2, d3, d4⟩, _⟩ := five ((hk2.trans hk3).heap HN.out.1 (by simp)); obtain ⟨⟨s0, s1, s2⟩, _⟩ := tri' ((hk2.trans hk3).heap HN.out.2.1 (by simp)); have HR := Hid.mk ((hk2.trans hk3).heap HN.out.2.2.1 (by simp)); obtain ⟨⟨z0, z1, z2, z3, z4⟩, f0, f1, f2, f3, f4⟩ := five HR.out; have K3 := Hid.mk (HN.out.2.2.2.trans (hk2.trans hk3))) | (go_at_call 49; refine (CA.out _ K3.out).mono ?_; rintro e w4 ⟨rfl, hw⟩; obtain rfl := hw.symm))
        have s5 := set5 (.int .i64 0) (.int .i64 0) (.int .i64 0) (.bool false) (.slice none 0 0) HR.out
        refine bodyPost_ret (v := .tuple #[frv 0 0 0 false none 0 0, .int .i64 64]) ?_ rfl ⟨rfl, K3.out.step s5.2 (fun x hx => by simp at hx; subst hx; exact .inr (by omega))⟩
        exact results_two rfl _ _ (w.heap.size + 1 + 1) 38 _ (0, 0) _ _ rfl s5.1 Try.underlying38 Try.info38 rfl
      · have hne : ((m : Int) != bw * bh) = true := by simpa using hm
        have eC : psE W H D p X Y bw bh A n ln F m bf = 63 := by unfold psE; rw [eE, if_pos rfl, if_pos hi, if_neg hm]
        rw [eC]
        clear N ew1 hr hs hv hs1 hs2 hs3 hwl hwh hE eC hX hY hn hln hmx eE hi hi2 hp hl hd hb1 hb2 hm
        go_enter Try.func31, Try.ntmps31
        go_wp2_with (first | (go_at_call 22; rw [← EW.out]; refine (CV.out _ HN.out.2.2.2).mono ?_; rintro e w2 ⟨rfl, hk2⟩; obtain ⟨⟨c0, c1, c2, c3, c4⟩, _⟩ := five ((hk2).heap HN.out.1 (by simp)); obtain ⟨⟨r0, r1, r2⟩, _⟩ := tri' ((hk2).heap HN.out.2.1 (by simp))) | (go_at_call 51; refine (CI.out _).mono ?_; rintro e w3 ⟨rfl, hk3⟩; obtain ⟨⟨d0, d1, d2, d3, d4⟩, _⟩ := five ((hk2.trans hk3).heap HN.out.1 (by simp)); obtain ⟨⟨s0, s1, s2⟩, _⟩ := tri' ((hk2.trans hk3).heap HN.out.2.1 (by simp)); have HR := Hid.mk ((hk2.trans hk3).heap HN.out.2.2.1 (by simp)); obtain ⟨⟨z0, z1, z2, z3, z4⟩, f0, f1, f2, f3, f4⟩ := five HR.out; have K3 := Hid.mk (HN.out.2.2.2.trans (hk2.trans hk3))))
        have s5 := set5 (.int .i64 0) (.int .i64 0) (.int .i64 0) (.bool false) (.slice none 0 0) HR.out
        refine bodyPost_ret (v := .tuple #[frv 0 0 0 false none 0 0, .int .i64 63]) ?_ rfl ⟨rfl, K3.out.step s5.2 (fun x hx => by simp at hx; subst hx; exact .inr (by omega))⟩
        exact results_two rfl _ _ (w.heap.size + 1 + 1) 38 _ (0, 0) _ _ rfl s5.1 Try.underlying38 Try.info38 rfl
    · have eC : psE W H D p X Y bw bh A n ln F m bf = 65 := by unfold psE; rw [eE, if_pos rfl, if_neg hi]
      rw [eC]
      have hi2 : inP W H A p X Y bw bh = false := by simpa using hi
      rw [hi2] at CI
      clear N ew1 hr hs hv hs1 hs2 hs3 hwl hwh hE eC hX hY hn hln hmx eE hi hi2 CA
      go_enter Try.func31, Try.ntmps31
      go_wp2_with (first | (go_at_call 22; rw [← EW.out]; refine (CV.out _ HN.out.2.2.2).mono ?_; rintro e w2 ⟨rfl, hk2⟩; obtain ⟨⟨c0, c1, c2, c3, c4⟩, _⟩ := five ((hk2).heap HN.out.1 (by simp)); obtain ⟨⟨r0, r1, r2⟩, _⟩ := tri' ((hk2).heap HN.out.2.1 (by simp))) | (go_at_call 51; refine (CI.out _).mono ?_; rintro e w3 ⟨rfl, hk3⟩; have HR := Hid.mk ((hk2.trans hk3).heap HN.out.2.2.1 (by simp)); obtain ⟨⟨z0, z1, z2, z3, z4⟩, f0, f1, f2, f3, f4⟩ := five HR.out; have K3 := Hid.mk (HN.out.2.2.2.trans (hk2.trans hk3))))
      have s5 := set5 (.int .i64 0) (.int .i64 0) (.int .i64 0) (.bool false) (.slice none 0 0) HR.out
      refine bodyPost_ret (v := .tuple #[frv 0 0 0 false none 0 0, .int .i64 65]) ?_ rfl ⟨rfl, K3.out.step s5.2 (fun x hx => by simp at hx; subst hx; exact .inr (by omega))⟩
      exact results_two rfl _ _ (w.heap.size + 1 + 1) 38 _ (0, 0) _ _ rfl s5.1 Try.underlying38 Try.info38 rfl
  · have eC : psE W H D p X Y bw bh A n ln F m bf = E := by unfold psE; rw [eE, if_neg h0]
    rw [eC]
    rw [eE] at CV
    have hne : (E != 0) = true := by simpa using h0
    clear N ew1 hr hs hE eC hX hY hn hln hmx eE
    go_enter Try.func31, Try.ntmps31
    go_wp2_with (first | (go_at_call 22; rw [← EW.out]; refine (CV.out _ HN.out.2.2.2).mono ?_; rintro e w2 ⟨rfl, hk2⟩; have HR := Hid.mk ((hk2).heap HN.out.2.2.1 (by simp)); obtain ⟨⟨z0, z1, z2, z3, z4⟩, f0, f1, f2, f3, f4⟩ := five HR.out; have K3 := Hid.mk (HN.out.2.2.2.trans (hk2))))
    have s5 := set5 (.int .i64 0) (.int .i64 0) (.int .i64 0) (.bool false) (.slice none 0 0) HR.out
    refine bodyPost_ret (v := .tuple #[frv 0 0 0 false none 0 0, .int .i64 E]) ?_ rfl ⟨rfl, K3.out.step s5.2 (fun x hx => by simp at hx; subst hx; exact .inr (by omega))⟩
    exact results_two rfl _ _ (w.heap.size + 1 + 1) 38 _ (0, 0) _ _ rfl s5.1 Try.underlying38 Try.info38 rfl

set_option maxHeartbeats 16000000 in
set_option maxRecDepth 1000000 in
theorem rpaste_no (W H D p X Y bw bh : Int) (A : Bool) (po : Option Addr) (n c : Nat) (ln : Nat → Nat) (F : Nat → Nat → Nat) (so : Option Addr) (m k : Nat) (bf : Nat → Nat) (w : World) (hr : Pc w po n ln F) (hs : Rd w so m bf) (hmx : m ≤ 9223372036854775807) (hn : n ≤ 9223372036854775807) (hln : ∀ i, i < n → ln i ≤ 9223372036854775807) (hF : ∀ i, i < n → ∀ j, j < ln i → F i j < 65536) (hbf : ∀ i, i < m → bf i < 65536) (hX : -9223372036854775808 ≤ X ∧ X ≤ 9223372036854775807) (hY : -9223372036854775808 ≤ Y ∧ Y ≤ 9223372036854775807) (hE : psE W H D p X Y bw bh A n ln F m bf ≠ 0) :
    Calls Try.prog 32 #[frv W H D A po n c, .int .i64 p, .int .i64 X, .int .i64 Y, blv bw bh so m k] w fun e w' => e = .returned (.tuple #[frv 0 0 0 false none 0 0, .int .i64 (psE W H D p X Y bw bh A n ln F m bf)]) ∧ Kept [] w w' := by
  have CV := Hid.mk (fun u (hk : Kept [] w u) => rvalid_any W H D A po n c ln F u (hr.keep hk).pl hn hln hF)
  have N := ent535 w (.int .i64 W) (.int .i64 H) (.int .i64 D) (.bool A) (.slice po n c) (.int .i64 bw) (.int .i64 bh) (.slice so m k) (.int .i64 0) (.int .i64 0) (.int .i64 0) (.bool false) (.slice none 0 0) 38 54 38
  obtain ⟨w1, ew1⟩ : ∃ w1, w1 = ((w.alloc (.cells #[.int .i64 W, .int .i64 H, .int .i64 D, .bool A, .slice po n c] 38 (0, 0))).alloc (.cells #[.int .i64 bw, .int .i64 bh, .slice so m k] 54 (0, 0))).alloc (.cells #[.int .i64 0, .int .i64 0, .int .i64 0, .bool false, .slice none 0 0] 38 (0, 0)) := ⟨_, rfl⟩
  rw [← ew1] at N
  have HN := Hid.mk N
  have EW := Hid.mk ew1
  obtain ⟨E, eE⟩ : ∃ E, vE W H D A n ln F = E := ⟨_, rfl⟩
  by_cases h0 : E = 0
  · have hv : Vld W H D A n ln F := vE_zero.1 (eE.trans h0)
    have hs1 := hv.shp.1
    have hs2 := hv.shp.2.1
    have hs3 := hv.shp.2.2.1
    have hwl := wp_lo p hs1.1
    have hwh := wp_hi p hs1.1
    subst h0
    rw [eE] at CV
    have CI := Hid.mk (fun u => rthere_any W H D p A u)
    have CW := Hid.mk (fun u => wide_any W H D p A u (by omega) hs1.2)
    have CL := Hid.mk (fun u => rlies_any X Y bw bh (wp W p) H u hX hY (by omega) hs2)
    have CA := Hid.mk (fun u (hk : Kept [] w u) => beyond_any so m k bf D u (hs.keep hk) hs3 hmx hbf)
    by_cases hi : inP W H A p X Y bw bh = true
    · have hi2 := hi
      unfold inP at hi2
      rw [Bool.and_eq_true] at hi2
      have hp := of_decide_eq_true hi2.1
      have hl := hi2.2
      have hd : 1 ≤ bw ∧ 1 ≤ bh ∧ 0 ≤ X ∧ 0 ≤ Y ∧ X + bw ≤ wp W p ∧ Y + bh ≤ H := of_decide_eq_true hl
      have hb1 : 1 ≤ bw * bh := by have := Int.mul_le_mul hd.1 hd.2.1 (by omega) (by omega); omega
      have hb2 : bw * bh ≤ 16777216 := by have := Int.mul_le_mul (show bw ≤ 4096 by omega) (show bh ≤ 4096 by omega) (by omega) (by omega); omega
      have hwm : IntKind.i64.wrap (bw * bh) = bw * bh := wrap_i (by omega) (by omega)
      rw [decide_eq_true hp] at CI
      rw [hl] at CL
      by_cases hm : (m : Int) = bw * bh
      · have ha : abv bf m (mx D) = true := by
          cases e : abv bf m (mx D) with
          | true => rfl
          | false => exact absurd (by unfold psE; rw [eE, if_pos rfl, if_pos hi, if_pos hm, e]; rfl) hE
        have eC : psE W H D p X Y bw bh A n ln F m bf = 64 := by unfold psE; rw [eE, if_pos rfl, if_pos hi, if_pos hm, if_pos ha]
        rw [eC]
        rw [ha] at CA
        have hne : ((m : Int) != bw * bh) = false := by simpa using hm
        clear N ew1 hr hs hv hs1 hs2 hs3 hwl hwh hE eC hX hY hn hln hmx eE hF hbf hi hi2 hp hl hd hb1 hb2 ha hm
        go_enter Try.func32, Try.ntmps32
        go_wp2_with (first | (go_at_call 24; rw [← EW.out]; refine (CV.out _ HN.out.2.2.2).mono ?_; rintro e w2 ⟨rfl, hk2⟩; obtain ⟨⟨c0, c1, c2, c3, c4⟩, _⟩ := five ((hk2).heap HN.out.1 (by simp)); obtain ⟨⟨r0, r1, r2⟩, _⟩ := tri' ((hk2).heap HN.out.2.1 (by simp))) | (go_at_call 42; refine (CI.out _).mono ?_; rintro e w3 ⟨rfl, hk3⟩; obtain ⟨⟨d0, d1, d2, d3, d4⟩, _⟩ := five ((hk2.trans hk3).heap HN.out.1 (by simp))) | (go_at_call 43; refine (CW.out _).mono ?_; rintro e w4 ⟨rfl, hk4⟩; obtain ⟨⟨e0, e1, e2, e3, e4⟩, _⟩ := five (((hk2.trans hk3).trans hk4).heap HN.out.1 (by simp)); obtain ⟨⟨s0, s1, s2⟩, _⟩ := tri' (((hk2.trans hk3).trans hk4).heap HN.out.2.1 (by simp))) | (go_at_call 53; refine (CL.out _).mono ?_; rintro e w5 ⟨rfl, hk5⟩; obtain ⟨⟨g0, g1, g2, g3, g4⟩, _⟩ := five ((((hk2.trans hk3).trans hk4).trans hk5).heap HN.out.1 (by simp)); obtain ⟨⟨t0, t1, t2⟩, _⟩ := tri' ((((hk2.trans hk3).trans hk4).trans hk5).heap HN.out.2.1 (by simp)); have HR := Hid.mk ((((hk2.trans hk3).trans hk4).trans hk5).heap HN.out.2.2.1 (by simp)); obtain ⟨⟨z0, z1, z2, z3, z4⟩, f0, f1, f2, f3, f4⟩ := five HR.out; have K3 := Hid.mk (HN.out.2.2.2.trans (((hk2.trans hk3).trans hk4).trans hk5))) | (go_at_call 50; refine (CA.out _ K3.out).mono ?_; rintro e w6 ⟨rfl, hk6⟩; have HR6 := Hid.mk (hk6.heap HR.out (by simp)); clear z0 z1 z2 z3 z4 f0 f1 f2 f3 f4; obtain ⟨⟨z0, z1, z2, z3, z4⟩, f0, f1, f2, f3, f4⟩ := five HR6.out; have K6 := Hid.mk (K3.out.trans hk6)))
        have s5 := set5 (.int .i64 0) (.int .i64 0) (.int .i64 0) (.bool false) (.slice none 0 0) HR6.out
        refine bodyPost_ret (v := .tuple #[frv 0 0 0 false none 0 0, .int .i64 64]) ?_ rfl ⟨rfl, K6.out.step s5.2 (fun x hx => by simp at hx; subst hx; exact .inr (by omega))⟩
        exact results_two rfl _ _ (w.heap.size + 1 + 1) 38 _ (0, 0) _ _ rfl s5.1 Try.underlying38 Try.info38 rfl
      · have hne : ((m : Int) != bw * bh) = true := by simpa using hm
        have eC : psE W H D p X Y bw bh A n ln F m bf = 63 := by unfold psE; rw [eE, if_pos rfl, if_pos hi, if_neg hm]
        rw [eC]
        clear N ew1 hr hs hv hs1 hs2 hs3 hwl hwh hE eC hX hY hn hln hmx eE hF hbf hi hi2 hp hl hd hb1 hb2 hm
        go_enter Try.func32, Try.ntmps32
        go_wp2_with (first | (go_at_call 24; rw [← EW.out]; refine (CV.out _ HN.out.2.2.2).mono ?_; rintro e w2 ⟨rfl, hk2⟩; obtain ⟨⟨c0, c1, c2, c3, c4⟩, _⟩ := five ((hk2).heap HN.out.1 (by simp)); obtain ⟨⟨r0, r1, r2⟩, _⟩ := tri' ((hk2).heap HN.out.2.1 (by simp))) | (go_at_call 42; refine (CI.out _).mono ?_; rintro e w3 ⟨rfl, hk3⟩; obtain ⟨⟨d0, d1, d2, d3, d4⟩, _⟩ := five ((hk2.trans hk3).heap HN.out.1 (by simp))) | (go_at_call 43; refine (CW.out _).mono ?_; rintro e w4 ⟨rfl, hk4⟩; obtain ⟨⟨e0, e1, e2, e3, e4⟩, _⟩ := five (((hk2.trans hk3).trans hk4).heap HN.out.1 (by simp)); obtain ⟨⟨s0, s1, s2⟩, _⟩ := tri' (((hk2.trans hk3).trans hk4).heap HN.out.2.1 (by simp))) | (go_at_call 53; refine (CL.out _).mono ?_; rintro e w5 ⟨rfl, hk5⟩; obtain ⟨⟨g0, g1, g2, g3, g4⟩, _⟩ := five ((((hk2.trans hk3).trans hk4).trans hk5).heap HN.out.1 (by simp)); obtain ⟨⟨t0, t1, t2⟩, _⟩ := tri' ((((hk2.trans hk3).trans hk4).trans hk5).heap HN.out.2.1 (by simp)); have HR := Hid.mk ((((hk2.trans hk3).trans hk4).trans hk5).heap HN.out.2.2.1 (by simp)); obtain ⟨⟨z0, z1, z2, z3, z4⟩, f0, f1, f2, f3, f4⟩ := five HR.out; have K3 := Hid.mk (HN.out.2.2.2.trans (((hk2.trans hk3).trans hk4).trans hk5))))
        have s5 := set5 (.int .i64 0) (.int .i64 0) (.int .i64 0) (.bool false) (.slice none 0 0) HR.out
        refine bodyPost_ret (v := .tuple #[frv 0 0 0 false none 0 0, .int .i64 63]) ?_ rfl ⟨rfl, K3.out.step s5.2 (fun x hx => by simp at hx; subst hx; exact .inr (by omega))⟩
        exact results_two rfl _ _ (w.heap.size + 1 + 1) 38 _ (0, 0) _ _ rfl s5.1 Try.underlying38 Try.info38 rfl
    · have eC : psE W H D p X Y bw bh A n ln F m bf = 65 := by unfold psE; rw [eE, if_pos rfl, if_neg hi]
      rw [eC]
      have hi2 : inP W H A p X Y bw bh = false := by simpa using hi
      by_cases hp : 0 ≤ p ∧ p < (np A : Int)
      · have hl : lie X Y bw bh (wp W p) H = false := by
          unfold inP at hi2
          rw [decide_eq_true hp, Bool.true_and] at hi2
          exact hi2
        rw [decide_eq_true hp] at CI
        rw [hl] at CL
        clear N ew1 hr hs hv hs1 hs2 hs3 hwl hwh hE eC hX hY hn hln hmx eE hF hbf hi hi2 hp hl CA
        go_enter Try.func32, Try.ntmps32
        go_wp2_with (first | (go_at_call 24; rw [← EW.out]; refine (CV.out _ HN.out.2.2.2).mono ?_; rintro e w2 ⟨rfl, hk2⟩; obtain ⟨⟨c0, c1, c2, c3, c4⟩, _⟩ := five ((hk2).heap HN.out.1 (by simp)); obtain ⟨⟨r0, r1, r2⟩, _⟩ := tri' ((hk2).heap HN.out.2.1 (by simp))) | (go_at_call 42; refine (CI.out _).mono ?_; rintro e w3 ⟨rfl, hk3⟩; obtain ⟨⟨d0, d1, d2, d3, d4⟩, _⟩ := five ((hk2.trans hk3).heap HN.out.1 (by simp))) | (go_at_call 43; refine (CW.out _).mono ?_; rintro e w4 ⟨rfl, hk4⟩; obtain ⟨⟨e0, e1, e2, e3, e4⟩, _⟩ := five (((hk2.trans hk3).trans hk4).heap HN.out.1 (by simp)); obtain ⟨⟨s0, s1, s2⟩, _⟩ := tri' (((hk2.trans hk3).trans hk4).heap HN.out.2.1 (by simp))) | (go_at_call 53; refine (CL.out _).mono ?_; rintro e w5 ⟨rfl, hk5⟩; have HR := Hid.mk ((((hk2.trans hk3).trans hk4).trans hk5).heap HN.out.2.2.1 (by simp)); obtain ⟨⟨z0, z1, z2, z3, z4⟩, f0, f1, f2, f3, f4⟩ := five HR.out; have K3 := Hid.mk (HN.out.2.2.2.trans (((hk2.trans hk3).trans hk4).trans hk5))))
        have s5 := set5 (.int .i64 0) (.int .i64 0) (.int .i64 0) (.bool false) (.slice none 0 0) HR.out
        refine bodyPost_ret (v := .tuple #[frv 0 0 0 false none 0 0, .int .i64 65]) ?_ rfl ⟨rfl, K3.out.step s5.2 (fun x hx => by simp at hx; subst hx; exact .inr (by omega))⟩
        exact results_two rfl _ _ (w.heap.size + 1 + 1) 38 _ (0, 0) _ _ rfl s5.1 Try.underlying38 Try.info38 rfl
      · rw [decide_eq_false hp] at CI
        clear N ew1 hr hs hv hs1 hs2 hs3 hwl hwh hE eC hX hY hn hln hmx eE hF hbf hi hi2 hp CA CL CW
        go_enter Try.func32, Try.ntmps32
        go_wp2_with (first | (go_at_call 24; rw [← EW.out]; refine (CV.out _ HN.out.2.2.2).mono ?_; rintro e w2 ⟨rfl, hk2⟩; obtain ⟨⟨c0, c1, c2, c3, c4⟩, _⟩ := five ((hk2).heap HN.out.1 (by simp)); obtain ⟨⟨r0, r1, r2⟩, _⟩ := tri' ((hk2).heap HN.out.2.1 (by simp))) | (go_at_call 42; refine (CI.out _).mono ?_; rintro e w3 ⟨rfl, hk3⟩; have HR := Hid.mk ((hk2.trans hk3).heap HN.out.2.2.1 (by simp)); obtain ⟨⟨z0, z1, z2, z3, z4⟩, f0, f1, f2, f3, f4⟩ := five HR.out; have K3 := Hid.mk (HN.out.2.2.2.trans (hk2.trans hk3))))
        have s5 := set5 (.int .i64 0) (.int .i64 0) (.int .i64 0) (.bool false) (.slice none 0 0) HR.out
        refine bodyPost_ret (v := .tuple #[frv 0 0 0 false none 0 0, .int .i64 65]) ?_ rfl ⟨rfl, K3.out.step s5.2 (fun x hx => by simp at hx; subst hx; exact .inr (by omega))⟩
        exact results_two rfl _ _ (w.heap.size + 1 + 1) 38 _ (0, 0) _ _ rfl s5.1 Try.underlying38 Try.info38 rfl
  · have eC : psE W H D p X Y bw bh A n ln F m bf = E := by unfold psE; rw [eE, if_neg h0]
    rw [eC]
    rw [eE] at CV
    have hne : (E != 0) = true := by simpa using h0
    clear N ew1 hr hs hE eC hX hY hn hln hmx eE hF hbf
    go_enter Try.func32, Try.ntmps32
    go_wp2_with (first | (go_at_call 24; rw [← EW.out]; refine (CV.out _ HN.out.2.2.2).mono ?_; rintro e w2 ⟨rfl, hk2⟩; have HR := Hid.mk ((hk2).heap HN.out.2.2.1 (by simp)); obtain ⟨⟨z0, z1, z2, z3, z4⟩, f0, f1, f2, f3, f4⟩ := five HR.out; have K3 := Hid.mk (HN.out.2.2.2.trans (hk2))))
    have s5 := set5 (.int .i64 0) (.int .i64 0) (.int .i64 0) (.bool false) (.slice none 0 0) HR.out
    refine bodyPost_ret (v := .tuple #[frv 0 0 0 false none 0 0, .int .i64 E]) ?_ rfl ⟨rfl, K3.out.step s5.2 (fun x hx => by simp at hx; subst hx; exact .inr (by omega))⟩
    exact results_two rfl _ _ (w.heap.size + 1 + 1) 38 _ (0, 0) _ _ rfl s5.1 Try.underlying38 Try.info38 rfl

end Go.Proofs.Ythihennifigchaa
