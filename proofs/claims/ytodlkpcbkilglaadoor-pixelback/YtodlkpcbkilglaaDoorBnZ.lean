import Derived.Test.YtodlkpcbkilglaaDoorBcZ
import Derived.Test.YtodlkpcbkilglaaDoorSf
import Derived.Test.YtodlkpcbkilglaaDoorOq
import Derived.Test.YtodlkpcbkilglaaDoorPr
namespace Go.Proofs.YtodlkpcbkilglaaDoor
open Go.RowKit Go.Shelf

set_option maxHeartbeats 8000000 in
set_option maxRecDepth 1000000 in
/-- PixelBack of a frame that may not be. -/
theorem back_no (W H D : Int) (A : Bool) (po : Option Addr) (n c : Nat) (ln : Nat → Nat) (F : Nat → Nat → Nat) (w : World) (hT : Tab w) (hr : Pl w po n ln F) (hF : ∀ i, i < n → ∀ j, j < ln i → F i j < 65536) (hn : n ≤ 9223372036854775807) (hln : ∀ i, i < n → ln i ≤ 9223372036854775807) (hE : vE W H D A n ln F ≠ 0) :
    Calls Tryd.prog 7 #[frv W H D A po n c] w fun e w' => e = .returned (.bool true) ∧ Kept [] w w' := by
  have CA := Hid.mk (fun (u : World) (hk : Kept [] w u) => alive_any u (hT.keep hk (by simp)))
  have CV := Hid.mk (fun (u : World) (hk : Kept [] w u) => rvalid_any W H D A po n c ln F u (hr.keep hk) hn hln hF)
  have CP := Hid.mk (fun (u : World) (hk : Kept [] w u) => Pack_of_planar W H D A po n c u (fun _ a m k z _ => a = none ∧ m = 0 ∧ k = 0 ∧ z = vE W H D A n ln F) (fun u2 hk2 => (pack_no_planar W H D A po n c ln F u2 (hr.keep (hk.trans hk2)) hn hln hE).mono (by rintro e w' ⟨rfl, hk⟩; exact ⟨_, _, _, _, rfl, hk, rfl, rfl, rfl, rfl⟩)))
  have CQ := Hid.mk (fun (u : World) (hk : Kept [] w u) => Pack_of_v210 W H D A po n c u (fun _ a m k z _ => a = none ∧ m = 0 ∧ k = 0 ∧ z = vE W H D A n ln F) (fun u2 hk2 => (pack_no_v210 W H D A po n c ln F u2 (hr.keep (hk.trans hk2)) hn hln hE).mono (by rintro e w' ⟨rfl, hk⟩; exact ⟨_, _, _, _, rfl, hk, rfl, rfl, rfl, rfl⟩)))
  obtain ⟨E, eE⟩ : ∃ E, E = vE W H D A n ln F := ⟨_, rfl⟩
  rw [← eE] at CV CP CQ hE
  clear hT hr hF hn hln eE
  have hB := heap_alloc_new w (.cells #[.int .i64 W, .int .i64 H, .int .i64 D, .bool A, .slice po n c] 31)
  have hk0 := alloc_kept w (.cells #[.int .i64 W, .int .i64 H, .int .i64 D, .bool A, .slice po n c] 31)
  obtain ⟨wa, ewa⟩ : ∃ wa, wa = w.alloc (.cells #[.int .i64 W, .int .i64 H, .int .i64 D, .bool A, .slice po n c] 31) := ⟨_, rfl⟩
  rw [← ewa] at hB hk0
  have HB := Hid.mk hB
  have HK0 := Hid.mk hk0
  clear hB hk0
  go_enter Tryd.func7, Tryd.ntmps7
  go_wp2_with (fail)
  rw [← ewa]
  refine (CA.out _ HK0.out).mono ?_
  rintro e w1 ⟨rfl, hk1⟩
  obtain ⟨b, eb⟩ : ∃ b, b = w.heap.size := ⟨_, rfl⟩
  rw [← eb] at HB ⊢
  have HB1 := Hid.mk (hk1.heap HB.out (by simp))
  have HK1 := Hid.mk (HK0.out.trans hk1)
  obtain ⟨⟨p0, p1, p2, p3, p4⟩, _⟩ := five HB1.out
  clear hk1 HB HK0 ewa eb CA
  go_wp2_with (fail)
  refine (CV.out _ HK1.out).mono ?_
  rintro e w2 ⟨rfl, hk2⟩
  have HB2 := Hid.mk (hk2.heap HB1.out (by simp))
  have HK2 := Hid.mk (HK1.out.trans hk2)
  clear p0 p1 p2 p3 p4 hk2 HB1 HK1 CV
  obtain ⟨⟨p0, p1, p2, p3, p4⟩, _⟩ := five HB2.out
  go_wp2_with (fail)
  refine (CP.out _ HK2.out).mono ?_
  rintro e w3 ⟨u, a, m, k, z, hku, rfl, hk3, rfl, rfl, rfl, rfl⟩
  have HB3 := Hid.mk ((hku.trans hk3).heap HB2.out (by simp))
  have HK3 := Hid.mk (HK2.out.trans (hku.trans hk3))
  clear p0 p1 p2 p3 p4 hku hk3 HB2 HK2 CP
  obtain ⟨⟨p0, p1, p2, p3, p4⟩, _⟩ := five HB3.out
  go_wp2_with (fail)
  refine (CQ.out _ HK3.out).mono ?_
  rintro e w4 ⟨u2, a, m, k, z, hku, rfl, hk4, rfl, rfl, rfl, rfl⟩
  have HK4 := Hid.mk (HK3.out.trans (hku.trans hk4))
  clear p0 p1 p2 p3 p4 hku hk4 HB3 HK3 CQ
  go_wp2
  go_ret
  first | exact ⟨rfl, HK4.out⟩ | exact ⟨by simp, HK4.out⟩ | (simp; exact HK4.out)
end Go.Proofs.YtodlkpcbkilglaaDoor

namespace Go.Proofs.YtodlkpcbkilglaaDoor
open Go.RowKit Go.Shelf

theorem pq_of {w : World} {po : Option Addr} {n : Nat} {ln : Nat → Nat} {F : Nat → Nat → Nat} (h : Pc w po n ln F) (hn : 1 ≤ n) (hl : ∀ i, i < n → 1 ≤ ln i) :
    ∃ pb pf pc, Pq w po n ln pb pf pc ∧ (∀ i, i < n → Rd w (some ⟨pb i, pf i, none⟩) (ln i) (F i)) ∧ ∀ i, i < n → ln i ≤ pc i := by
  rcases h with h | ⟨g, off, e, hc⟩
  · omega
  · have h2 : ∀ i, ∃ x : Nat × Nat × Nat, i < n → w.cell? ⟨g, off + i, none⟩ = some (.slice (some ⟨x.1, x.2.1, none⟩) (ln i) x.2.2) ∧ ln i ≤ x.2.2 ∧ Rd w (some ⟨x.1, x.2.1, none⟩) (ln i) (F i) := fun i => by
      by_cases hi : i < n
      · obtain ⟨bo, c, h1, h3, h4⟩ := hc i hi
        have h5 := h4
        rcases h4 with h4 | ⟨g2, o2, rfl, _⟩
        · have := hl i hi; omega
        · exact ⟨(g2, o2, c), fun _ => ⟨h1, h3, h5⟩⟩
      · exact ⟨(0, 0, 0), fun hj => absurd hj hi⟩
    obtain ⟨x, hx⟩ := Classical.axiomOfChoice h2
    exact ⟨fun i => (x i).1, fun i => (x i).2.1, fun i => (x i).2.2, ⟨g, off, e, fun i hi => (hx i hi).1⟩, fun i hi => (hx i hi).2.2, fun i hi => (hx i hi).2.1⟩
theorem ctL_const (m q : Nat) : ctL (fun _ => m) q = m * q := by
  induction q with
  | zero => rfl
  | succ q ih => rw [ctL, ih, Nat.mul_succ]
theorem ctL_v2 (W : Int) (q : Nat) : ctL (v2L W) q = 128 * ((wdN W 0 + 47) / 48 * q) := by
  have h2 : 4 * ((wdN W 0 + 47) / 48 * 32) = 128 * ((wdN W 0 + 47) / 48) := by omega
  have h3 : v2L W = fun _ => 128 * ((wdN W 0 + 47) / 48) := by funext k; exact h2
  rw [h3, ctL_const, Nat.mul_assoc]

set_option maxHeartbeats 8000000 in
set_option maxRecDepth 1000000 in
/-- PixelBack of a frame that may be, in no other format. -/
theorem back_one (W D : Int) (A : Bool) (h : Nat) (po : Option Addr) (n c : Nat) (ln : Nat → Nat) (F : Nat → Nat → Nat) (w : World) (hT : Tab w) (hr : Pc w po n ln F) (hF : ∀ i, i < n → ∀ j, j < ln i → F i j < 65536) (hn : n ≤ 9223372036854775807) (hln : ∀ i, i < n → ln i ≤ 9223372036854775807) (hV : Vld W (h : Int) D A n ln F) (hf : (decide (D = 10) && !A) = false) :
    Calls Tryd.prog 7 #[frv W (h : Int) D A po n c] w fun e w' => e = .returned (.bool true) ∧ Kept [] w w' := by
  have hs := hV.shp
  have h1 : 1 ≤ h := by have := hs.2.1; omega
  obtain ⟨pb, pf, pc, hP, hR, hpc⟩ := pq_of hr (by have := hV.num; have := np_lo A; omega) (fun i hi => by
    have := hV.len i hi
    have h3 := wpH (i : Int) hs.1.1 hs.1.2 hs.2.1.1 hs.2.1.2
    omega)
  have CA := Hid.mk (fun (u : World) (hk : Kept [] w u) => alive_any u (hT.keep hk (by simp)))
  have CV := Hid.mk (fun (u : World) (hk : Kept [] w u) => rvalid_any W (h : Int) D A po n c ln F u (hr.pl.keep hk) hn hln hF)
  rw [vE_zero.2 hV] at CV
  have CP := Hid.mk (fun (u : World) (hk : Kept [] w u) => Pack_planar W D A po n c h ln pb pf pc F u hV (hP.keep hk) (fun i hi => (hR i hi).keep hk) hpc)
  have CQ := Hid.mk (fun (u : World) (hk : Kept [] w u) => Pack_of_v210 W (h : Int) D A po n c u (fun _ a m k z _ => a = none ∧ m = 0 ∧ k = 0 ∧ z = 71) (fun u2 hk2 => (pack_fmt W (h : Int) D A po n c ln F u2 (hr.pl.keep (hk.trans hk2)) hn hln hV hf).mono (by rintro e w' ⟨rfl, hk⟩; exact ⟨_, _, _, _, rfl, hk, rfl, rfl, rfl, rfl⟩)))
  have CB := Hid.mk (fun (G M : Nat) (u : World) (hM : M = ctL (plL W h) (np A * h)) (ho : u.ownsRow 0 5 1 (.slice (some ⟨G, 0, none⟩) M M) M ((ctN (plL W h) (plR W h F) (np A * h)).map Bt.byt)) => back_planar W D A n h G M ln F u hV hM ho)
  have CS := Hid.mk (fun (qo : Option Addr) (u : World) (hk : Kept [] w u) (hq : Pl u qo n ln F) => rsame_eq W (h : Int) D A qo po n n c ln ln F F u hq (hr.pl.keep hk) hn hln hln)
  rw [alF_yes (fun i _ => eqL_yes (fun _ _ => rfl))] at CS
  have CZ := Hid.mk (fun u => planarSize_any W (h : Int) D A u)
  rw [shE_ok hs] at CZ
  have hMs : sS W (h : Int) (fun x => 2 * x) (fun i => i) (np A) = ((ctL (plL W h) (np A * h) : Nat) : Int) := (ctL_sS (plL W h) (fun i => 2 * wdN W i) W h (fun x => 2 * x) (fun i => i) h1 (fun k => rfl) _ (fun i _ => rfl)).symm
  simp only [and_self, if_true, hMs] at CZ
  have hDA : D ≠ 10 ∨ (D = 10 ∧ A = true) := by
    by_cases hD : D = 10
    · right
      refine ⟨hD, ?_⟩
      rw [hD] at hf
      cases A
      · simp at hf
      · rfl
    · exact .inl hD
  have HDA := Hid.mk hDA
  clear hT hr hF hn hln hP hR hpc hMs hs h1 hV hf hDA
  have hB := heap_alloc_new w (.cells #[.int .i64 W, .int .i64 (h : Int), .int .i64 D, .bool A, .slice po n c] 31)
  have hk0 := alloc_kept w (.cells #[.int .i64 W, .int .i64 (h : Int), .int .i64 D, .bool A, .slice po n c] 31)
  obtain ⟨wa, ewa⟩ : ∃ wa, wa = w.alloc (.cells #[.int .i64 W, .int .i64 (h : Int), .int .i64 D, .bool A, .slice po n c] 31) := ⟨_, rfl⟩
  rw [← ewa] at hB hk0
  have HB := Hid.mk hB
  have HK0 := Hid.mk hk0
  clear hB hk0
  go_enter Tryd.func7, Tryd.ntmps7
  go_wp2_with (fail)
  rw [← ewa]
  refine (CA.out _ HK0.out).mono ?_
  rintro e w1 ⟨rfl, hk1⟩
  obtain ⟨b, eb⟩ : ∃ b, b = w.heap.size := ⟨_, rfl⟩
  rw [← eb] at HB ⊢
  have HB1 := Hid.mk (hk1.heap HB.out (by simp))
  have HK1 := Hid.mk (HK0.out.trans hk1)
  obtain ⟨⟨p0, p1, p2, p3, p4⟩, _⟩ := five HB1.out
  clear hk1 HB HK0 ewa eb CA
  go_wp2_with (fail)
  refine (CV.out _ HK1.out).mono ?_
  rintro e w2 ⟨rfl, hk2⟩
  have HB2 := Hid.mk (hk2.heap HB1.out (by simp))
  have HK2 := Hid.mk (HK1.out.trans hk2)
  clear p0 p1 p2 p3 p4 hk2 HB1 HK1 CV
  obtain ⟨⟨p0, p1, p2, p3, p4⟩, _⟩ := five HB2.out
  go_wp2_with (fail)
  refine (CP.out _ HK2.out).mono ?_
  rintro e w3 ⟨G, M, rfl, _, hM, hown, hk3⟩
  have HB3 := Hid.mk (hk3.heap HB2.out (by simp))
  have HK3 := Hid.mk (HK2.out.trans hk3)
  rw [← hM] at CZ
  have HM := Hid.mk hM
  have HO3 := Hid.mk hown
  clear p0 p1 p2 p3 p4 hk3 HB2 HK2 CP hM hown
  obtain ⟨⟨p0, p1, p2, p3, p4⟩, _⟩ := five HB3.out
  go_wp2_with (fail)
  refine (CQ.out _ HK3.out).mono ?_
  rintro e w4 ⟨u2, a, m, k, z, hku, rfl, hk4', rfl, rfl, rfl, rfl⟩
  have hk4 := hku.trans hk4'
  clear hku hk4'
  have HB4 := Hid.mk (hk4.heap HB3.out (by simp))
  have HK4 := Hid.mk (HK3.out.trans hk4)
  have HO4 := Hid.mk (hk4.row HO3.out (by simp))
  clear p0 p1 p2 p3 p4 hk4 HB3 HK3 HO3 CQ
  obtain ⟨⟨p0, p1, p2, p3, p4⟩, _⟩ := five HB4.out
  go_wp2_with (fail)
  refine (CB.out G M _ HM.out HO4.out).mono ?_
  rintro e w5' ⟨qo, rfl, hq', hk5'⟩
  have hx := heap_alloc_new w5' (.cells #[.int .i64 W, .int .i64 (h : Int), .int .i64 D, .bool A, .slice qo n n] 31)
  have hkx := alloc_kept w5' (.cells #[.int .i64 W, .int .i64 (h : Int), .int .i64 D, .bool A, .slice qo n n] 31)
  have hk5 := hk5'.trans hkx
  have hq := hq'.keep hkx
  obtain ⟨⟨x0, x1, x2, x3, x4⟩, _⟩ := five hx
  clear hq' hk5' hkx hx
  have HB5 := Hid.mk (hk5.heap HB4.out (by simp))
  have HK5 := Hid.mk (HK4.out.trans hk5)
  have HQ := Hid.mk hq

  clear p0 p1 p2 p3 p4 hk5 HB4 HK4 HO4 CB hq
  obtain ⟨⟨p0, p1, p2, p3, p4⟩, _⟩ := five HB5.out
  go_wp2_with (fail)
  refine (CS.out qo _ HK5.out HQ.out).mono ?_
  rintro e w6 ⟨rfl, hk6⟩
  have HB6 := Hid.mk (hk6.heap HB5.out (by simp))
  have HK6 := Hid.mk (HK5.out.trans hk6)

  clear p0 p1 p2 p3 p4 hk6 HB5 HK5 HQ
  obtain ⟨⟨p0, p1, p2, p3, p4⟩, _⟩ := five HB6.out
  go_wp2_with (fail)
  refine (CZ.out _).mono ?_
  rintro e w7 ⟨rfl, hk7⟩
  have HB7 := Hid.mk (hk7.heap HB6.out (by simp))
  have HK7 := Hid.mk (HK6.out.trans hk7)

  clear p0 p1 p2 p3 p4 hk7 HB6 HK6 CZ
  obtain ⟨⟨p0, p1, p2, p3, p4⟩, _⟩ := five HB7.out
  rcases HDA.out with hD | ⟨hD, hA⟩
  · go_wp2
    go_ret
    first | exact ⟨rfl, HK7.out⟩ | exact ⟨by simp, HK7.out⟩
  · subst hD hA
    go_wp2
    go_ret
    first | exact ⟨rfl, HK7.out⟩ | exact ⟨by simp, HK7.out⟩
end Go.Proofs.YtodlkpcbkilglaaDoor

namespace Go.Proofs.YtodlkpcbkilglaaDoor
open Go.RowKit Go.Shelf


set_option maxHeartbeats 8000000 in
set_option maxRecDepth 1000000 in
/-- PixelBack of a frame that may be, in both formats. -/
theorem back_two (W D : Int) (A : Bool) (h : Nat) (po : Option Addr) (n c : Nat) (ln : Nat → Nat) (F : Nat → Nat → Nat) (w : World) (hT : Tab w) (hr : Pc w po n ln F) (hF : ∀ i, i < n → ∀ j, j < ln i → F i j < 65536) (hn : n ≤ 9223372036854775807) (hln : ∀ i, i < n → ln i ≤ 9223372036854775807) (hV : Vld W (h : Int) D A n ln F) (hD : D = 10) (hA : A = false) :
    Calls Tryd.prog 7 #[frv W (h : Int) D A po n c] w fun e w' => e = .returned (.bool true) ∧ Kept [] w w' := by
  have hs := hV.shp
  have h1 : 1 ≤ h := by have := hs.2.1; omega
  obtain ⟨pb, pf, pc, hP, hR, hpc⟩ := pq_of hr (by have := hV.num; have := np_lo A; omega) (fun i hi => by
    have := hV.len i hi
    have h3 := wpH (i : Int) hs.1.1 hs.1.2 hs.2.1.1 hs.2.1.2
    omega)
  have CA := Hid.mk (fun (u : World) (hk : Kept [] w u) => alive_any u (hT.keep hk (by simp)))
  have CV := Hid.mk (fun (u : World) (hk : Kept [] w u) => rvalid_any W (h : Int) D A po n c ln F u (hr.pl.keep hk) hn hln hF)
  rw [vE_zero.2 hV] at CV
  have CP := Hid.mk (fun (u : World) (hk : Kept [] w u) => Pack_planar W D A po n c h ln pb pf pc F u hV (hP.keep hk) (fun i hi => (hR i hi).keep hk) hpc)
  have CQ := Hid.mk (fun (u : World) (hk : Kept [] w u) => Pack_v210 W D A po n c h ln pb pf pc F u hV hD hA (hT.keep hk (by simp)) (hP.keep hk) (fun i hi => (hR i hi).keep hk) hpc)
  have CB := Hid.mk (fun (G M : Nat) (u : World) (hM : M = ctL (plL W h) (np A * h)) (ho : u.ownsRow 0 5 1 (.slice (some ⟨G, 0, none⟩) M M) M ((ctN (plL W h) (plR W h F) (np A * h)).map Bt.byt)) => back_planar W D A n h G M ln F u hV hM ho)
  have CS := Hid.mk (fun (qo : Option Addr) (u : World) (hk : Kept [] w u) (hq : Pl u qo n ln F) => rsame_eq W (h : Int) D A qo po n n c ln ln F F u hq (hr.pl.keep hk) hn hln hln)
  rw [alF_yes (fun i _ => eqL_yes (fun _ _ => rfl))] at CS
  have CZ := Hid.mk (fun u => planarSize_any W (h : Int) D A u)
  rw [shE_ok hs] at CZ
  have hMs : sS W (h : Int) (fun x => 2 * x) (fun i => i) (np A) = ((ctL (plL W h) (np A * h) : Nat) : Int) := (ctL_sS (plL W h) (fun i => 2 * wdN W i) W h (fun x => 2 * x) (fun i => i) h1 (fun k => rfl) _ (fun i _ => rfl)).symm
  simp only [and_self, if_true, hMs] at CZ
  have CB2 := Hid.mk (fun (G M : Nat) (u : World) (hk : Kept [] w u) (hM : M = ctL (v2L W) (1 * h)) (ho : u.ownsRow 0 5 1 (.slice (some ⟨G, 0, none⟩) M M) M ((ctN (v2L W) (v2R W F) (1 * h)).map Bt.byt)) => back_v210 W D A n h G M ln F u hV hD hA (hT.keep hk (by simp)) hM ho)
  have CZ2 := Hid.mk (fun u => v210Size_any W (h : Int) D A u)
  rw [shE_ok hs, show (decide (D = 10) && !A) = true by rw [hD, hA]; rfl] at CZ2
  have hMs2 : sS W (h : Int) (fun x => (x + 47) / 48 * 128) (fun _ => 0) 1 = ((ctL (v2L W) (1 * h) : Nat) : Int) := (ctL_sS (v2L W) (fun _ => 4 * ((wdN W 0 + 47) / 48 * 32)) W h (fun x => (x + 47) / 48 * 128) (fun _ => 0) h1 (fun k => rfl) _ (fun i _ => by show 4 * ((wdN W 0 + 47) / 48 * 32) = (wdN W 0 + 47) / 48 * 128; omega)).symm
  simp only [and_self, if_true, hMs2] at CZ2
  have HDA := Hid.mk (And.intro hD hA)
  clear hT hr hF hn hln hP hR hpc hMs hs h1 hV hD hA hMs2
  have hB := heap_alloc_new w (.cells #[.int .i64 W, .int .i64 (h : Int), .int .i64 D, .bool A, .slice po n c] 31)
  have hk0 := alloc_kept w (.cells #[.int .i64 W, .int .i64 (h : Int), .int .i64 D, .bool A, .slice po n c] 31)
  obtain ⟨wa, ewa⟩ : ∃ wa, wa = w.alloc (.cells #[.int .i64 W, .int .i64 (h : Int), .int .i64 D, .bool A, .slice po n c] 31) := ⟨_, rfl⟩
  rw [← ewa] at hB hk0
  have HB := Hid.mk hB
  have HK0 := Hid.mk hk0
  clear hB hk0
  go_enter Tryd.func7, Tryd.ntmps7
  go_wp2_with (fail)
  rw [← ewa]
  refine (CA.out _ HK0.out).mono ?_
  rintro e w1 ⟨rfl, hk1⟩
  obtain ⟨b, eb⟩ : ∃ b, b = w.heap.size := ⟨_, rfl⟩
  rw [← eb] at HB ⊢
  have HB1 := Hid.mk (hk1.heap HB.out (by simp))
  have HK1 := Hid.mk (HK0.out.trans hk1)
  obtain ⟨⟨p0, p1, p2, p3, p4⟩, _⟩ := five HB1.out
  clear hk1 HB HK0 ewa eb CA
  go_wp2_with (fail)
  refine (CV.out _ HK1.out).mono ?_
  rintro e w2 ⟨rfl, hk2⟩
  have HB2 := Hid.mk (hk2.heap HB1.out (by simp))
  have HK2 := Hid.mk (HK1.out.trans hk2)
  clear p0 p1 p2 p3 p4 hk2 HB1 HK1 CV
  obtain ⟨⟨p0, p1, p2, p3, p4⟩, _⟩ := five HB2.out
  go_wp2_with (fail)
  refine (CP.out _ HK2.out).mono ?_
  rintro e w3 ⟨G, M, rfl, _, hM, hown, hk3⟩
  have HB3 := Hid.mk (hk3.heap HB2.out (by simp))
  have HK3 := Hid.mk (HK2.out.trans hk3)
  rw [← hM] at CZ
  have HM := Hid.mk hM
  have HO3 := Hid.mk hown
  clear p0 p1 p2 p3 p4 hk3 HB2 HK2 CP hM hown
  obtain ⟨⟨p0, p1, p2, p3, p4⟩, _⟩ := five HB3.out
  go_wp2_with (fail)
  refine (CQ.out _ HK3.out).mono ?_
  rintro e w4 ⟨G2, M2, rfl, _, hM2, hown2, hk4⟩
  rw [← hM2] at CZ2
  have HM2 := Hid.mk hM2
  have HP4 := Hid.mk hown2
  clear hM2 hown2
  have HB4 := Hid.mk (hk4.heap HB3.out (by simp))
  have HK4 := Hid.mk (HK3.out.trans hk4)
  have HO4 := Hid.mk (hk4.row HO3.out (by simp))
  clear p0 p1 p2 p3 p4 hk4 HB3 HK3 HO3 CQ
  obtain ⟨⟨p0, p1, p2, p3, p4⟩, _⟩ := five HB4.out
  go_wp2_with (fail)
  refine (CB.out G M _ HM.out HO4.out).mono ?_
  rintro e w5' ⟨qo, rfl, hq', hk5'⟩
  have hx := heap_alloc_new w5' (.cells #[.int .i64 W, .int .i64 (h : Int), .int .i64 D, .bool A, .slice qo n n] 31)
  have hkx := alloc_kept w5' (.cells #[.int .i64 W, .int .i64 (h : Int), .int .i64 D, .bool A, .slice qo n n] 31)
  have hk5 := hk5'.trans hkx
  have hq := hq'.keep hkx
  obtain ⟨⟨x0, x1, x2, x3, x4⟩, _⟩ := five hx
  clear hq' hk5' hkx hx
  have HB5 := Hid.mk (hk5.heap HB4.out (by simp))
  have HK5 := Hid.mk (HK4.out.trans hk5)
  have HQ := Hid.mk hq
  have HP5 := Hid.mk (hk5.row HP4.out (by simp))
  clear HP4
  clear p0 p1 p2 p3 p4 hk5 HB4 HK4 HO4 CB hq
  obtain ⟨⟨p0, p1, p2, p3, p4⟩, _⟩ := five HB5.out
  go_wp2_with (fail)
  refine (CS.out qo _ HK5.out HQ.out).mono ?_
  rintro e w6 ⟨rfl, hk6⟩
  have HB6 := Hid.mk (hk6.heap HB5.out (by simp))
  have HK6 := Hid.mk (HK5.out.trans hk6)
  have HP6 := Hid.mk (hk6.row HP5.out (by simp))
  clear HP5
  clear p0 p1 p2 p3 p4 hk6 HB5 HK5 HQ
  obtain ⟨⟨p0, p1, p2, p3, p4⟩, _⟩ := five HB6.out
  go_wp2_with (fail)
  refine (CZ.out _).mono ?_
  rintro e w7 ⟨rfl, hk7⟩
  have HB7 := Hid.mk (hk7.heap HB6.out (by simp))
  have HK7 := Hid.mk (HK6.out.trans hk7)
  have HP7 := Hid.mk (hk7.row HP6.out (by simp))
  clear HP6
  clear p0 p1 p2 p3 p4 hk7 HB6 HK6 CZ
  obtain ⟨⟨p0, p1, p2, p3, p4⟩, _⟩ := five HB7.out
  obtain ⟨hD, hA⟩ := HDA.out
  subst hD hA
  clear HDA
  go_wp2_with (fail)
  refine (CB2.out G2 M2 _ HK7.out HM2.out HP7.out).mono ?_
  rintro e w8' ⟨qo2, rfl, hq', hk8'⟩
  have hx := heap_alloc_new w8' (.cells #[.int .i64 W, .int .i64 (h : Int), .int .i64 10, .bool false, .slice qo2 n n] 31)
  have hkx := alloc_kept w8' (.cells #[.int .i64 W, .int .i64 (h : Int), .int .i64 10, .bool false, .slice qo2 n n] 31)
  have hk8 := hk8'.trans hkx
  have hq := hq'.keep hkx
  obtain ⟨⟨x0, x1, x2, x3, x4⟩, _⟩ := five hx
  clear hq' hk8' hkx hx
  have HB8 := Hid.mk (hk8.heap HB7.out (by simp))
  have HK8 := Hid.mk (HK7.out.trans hk8)
  have HQ := Hid.mk hq
  clear p0 p1 p2 p3 p4 hk8 HB7 HK7 CB2 hq HP7
  obtain ⟨⟨p0, p1, p2, p3, p4⟩, _⟩ := five HB8.out
  go_wp2_with (fail)
  refine (CS.out qo2 _ HK8.out HQ.out).mono ?_
  rintro e w9 ⟨rfl, hk9⟩
  have HB9 := Hid.mk (hk9.heap HB8.out (by simp))
  have HK9 := Hid.mk (HK8.out.trans hk9)
  clear p0 p1 p2 p3 p4 hk9 HB8 HK8 HQ CS
  obtain ⟨⟨p0, p1, p2, p3, p4⟩, _⟩ := five HB9.out
  go_wp2_with (fail)
  refine (CZ2.out _).mono ?_
  rintro e w10 ⟨rfl, hk10⟩
  have HK10 := Hid.mk (HK9.out.trans hk10)
  have hM8 : ∃ r, M2 = 128 * r := ⟨_, HM2.out.trans (ctL_v2 _ _)⟩
  obtain ⟨r, rfl⟩ := hM8
  clear p0 p1 p2 p3 p4 hk10 HB9 HK9 CZ2 HM2
  go_wp2
  go_ret
  first | exact ⟨rfl, HK10.out⟩ | exact ⟨by simp, HK10.out⟩ | (refine ⟨?_, HK10.out⟩; go_num) | (refine ⟨?_, HK10.out⟩; simp; omega)
end Go.Proofs.YtodlkpcbkilglaaDoor

namespace Go.Proofs.YtodlkpcbkilglaaDoor
open Go.RowKit Go.Shelf

/-- PixelBack of any frame. -/
theorem pixelBack_any (W H D : Int) (A : Bool) (po : Option Addr) (n c : Nat) (ln : Nat → Nat) (F : Nat → Nat → Nat) (w : World) (hT : Tab w) (hr : Pc w po n ln F) (hF : ∀ i, i < n → ∀ j, j < ln i → F i j < 65536) (hn : n ≤ 9223372036854775807) (hln : ∀ i, i < n → ln i ≤ 9223372036854775807) :
    Calls Tryd.prog 7 #[frv W H D A po n c] w fun e w' => e = .returned (.bool true) ∧ Kept [] w w' := by
  by_cases hE : vE W H D A n ln F = 0
  · have hV := vE_zero.1 hE
    obtain ⟨h, rfl⟩ := Int.eq_ofNat_of_zero_le (show 0 ≤ H by have := hV.shp.2.1; omega)
    by_cases hf : (decide (D = 10) && !A) = true
    · have hD : D = 10 := by simp at hf; exact hf.1
      have hA : A = false := by simp at hf; exact hf.2
      exact back_two W D A h po n c ln F w hT hr hF hn hln hV hD hA
    · exact back_one W D A h po n c ln F w hT hr hF hn hln hV (by simpa using hf)
  · exact back_no W H D A po n c ln F w hT hr.pl hF hn hln hE
end Go.Proofs.YtodlkpcbkilglaaDoor
