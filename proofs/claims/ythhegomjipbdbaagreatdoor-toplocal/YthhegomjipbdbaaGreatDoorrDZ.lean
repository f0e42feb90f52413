import Derived.Test.YthhegomjipbdbaaGreatDoorpVZ
import Derived.Test.YthhegomjipbdbaaGreatDoorpQZ
namespace Go.Proofs.YthhegomjipbdbaaGreatDoor.Pc
open Go.RowKit

/-- What a slice's payload is made of. -/
theorem jb_ok (W H D : Int) (A : Bool) (po : Option Addr) (m d : Nat) (ln : Nat → Nat) (F : Nat → Nat → Nat) (sw sh : Int) (lo : Option Addr) (n c : Nat) (cap p : Int) (N : Nat) (rr : Nat → Int) (X : Nat → Nat → Nat × Nat) (w : World)
    (hv : Tl.Vld W H D A m ln F) (hsd : (16 ≤ sw ∧ sw ≤ 4096) ∧ sw % 2 = 0 ∧ (16 ≤ sh ∧ sh ≤ 4096)) (hN : N = (Tl.cl W sw * Tl.cl H sh).toNat) (hrr : ∀ q, q < 4 → 0 ≤ rr q ∧ rr q ≤ 63) (hX : Cod W H D sw sh (Tl.cl W sw) N m F rr X) (hP : Plc w po m ln F) (hT : Tab w) (u : World) (P : Nat) (ku : Kept [] w u) (hG : Tl.Gr u P W H D A sw sh (Tl.cl W sw) (Tl.cl H sh)) (k : Nat) (hk : k < N) :
    Jb u W H D A po m d sw sh lo n c cap p P (k : Int) rr (fun q => gW W sw (Tl.cl W sw) k q) (fun _ => gH H sh (Tl.cl W sw) k) (fun q => gF W H sw sh (Tl.cl W sw) F k q) (X k) := by
  have g := Tl.Gd.of hv.shp.1.1 hv.shp.1.2 hv.shp.2.1.1 hv.shp.2.1.2 hsd.1.1 hsd.1.2 hsd.2.1 hsd.2.2.1 hsd.2.2.2
  have hcr : 1 ≤ Tl.cl W sw * Tl.cl H sh ∧ Tl.cl W sw * Tl.cl H sh ≤ 65536 := by
    have h1 : 1 * 1 ≤ Tl.cl W sw * Tl.cl H sh := Int.mul_le_mul g.c0 g.r0 (by omega) (by have := g.c0; omega)
    have h2 : Tl.cl W sw * Tl.cl H sh ≤ 256 * 256 := Int.mul_le_mul g.c1 g.r1 (by have := g.r0; omega) (by omega)
    omega
  have hNi : (N : Int) = Tl.cl W sw * Tl.cl H sh := by rw [hN]; omega
  have hm4 : m ≤ 4 := by rw [hv.num]; exact Tl.np_hi A
  have htot := hv.shp.2.2.2
  refine ⟨fun q hq y ky => ?_, fun q hq y gy sc ky hsmp => ?_, fun q hq => ?_, hm4⟩
  · obtain ⟨p1, p2, p3, p4, p5, p6, p7, p8⟩ := part_in g (k := k) (by omega) q
    have hw0 := Tl.wp_lo (q : Int) hv.shp.1.1
    have hw1 := Tl.wp_hi (q : Int) hv.shp.1.1
    have hl9 : ln q = (Tl.wp W (q : Int)).toNat * H.toNat := by
      have h1 := hv.len q hq
      have h2 : ((Tl.wp W (q : Int)).toNat * H.toNat : Int) = Tl.wp W (q : Int) * H := by
        rw [Int.toNat_of_nonneg (by omega), Int.toNat_of_nonneg (by have := hv.shp.2.1.1; omega)]
      omega
    exact block_any W H D A po m d sw sh lo n c cap p P (k : Int) q (gX W sw (Tl.cl W sw) k q) (gY sh (Tl.cl W sw) k) (gW W sw (Tl.cl W sw) k q) (gH H sh (Tl.cl W sw) k) (Tl.wp W (q : Int)).toNat H.toNat ln F y (hP.keep (ku.trans ky)) hq hl9 p5 p6 p7 p8 (by have := hv.shp.1.2; omega) (by have := hv.shp.2.1.2; omega)
      (fun z kz => by
        have h9 := Tl.tpart_ok P W H D sw sh (Tl.cl W sw) (Tl.cl H sh) (k : Int) (q : Int) A z (hG.keep (ky.trans kz) (by simp)) g hv.shp (by omega) (by omega) ⟨by omega, by rw [← hv.num]; omega⟩
        rw [p1, p2, p3, p4]
        exact h9)
      (fun z => by
        have h9 := Tl.size_any W H D (q : Int) A z
        have e9 : Tl.szE W H D (q : Int) A = 0 := by
          unfold Tl.szE
          rw [if_pos (Tl.shE_ok hv.shp), if_pos ⟨by omega, by rw [← hv.num]; omega⟩]
        rw [e9, if_pos rfl, if_pos rfl] at h9
        rw [Int.toNat_of_nonneg (by omega), Int.toNat_of_nonneg (by have := hv.shp.2.1.1; omega)]
        exact h9)
  · have hr9 := hrr q (by omega)
    obtain ⟨b, ht⟩ := hX k hk q hq
    have B := blk_of hv g (k := k) (q := q) (by omega) hq hr9.1 hr9.2
    exact Go.Proofs.YthhegomjipbdbaaGreatDoor.Encode_any (sc := sc) y B hsmp (hT.kept (ku.trans ky) (by simp)) ht
  · obtain ⟨a1, _, a3⟩ := cod_len hv g (by omega) hrr hX hk hq
    refine ⟨a1, ?_⟩
    have h2 := pzs_le hv.shp g (k := k) (by omega)
    have h3 : pz D (pw W sw (Tl.cl W sw) (q : Int) (k : Int)) (ph H sh (Tl.cl W sw) (k : Int)) ≤ pzs W H D sw sh (Tl.cl W sw) (Tl.np A) k := by
      unfold pzs
      refine sI_one (f := fun q : Nat => pz D (pw W sw (Tl.cl W sw) (q : Int) (k : Int)) (ph H sh (Tl.cl W sw) (k : Int))) (fun q' _ => ?_) (by rw [← hv.num]; exact hq)
      have hw := pw_in g (q' : Int) (k : Int)
      have hh := ph_in g (by omega : (0 : Int) ≤ k) (by omega)
      exact (pz_le hv.shp.2.2.1 (Int.mul_nonneg (by omega) (by omega))).1
    omega

set_option maxHeartbeats 8000000 in
set_option maxRecDepth 1000000 in
theorem Payload_ok (W H D : Int) (A : Bool) (po : Option Addr) (m d : Nat) (ln : Nat → Nat) (F : Nat → Nat → Nat) (sw sh : Int) (lo : Option Addr) (n c : Nat) (L : Nat → Nat → Int) (cap p : Int) (N : Nat) (rr : Nat → Int) (X : Nat → Nat → Nat × Nat) (k : Nat) (w : World)
    (hv : Tl.Vld W H D A m ln F) (hc : Cfg W H D A sw sh n L cap p) (hm : m ≤ 9223372036854775807) (hln : ∀ i, i < m → ln i ≤ 9223372036854775807) (hL : Ldr w lo n L) (hn : n ≤ 9223372036854775807) (hN : N = (Tl.cl W sw * Tl.cl H sh).toNat) (hrr : rmb rr A = true) (hX : Cod W H D sw sh (Tl.cl W sw) N m F rr X) (hP : Plc w po m ln F) (hT : Tab w) (hk : k < N) :
    Calls Tryz.prog 17 #[Tl.frv W H D A po m d, cfv sw sh lo n c cap p, rgv rr, .int .i64 (k : Int)] w fun e w' => ∃ bo c, e = .returned (.tuple #[.slice bo (payL (X k) m).length c, .int .i64 0]) ∧ w'.ownsRow w.heap.size 5 1 (.slice bo (payL (X k) m).length c) (payL (X k) m).length ((payL (X k) m).map byt) ∧ Kept [] w w' := by
  have g := hc.gd
  obtain ⟨r0, er0⟩ : ∃ x, rr 0 = x := ⟨_, rfl⟩
  obtain ⟨r1, er1⟩ : ∃ x, rr 1 = x := ⟨_, rfl⟩
  obtain ⟨r2, er2⟩ : ∃ x, rr 2 = x := ⟨_, rfl⟩
  obtain ⟨r3, er3⟩ : ∃ x, rr 3 = x := ⟨_, rfl⟩
  have ER : rgv rr = .agg #[.int .i64 r0, .int .i64 r1, .int .i64 r2, .int .i64 r3] := by unfold rgv; rw [er0, er1, er2, er3]
  obtain ⟨w1, e1⟩ : ∃ w1, w.alloc (.cells #[.int .i64 W, .int .i64 H, .int .i64 D, .bool A, .slice po m d] 42 (0, 0)) = w1 := ⟨_, rfl⟩
  obtain ⟨w2, e2⟩ : ∃ w2, w1.alloc (.cells #[.int .i64 sw, .int .i64 sh, .slice lo n c, .int .i64 cap, .int .i64 p] 45 (0, 0)) = w2 := ⟨_, rfl⟩
  obtain ⟨w3, e3⟩ : ∃ w3, w2.alloc (.cells #[.int .i64 r0, .int .i64 r1, .int .i64 r2, .int .i64 r3] 25 (0, 0)) = w3 := ⟨_, rfl⟩
  obtain ⟨B, eB⟩ : ∃ B, w.heap.size = B := ⟨_, rfl⟩
  have z1 : w1.heap.size = B + 1 := by rw [← e1, ← eB]; exact Array.size_push _
  have z2 : w2.heap.size = B + 1 + 1 := by rw [← z1, ← e2]; exact Array.size_push _
  have k1 : Kept [] w w1 := by rw [← e1]; exact (Kept.refl [] w).alloc _
  have k2 : Kept [] w1 w2 := by rw [← e2]; exact (Kept.refl [] w1).alloc _
  have k3 : Kept [] w2 w3 := by rw [← e3]; exact (Kept.refl [] w2).alloc _
  have HF := Hid.mk ((k2.trans k3).heap (show w1.heap[B]? = some (.cells #[.int .i64 W, .int .i64 H, .int .i64 D, .bool A, .slice po m d] 42 (0, 0)) by rw [← e1, ← eB]; exact heap_alloc_new _ _) (by simp))
  have HC := Hid.mk (k3.heap (show w2.heap[B + 1]? = some (.cells #[.int .i64 sw, .int .i64 sh, .slice lo n c, .int .i64 cap, .int .i64 p] 45 (0, 0)) by rw [← e2, ← z1]; exact heap_alloc_new _ _) (by simp))
  have HR := Hid.mk (show w3.heap[B + 1 + 1]? = some (.cells #[.int .i64 r0, .int .i64 r1, .int .i64 r2, .int .i64 r3] 25 (0, 0)) by rw [← e3, ← z2]; exact heap_alloc_new _ _)
  have K3 := Hid.mk ((k1.trans k2).trans k3)
  have hE : jbE W H D A m ln F sw sh n L cap p = 0 := by
    unfold jbE
    rw [if_pos (Tl.vE_zero.2 hv)]
    exact cfE_zero.2 hc
  have C1 := Hid.mk (newJob_any W H D A po m d ln F sw sh lo n c L cap p w3 (hP.pl.keep K3.out) hm hln (hL.keep K3.out) hn (by have := hc.sd; omega) (by have := hc.sd; omega))
  rw [hE] at C1
  have C2 := Hid.mk (fun u => rungMayBe_any rr W H D A u)
  rw [ER, hrr] at C2
  have C3 := Hid.mk (fun P u (h : Tl.Gr u P W H D A sw sh (Tl.cl W sw) (Tl.cl H sh)) => Tl.count_any' P W H D sw sh _ _ A u h g.c0 g.c1 g.r0 g.r1)
  have hNi : Tl.cl W sw * Tl.cl H sh = (N : Int) := by rw [hN]; exact (Int.toNat_of_nonneg (Int.mul_nonneg (by have := g.c0; omega) (by have := g.r0; omega))).symm
  rw [hNi] at C3
  have C4 := Hid.mk (fun u P (ku : Kept [] w u) (hG : Tl.Gr u P W H D A sw sh (Tl.cl W sw) (Tl.cl H sh)) => payload_any W H D A po m d sw sh lo n c cap p P (k : Int) rr _ _ _ (X k) u (jb_ok W H D A po m d ln F sw sh lo n c cap p N rr X w hv hc.sd hN (fun q hq => rmb_tol hrr hq) hX hP hT u P ku hG k hk))
  rw [ER] at C4 ⊢
  have i1 : decide ((k : Int) < 0) = false := decide_eq_false (by omega)
  have i2 : decide ((N : Int) ≤ (k : Int)) = false := decide_eq_false (by omega)
  have i3 : decide (N ≤ k) = false := decide_eq_false (by omega)
  have i4 : ¬ (N : Int) ≤ (k : Int) := by omega
  have i5 : ¬ N ≤ k := by omega
  obtain ⟨pl, epl⟩ : ∃ x, payL (X k) m = x := ⟨_, rfl⟩
  rw [epl] at C4 ⊢
  obtain ⟨q0, q1, q2, q3, q4⟩ := cel5 HC.out
  obtain ⟨t0, t1, t2, t3, t4⟩ := cel5 HF.out
  have HBB := Hid.mk eB
  clear hv hc hm hln hL hn hN hrr hX hP hT hk g er0 er1 er2 er3 ER k1 k2 k3 hE hNi epl
  go_enter Tryz.func17, Tryz.ntmps17
  go_wp2_with (fail)
  clear e1 e2 e3 z1 z2 eB
  refine C1.out.mono ?_
  rintro e w4 (⟨_, P, rfl, k4, _, hG⟩ | ⟨h9, _⟩)
  · clear q0 q1 q2 q3 q4 t0 t1 t2 t3 t4 C1
    obtain ⟨w5, e5⟩ : ∃ x, w4.alloc (.cells #[.int .i64 W, .int .i64 H, .int .i64 D, .bool A, .slice po m d, .int .i64 sw, .int .i64 sh, .slice lo n c, .int .i64 cap, .int .i64 p, .pointer (some ⟨P, 0, none⟩)] 97 (0, 0)) = x := ⟨_, rfl⟩
    obtain ⟨J, eJ⟩ : ∃ x, w4.heap.size = x := ⟨_, rfl⟩
    have k5 : Kept [] w4 w5 := by rw [← e5]; exact (Kept.refl [] w4).alloc _
    have HJ := Hid.mk (show w5.heap[J]? = some (.cells #[.int .i64 W, .int .i64 H, .int .i64 D, .bool A, .slice po m d, .int .i64 sw, .int .i64 sh, .slice lo n c, .int .i64 cap, .int .i64 p, .pointer (some ⟨P, 0, none⟩)] 97 (0, 0)) by rw [← e5, ← eJ]; exact heap_alloc_new _ _)
    have K5 := Hid.mk (k4.trans k5)
    have HG := Hid.mk (hG.keep k5 (by simp))
    obtain ⟨t0, t1, t2, t3, t4⟩ := cel5 (K5.out.heap HF.out (by simp))
    obtain ⟨u0, u1, u2, u3⟩ := cel4 (K5.out.heap HR.out (by simp))
    clear k4 k5 hG
    subst e5 eJ
    go_wp2_with (fail)
    generalize w4.alloc (.cells #[.int .i64 W, .int .i64 H, .int .i64 D, .bool A, .slice po m d, .int .i64 sw, .int .i64 sh, .slice lo n c, .int .i64 cap, .int .i64 p, .pointer (some ⟨P, 0, none⟩)] 97 (0, 0)) = w5 at *
    generalize w4.heap.size = J at *
    refine (C2.out _).mono ?_
    rintro e w6 ⟨rfl, k6⟩
    have K6 := Hid.mk k6
    clear k6 t0 t1 t2 t3 t4 u0 u1 u2 u3
    obtain ⟨j0, j1, j2, j3, j4, j5, j6, j7, j8, j9, j10⟩ := cel11 (K6.out.heap HJ.out (by simp))
    go_wp2_with (fail)
    refine (C3.out P _ (HG.out.keep K6.out (by simp))).mono ?_
    rintro e w7 ⟨rfl, k7⟩
    have K7 := Hid.mk (K6.out.trans k7)
    clear k7 j0 j1 j2 j3 j4 j5 j6 j7 j8 j9 j10
    obtain ⟨j0, j1, j2, j3, j4, j5, j6, j7, j8, j9, j10⟩ := cel11 (K7.out.heap HJ.out (by simp))
    obtain ⟨u0, u1, u2, u3⟩ := cel4 ((K5.out.trans K7.out).heap HR.out (by simp))
    go_wp2_with (fail)
    refine (C4.out _ P (K3.out.trans (K5.out.trans K7.out)) (HG.out.keep K7.out (by simp))).mono ?_
    rintro e w8 ⟨V, rfl, ho, k8⟩
    obtain ⟨bo, cb, rfl⟩ := row_form ho
    have HO := Hid.mk (own_base ho (K3.out.trans (K5.out.trans K7.out)).size)
    have K8 := Hid.mk ((K3.out.trans (K5.out.trans K7.out)).trans k8)
    clear j0 j1 j2 j3 j4 j5 j6 j7 j8 j9 j10 u0 u1 u2 u3 ho k8
    go_wp2
    go_ret2
    exact ⟨bo, cb, rfl, HO.out, K8.out⟩
  · exact absurd rfl h9
end Go.Proofs.YthhegomjipbdbaaGreatDoor.Pc

namespace Go.Proofs.YthhegomjipbdbaaGreatDoor.Pc
open Go.RowKit

set_option maxHeartbeats 4000000 in
set_option maxRecDepth 1000000 in
theorem right_any (W H D : Int) (A : Bool) (po : Option Addr) (m d : Nat) (ln : Nat → Nat) (F : Nat → Nat → Nat) (sw sh : Int) (lo : Option Addr) (n c : Nat) (L : Nat → Nat → Int) (cap p : Int) (w : World) (hr : Tl.Pl w po m ln F) (hm : m ≤ 9223372036854775807) (hln : ∀ i, i < m → ln i ≤ 9223372036854775807) (hF : ∀ i, i < m → ∀ j, j < ln i → F i j < 65536) (hL : Ldr w lo n L) (hn : n ≤ 9223372036854775807) :
    Calls Tryz.prog 12 #[Tl.frv W H D A po m d, cfv sw sh lo n c cap p] w fun e w' => e = .returned (.bool (decide (Tl.vE W H D A m ln F = 0 ∧ cfE W H D A sw sh n L cap p = 0))) ∧ Kept [] w w' := by
  obtain ⟨w1, e1⟩ : ∃ w1, w.alloc (.cells #[.int .i64 W, .int .i64 H, .int .i64 D, .bool A, .slice po m d] 42 (0, 0)) = w1 := ⟨_, rfl⟩
  obtain ⟨w2, e2⟩ : ∃ w2, w1.alloc (.cells #[.int .i64 sw, .int .i64 sh, .slice lo n c, .int .i64 cap, .int .i64 p] 45 (0, 0)) = w2 := ⟨_, rfl⟩
  obtain ⟨B, eB⟩ : ∃ B, w.heap.size = B := ⟨_, rfl⟩
  have z1 : w1.heap.size = B + 1 := by rw [← e1, ← eB]; exact Array.size_push _
  have k1 : Kept [] w w1 := by rw [← e1]; exact (Kept.refl [] w).alloc _
  have k2 : Kept [] w1 w2 := by rw [← e2]; exact (Kept.refl [] w1).alloc _
  have HS := Hid.mk (k2.heap (show w1.heap[B]? = some (.cells #[.int .i64 W, .int .i64 H, .int .i64 D, .bool A, .slice po m d] 42 (0, 0)) by rw [← e1, ← eB]; exact heap_alloc_new _ _) (by simp))
  have HC := Hid.mk (show w2.heap[B + 1]? = some (.cells #[.int .i64 sw, .int .i64 sh, .slice lo n c, .int .i64 cap, .int .i64 p] 45 (0, 0)) by rw [← e2, ← z1]; exact heap_alloc_new _ _)
  have K2 := Hid.mk (k1.trans k2)
  have C1 := Hid.mk (fun u (ku : Kept [] w u) => Tl.rvalid_any W H D A po m d ln F u (hr.keep ku) hm hln hF)
  have C2 := Hid.mk (fun u (ku : Kept [] w u) => rValid_any W H D A sw sh lo n c L cap p u (hL.keep ku) hn)
  obtain ⟨E1, eE1⟩ : ∃ E, Tl.vE W H D A m ln F = E := ⟨_, rfl⟩
  obtain ⟨E2, eE2⟩ : ∃ E, cfE W H D A sw sh n L cap p = E := ⟨_, rfl⟩
  rw [eE1] at C1
  rw [eE2] at C2
  rw [eE1, eE2]
  obtain ⟨q0, q1, q2, q3, q4⟩ := cel5 HC.out
  obtain ⟨s0, s1, s2, s3, s4⟩ := cel5 HS.out
  clear hr hm hln hF hL hn k1 k2 eE1 eE2
  by_cases h1 : E1 = 0
  · subst h1
    have d1 : decide ((0 : Int) = 0 ∧ E2 = 0) = decide (E2 = 0) := by simp
    rw [d1]
    clear d1
    go_enter Tryz.func12, Tryz.ntmps12
    go_wp2_with (fail)
    clear e1 e2 z1 eB
    refine (C1.out _ K2.out).mono ?_
    rintro e w3 ⟨rfl, k3⟩
    have K3 := Hid.mk k3
    clear q0 q1 q2 q3 q4 s0 s1 s2 s3 s4 k3
    obtain ⟨q0, q1, q2, q3, q4⟩ := cel5 (K3.out.heap HC.out (by simp))
    obtain ⟨s0, s1, s2, s3, s4⟩ := cel5 (K3.out.heap HS.out (by simp))
    go_wp2_with (fail)
    refine (C2.out _ (K2.out.trans K3.out)).mono ?_
    rintro e w4 ⟨rfl, k4⟩
    have K4 := Hid.mk ((K2.out.trans K3.out).trans k4)
    clear q0 q1 q2 q3 q4 s0 s1 s2 s3 s4 k4
    by_cases h2 : E2 = 0
    · subst h2
      go_wp2
      go_ret
      exact ⟨by first | rfl | (exact ret_bool (by simp)), K4.out⟩
    · have d2 : decide (E2 = 0) = false := by simpa using h2
      have HD2 := Hid.mk d2
      go_wp2
      go_ret
      exact ⟨by first | (rw [HD2.out]; done) | (rw [HD2.out]; rfl) | (exact ret_bool HD2.out.symm) | rfl, K4.out⟩
  · have d1 : decide (E1 = 0 ∧ E2 = 0) = false := by simp [h1]
    rw [d1]
    clear d1
    go_enter Tryz.func12, Tryz.ntmps12
    go_wp2_with (fail)
    clear e1 e2 z1 eB
    refine (C1.out _ K2.out).mono ?_
    rintro e w3 ⟨rfl, k3⟩
    have K3 := Hid.mk (K2.out.trans k3)
    clear q0 q1 q2 q3 q4 s0 s1 s2 s3 s4 k3
    go_wp2
    go_ret
    exact ⟨by first | rfl | (exact ret_bool rfl), K3.out⟩
end Go.Proofs.YthhegomjipbdbaaGreatDoor.Pc
