import Derived.Test.YthkpligodbkofaaGreatDoorpSZ
import Derived.Test.YthkpligodbkofaaGreatDoorpQZ
import Derived.Test.YthkpligodbkofaaGreatDoortLaZ
import Derived.Test.YthkpligodbkofaaGreatDoorqY
import Derived.Test.YthkpligodbkofaaGreatDoorpXZ
namespace Go.Proofs.YthkpligodbkofaaGreatDoor.Pc
open Go.RowKit

/-- What a slice's payload is made of. -/
theorem jb_ok (W H D : Int) (A : Bool) (po : Option Addr) (m d : Nat) (ln : Nat → Nat) (F : Nat → Nat → Nat) (sw sh : Int) (lo : Option Addr) (n c : Nat) (cap p : Int) (N : Nat) (rr : Nat → Int) (X : Nat → Nat → Nat × Nat) (w : World)
    (hv : Tl.Vld W H D A m ln F) (hsd : (16 ≤ sw ∧ sw ≤ 4096) ∧ sw % 2 = 0 ∧ (16 ≤ sh ∧ sh ≤ 4096)) (hN : N = (Tl.cl W sw * Tl.cl H sh).toNat) (hrr : ∀ q, q < 4 → 0 ≤ rr q ∧ rr q ≤ 63) (hX : Cod W H D sw sh (Tl.cl W sw) N m F rr X) (hP : Plc w po m ln F) (hT : Tab w) (u : World) (P : Nat) (ku : Kept [] w u) (hG : Tl.Gr u P W H D A sw sh (Tl.cl W sw) (Tl.cl H sh)) (k : Nat) (hk : k < N) :
    Jb u W H D A po m d sw sh lo n c cap p P (k : Int) rr (fun q => gW W sw (Tl.cl W sw) k q) (fun _ => gH H sh (Tl.cl W sw) k) (fun q => gF W H sw sh (Tl.cl W sw) F k q) (X k) := by
  have g := Tl.Gd.of hv.shp.1.1 hv.shp.1.2 hv.shp.2.1.1 hv.shp.2.1.2 hsd.1.1 hsd.1.2 hsd.2.1 hsd.2.2.1 hsd.2.2.2
  have hcr : 1 ≤ Tl.cl W sw * Tl.cl H sh ∧ Tl.cl W sw * Tl.cl H sh ≤ 65536 := by
    have h1 : 1 * 1 ≤ Tl.cl W sw * Tl.cl H sh := Int.mul_le_mul g.c0 g.r0 (by omega) (by have := g.c0; omega)
    have h2 : Tl.cl W sw * Tl.cl H sh ≤ 256 * 256 := Int.mul_le_mul g.c1 g.r1 (by have := g.r0; omega) (by omega)
    omega
  have hNi : (N : Int) = Tl.cl W sw * Tl.cl H sh := by rw [hN]; omega
  have hm4 : m ≤ 4 := by rw [hv.num]; exact Tl.np_hi A
  have htot := hv.shp.2.2.2
  refine ⟨fun q hq y ky => ?_, fun q hq y gy sc ky hsmp => ?_, fun q hq => ?_, hm4⟩
  · obtain ⟨p1, p2, p3, p4, p5, p6, p7, p8⟩ := part_in g (k := k) (by omega) q
    have hw0 := Tl.wp_lo (q : Int) hv.shp.1.1
    have hw1 := Tl.wp_hi (q : Int) hv.shp.1.1
    have hl9 : ln q = (Tl.wp W (q : Int)).toNat * H.toNat := by
      have h1 := hv.len q hq
      have h2 : ((Tl.wp W (q : Int)).toNat * H.toNat : Int) = Tl.wp W (q : Int) * H := by
        rw [Int.toNat_of_nonneg (by omega), Int.toNat_of_nonneg (by have := hv.shp.2.1.1; omega)]
      omega
    exact block_any W H D A po m d sw sh lo n c cap p P (k : Int) q (gX W sw (Tl.cl W sw) k q) (gY sh (Tl.cl W sw) k) (gW W sw (Tl.cl W sw) k q) (gH H sh (Tl.cl W sw) k) (Tl.wp W (q : Int)).toNat H.toNat ln F y (hP.keep (ku.trans ky)) hq hl9 p5 p6 p7 p8 (by have := hv.shp.1.2; omega) (by have := hv.shp.2.1.2; omega)
      (fun z kz => by
        have h9 := Tl.tpart_ok P W H D sw sh (Tl.cl W sw) (Tl.cl H sh) (k : Int) (q : Int) A z (hG.keep (ky.trans kz) (by simp)) g hv.shp (by omega) (by omega) ⟨by omega, by rw [← hv.num]; omega⟩
        rw [p1, p2, p3, p4]
        exact h9)
      (fun z => by
        have h9 := Tl.size_any W H D (q : Int) A z
        have e9 : Tl.szE W H D (q : Int) A = 0 := by
          unfold Tl.szE
          rw [if_pos (Tl.shE_ok hv.shp), if_pos ⟨by omega, by rw [← hv.num]; omega⟩]
        rw [e9, if_pos rfl, if_pos rfl] at h9
        rw [Int.toNat_of_nonneg (by omega), Int.toNat_of_nonneg (by have := hv.shp.2.1.1; omega)]
        exact h9)
  · have hr9 := hrr q (by omega)
    obtain ⟨b, ht⟩ := hX k hk q hq
    have B := blk_of hv g (k := k) (q := q) (by omega) hq hr9.1 hr9.2
    exact Go.Proofs.YthkpligodbkofaaGreatDoor.Encode_any (sc := sc) y B hsmp (hT.kept (ku.trans ky) (by simp)) ht
  · obtain ⟨a1, _, a3⟩ := cod_len hv g (by omega) hrr hX hk hq
    refine ⟨a1, ?_⟩
    have h2 := pzs_le hv.shp g (k := k) (by omega)
    have h3 : pz D (pw W sw (Tl.cl W sw) (q : Int) (k : Int)) (ph H sh (Tl.cl W sw) (k : Int)) ≤ pzs W H D sw sh (Tl.cl W sw) (Tl.np A) k := by
      unfold pzs
      refine sI_one (f := fun q : Nat => pz D (pw W sw (Tl.cl W sw) (q : Int) (k : Int)) (ph H sh (Tl.cl W sw) (k : Int))) (fun q' _ => ?_) (by rw [← hv.num]; exact hq)
      have hw := pw_in g (q' : Int) (k : Int)
      have hh := ph_in g (by omega : (0 : Int) ≤ k) (by omega)
      exact (pz_le hv.shp.2.2.1 (Int.mul_nonneg (by omega) (by omega))).1
    omega

set_option maxHeartbeats 8000000 in
set_option maxRecDepth 1000000 in
theorem Payload_ok (W H D : Int) (A : Bool) (po : Option Addr) (m d : Nat) (ln : Nat → Nat) (F : Nat → Nat → Nat) (sw sh : Int) (lo : Option Addr) (n c : Nat) (L : Nat → Nat → Int) (cap p : Int) (N : Nat) (rr : Nat → Int) (X : Nat → Nat → Nat × Nat) (k : Nat) (w : World)
    (hv : Tl.Vld W H D A m ln F) (hc : Cfg W H D A sw sh n L cap p) (hm : m ≤ 9223372036854775807) (hln : ∀ i, i < m → ln i ≤ 9223372036854775807) (hL : Ldr w lo n L) (hn : n ≤ 9223372036854775807) (hN : N = (Tl.cl W sw * Tl.cl H sh).toNat) (hrr : rmb rr A = true) (hX : Cod W H D sw sh (Tl.cl W sw) N m F rr X) (hP : Plc w po m ln F) (hT : Tab w) (hk : k < N) :
    Calls Tryz.prog 24 #[Tl.frv W H D A po m d, cfv sw sh lo n c cap p, rgv rr, .int .i64 (k : Int)] w fun e w' => ∃ bo c, e = .returned (.tuple #[.slice bo (payL (X k) m).length c, .int .i64 0]) ∧ w'.ownsRow w.heap.size 5 1 (.slice bo (payL (X k) m).length c) (payL (X k) m).length ((payL (X k) m).map byt) ∧ Kept [] w w' := by
  have g := hc.gd
  obtain ⟨r0, er0⟩ : ∃ x, rr 0 = x := ⟨_, rfl⟩
  obtain ⟨r1, er1⟩ : ∃ x, rr 1 = x := ⟨_, rfl⟩
  obtain ⟨r2, er2⟩ : ∃ x, rr 2 = x := ⟨_, rfl⟩
  obtain ⟨r3, er3⟩ : ∃ x, rr 3 = x := ⟨_, rfl⟩
  have ER : rgv rr = .agg #[.int .i64 r0, .int .i64 r1, .int .i64 r2, .int .i64 r3] := by unfold rgv; rw [er0, er1, er2, er3]
  obtain ⟨w1, e1⟩ : ∃ w1, w.alloc (.cells #[.int .i64 W, .int .i64 H, .int .i64 D, .bool A, .slice po m d] 38 (0, 0)) = w1 := ⟨_, rfl⟩
  obtain ⟨w2, e2⟩ : ∃ w2, w1.alloc (.cells #[.int .i64 sw, .int .i64 sh, .slice lo n c, .int .i64 cap, .int .i64 p] 24 (0, 0)) = w2 := ⟨_, rfl⟩
  obtain ⟨w3, e3⟩ : ∃ w3, w2.alloc (.cells #[.int .i64 r0, .int .i64 r1, .int .i64 r2, .int .i64 r3] 43 (0, 0)) = w3 := ⟨_, rfl⟩
  obtain ⟨B, eB⟩ : ∃ B, w.heap.size = B := ⟨_, rfl⟩
  have z1 : w1.heap.size = B + 1 := by rw [← e1, ← eB]; exact Array.size_push _
  have z2 : w2.heap.size = B + 1 + 1 := by rw [← z1, ← e2]; exact Array.size_push _
  have k1 : Kept [] w w1 := by rw [← e1]; exact (Kept.refl [] w).alloc _
  have k2 : Kept [] w1 w2 := by rw [← e2]; exact (Kept.refl [] w1).alloc _
  have k3 : Kept [] w2 w3 := by rw [← e3]; exact (Kept.refl [] w2).alloc _
  have HF := Hid.mk ((k2.trans k3).heap (show w1.heap[B]? = some (.cells #[.int .i64 W, .int .i64 H, .int .i64 D, .bool A, .slice po m d] 38 (0, 0)) by rw [← e1, ← eB]; exact heap_alloc_new _ _) (by simp))
  have HC := Hid.mk (k3.heap (show w2.heap[B + 1]? = some (.cells #[.int .i64 sw, .int .i64 sh, .slice lo n c, .int .i64 cap, .int .i64 p] 24 (0, 0)) by rw [← e2, ← z1]; exact heap_alloc_new _ _) (by simp))
  have HR := Hid.mk (show w3.heap[B + 1 + 1]? = some (.cells #[.int .i64 r0, .int .i64 r1, .int .i64 r2, .int .i64 r3] 43 (0, 0)) by rw [← e3, ← z2]; exact heap_alloc_new _ _)
  have K3 := Hid.mk ((k1.trans k2).trans k3)
  have hE : jbE W H D A m ln F sw sh n L cap p = 0 := by
    unfold jbE
    rw [if_pos (Tl.vE_zero.2 hv)]
    exact cfE_zero.2 hc
  have C1 := Hid.mk (newJob_any W H D A po m d ln F sw sh lo n c L cap p w3 (hP.pl.keep K3.out) hm hln (hL.keep K3.out) hn (by have := hc.sd; omega) (by have := hc.sd; omega))
  rw [hE] at C1
  have C2 := Hid.mk (fun u => rungMayBe_any rr W H D A u)
  rw [ER, hrr] at C2
  have C3 := Hid.mk (fun P u (h : Tl.Gr u P W H D A sw sh (Tl.cl W sw) (Tl.cl H sh)) => Tl.count_any' P W H D sw sh _ _ A u h g.c0 g.c1 g.r0 g.r1)
  have hNi : Tl.cl W sw * Tl.cl H sh = (N : Int) := by rw [hN]; exact (Int.toNat_of_nonneg (Int.mul_nonneg (by have := g.c0; omega) (by have := g.r0; omega))).symm
  rw [hNi] at C3
  have C4 := Hid.mk (fun u P (ku : Kept [] w u) (hG : Tl.Gr u P W H D A sw sh (Tl.cl W sw) (Tl.cl H sh)) => payload_any W H D A po m d sw sh lo n c cap p P (k : Int) rr _ _ _ (X k) u (jb_ok W H D A po m d ln F sw sh lo n c cap p N rr X w hv hc.sd hN (fun q hq => rmb_tol hrr hq) hX hP hT u P ku hG k hk))
  rw [ER] at C4 ⊢
  have i1 : decide ((k : Int) < 0) = false := decide_eq_false (by omega)
  have i2 : decide ((N : Int) ≤ (k : Int)) = false := decide_eq_false (by omega)
  have i3 : decide (N ≤ k) = false := decide_eq_false (by omega)
  have i4 : ¬ (N : Int) ≤ (k : Int) := by omega
  have i5 : ¬ N ≤ k := by omega
  obtain ⟨pl, epl⟩ : ∃ x, payL (X k) m = x := ⟨_, rfl⟩
  rw [epl] at C4 ⊢
  obtain ⟨q0, q1, q2, q3, q4⟩ := cel5 HC.out
  obtain ⟨t0, t1, t2, t3, t4⟩ := cel5 HF.out
  have HBB := Hid.mk eB
  clear hv hc hm hln hL hn hN hrr hX hP hT hk g er0 er1 er2 er3 ER k1 k2 k3 hE hNi epl
  go_enter Tryz.func24, Tryz.ntmps24
  go_wp2_with (fail)
  clear e1 e2 e3 z1 z2 eB
  refine C1.out.mono ?_
  rintro e w4 (⟨_, P, rfl, k4, _, hG⟩ | ⟨h9, _⟩)
  · clear q0 q1 q2 q3 q4 t0 t1 t2 t3 t4 C1
    obtain ⟨w5, e5⟩ : ∃ x, w4.alloc (.cells #[.int .i64 W, .int .i64 H, .int .i64 D, .bool A, .slice po m d, .int .i64 sw, .int .i64 sh, .slice lo n c, .int .i64 cap, .int .i64 p, .pointer (some ⟨P, 0, none⟩)] 97 (0, 0)) = x := ⟨_, rfl⟩
    obtain ⟨J, eJ⟩ : ∃ x, w4.heap.size = x := ⟨_, rfl⟩
    have k5 : Kept [] w4 w5 := by rw [← e5]; exact (Kept.refl [] w4).alloc _
    have HJ := Hid.mk (show w5.heap[J]? = some (.cells #[.int .i64 W, .int .i64 H, .int .i64 D, .bool A, .slice po m d, .int .i64 sw, .int .i64 sh, .slice lo n c, .int .i64 cap, .int .i64 p, .pointer (some ⟨P, 0, none⟩)] 97 (0, 0)) by rw [← e5, ← eJ]; exact heap_alloc_new _ _)
    have K5 := Hid.mk (k4.trans k5)
    have HG := Hid.mk (hG.keep k5 (by simp))
    obtain ⟨t0, t1, t2, t3, t4⟩ := cel5 (K5.out.heap HF.out (by simp))
    obtain ⟨u0, u1, u2, u3⟩ := cel4 (K5.out.heap HR.out (by simp))
    clear k4 k5 hG
    subst e5 eJ
    go_wp2_with (fail)
    generalize w4.alloc (.cells #[.int .i64 W, .int .i64 H, .int .i64 D, .bool A, .slice po m d, .int .i64 sw, .int .i64 sh, .slice lo n c, .int .i64 cap, .int .i64 p, .pointer (some ⟨P, 0, none⟩)] 97 (0, 0)) = w5 at *
    generalize w4.heap.size = J at *
    refine (C2.out _).mono ?_
    rintro e w6 ⟨rfl, k6⟩
    have K6 := Hid.mk k6
    clear k6 t0 t1 t2 t3 t4 u0 u1 u2 u3
    obtain ⟨j0, j1, j2, j3, j4, j5, j6, j7, j8, j9, j10⟩ := cel11 (K6.out.heap HJ.out (by simp))
    go_wp2_with (fail)
    refine (C3.out P _ (HG.out.keep K6.out (by simp))).mono ?_
    rintro e w7 ⟨rfl, k7⟩
    have K7 := Hid.mk (K6.out.trans k7)
    clear k7 j0 j1 j2 j3 j4 j5 j6 j7 j8 j9 j10
    obtain ⟨j0, j1, j2, j3, j4, j5, j6, j7, j8, j9, j10⟩ := cel11 (K7.out.heap HJ.out (by simp))
    obtain ⟨u0, u1, u2, u3⟩ := cel4 ((K5.out.trans K7.out).heap HR.out (by simp))
    go_wp2_with (fail)
    refine (C4.out _ P (K3.out.trans (K5.out.trans K7.out)) (HG.out.keep K7.out (by simp))).mono ?_
    rintro e w8 ⟨V, rfl, ho, k8⟩
    obtain ⟨bo, cb, rfl⟩ := row_form ho
    have HO := Hid.mk (own_base ho (K3.out.trans (K5.out.trans K7.out)).size)
    have K8 := Hid.mk ((K3.out.trans (K5.out.trans K7.out)).trans k8)
    clear j0 j1 j2 j3 j4 j5 j6 j7 j8 j9 j10 u0 u1 u2 u3 ho k8
    go_wp2
    go_ret2
    exact ⟨bo, cb, rfl, HO.out, K8.out⟩
  · exact absurd rfl h9
end Go.Proofs.YthkpligodbkofaaGreatDoor.Pc

namespace Go.Proofs.YthkpligodbkofaaGreatDoor.Pc
open Go.RowKit

/-- Edits that came in. -/
def Ed (w : World) (eo : Option Addr) (n : Nat) (E : Nat → Nat → Int) : Prop := n = 0 ∨ ∃ g off, eo = some ⟨g, off, none⟩ ∧ ∀ i, i < n → ∀ j, j < 3 → w.cell? ⟨g, off + i * 3 + j, none⟩ = some (.int .i64 (E i j))
theorem Ed.keep {w w' : World} {eo : Option Addr} {n : Nat} {E : Nat → Nat → Int} (h : Ed w eo n E) (hk : Kept [] w w') : Ed w' eo n E := by
  rcases h with h | ⟨g, off, e, hc⟩
  · exact .inl h
  · exact .inr ⟨g, off, e, fun i hi j hj => Tl.cell_keep hk (hc i hi j hj) (by simp)⟩
/-- Where a slice's samples lie. -/
def pos (X Y bw wd i : Nat) : Nat := (Y + i / bw) * wd + X + i % bw
theorem pos_out {X Y bw bh wd at_ i : Nat} (hX : X + bw ≤ wd) (hb : 1 ≤ bw) (hi : i < bh * bw) (h : ¬ ((X ≤ at_ % wd ∧ at_ % wd < X + bw) ∧ Y ≤ at_ / wd ∧ at_ / wd < Y + bh)) : pos X Y bw wd i ≠ at_ := by
  intro e
  apply h
  have h1 : i % bw < bw := Nat.mod_lt _ (by omega)
  have h2 : i / bw < bh := Nat.div_lt_of_lt_mul (by rw [Nat.mul_comm]; exact hi)
  clear h hi
  unfold pos at e
  generalize i / bw = a at *
  generalize i % bw = b at *
  have hlt : X + b < wd := by omega
  have e2 : at_ = wd * (Y + a) + (X + b) := by rw [← e, Nat.mul_comm]; omega
  have h3 : at_ % wd = X + b := by rw [e2, Nat.mul_add_mod]; exact Nat.mod_eq_of_lt hlt
  have h4 : at_ / wd = Y + a := by rw [e2, Nat.mul_add_div (by omega), Nat.div_eq_of_lt hlt]; rfl
  rw [h3, h4]
  omega
/-- By the same samples in a slice it is coded the same. -/
theorem cod_swap {W H D sw sh c : Int} {N m k : Nat} {F G : Nat → Nat → Nat} {r : Nat → Int} {X XG : Nat → Nat → Nat × Nat} (hF : Cod W H D sw sh c N m F r X) (hG : Cod W H D sw sh c N m G r XG) (hk : k < N)
    (he : ∀ q, q < m → ∀ i, i < gH H sh c k * gW W sw c k q → gF W H sw sh c G k q i = gF W H sw sh c F k q i) : Cod W H D sw sh c N m G r (fun j => if j = k then X k else XG j) := by
  intro j hj q hq
  by_cases e : j = k
  · subst e
    obtain ⟨b, hb⟩ := hF j hj q hq
    refine ⟨b, ?_⟩
    simp only [if_true]
    have e9 : fz (gH H sh c j * gW W sw c j q) (gF W H sw sh c G j q) = fz (gH H sh c j * gW W sw c j q) (gF W H sw sh c F j q) := by
      funext i
      unfold fz
      by_cases hi : i < gH H sh c j * gW W sw c j q
      · rw [if_pos hi, if_pos hi, he q hq i hi]
      · rw [if_neg hi, if_neg hi]
    rw [e9]
    exact hb
  · simp only [if_neg e]
    exact hG j hj q hq
theorem lf_plc {w : World} {LB m : Nat} {bs ln : Nat → Nat} {G : Nat → Nat → Nat} (h : Lf w LB m m bs ln (fun i => Tl.ltF (G i) (ln i))) : Plc w (some ⟨LB, 0, none⟩) m ln G := by
  refine .inr ⟨LB, 0, rfl, fun i hi => ⟨some ⟨bs i, 0, none⟩, ln i + 5, ?_, by omega, .inr ⟨bs i, 0, rfl, fun j hj => ?_⟩⟩⟩
  · rw [Nat.zero_add]
    exact cellAt h.lst (by rw [List.getElem?_toArray, Tl.fl_at _ _ _ (by omega)]; unfold lpC; rw [if_pos hi])
  · rw [Nat.zero_add, (h.row i hi).at (by omega)]
    unfold Tl.ltF
    rw [if_pos hj]
end Go.Proofs.YthkpligodbkofaaGreatDoor.Pc

namespace Go.Proofs.YthkpligodbkofaaGreatDoor.Pc
open Go.RowKit

theorem ne_row {w : World} {x b t n : Nat} {cs : Array Value} {f : Nat → Nat} (h : w.heap[x]? = some (.cells cs t (0, 0))) (hr : Tl.Row w b n f) (ht : t ≠ 67) : x ∉ [b] := by
  intro hm
  simp at hm
  subst hm
  unfold Tl.Row at hr
  rw [h] at hr
  cases hr
  exact ht rfl
/-- One sample of lent planes is another. -/
theorem lf_set {w : World} {LB m q s v : Nat} {bs ln : Nat → Nat} {G : Nat → Nat → Nat} (h : Lf w LB m m bs ln (fun i => Tl.ltF (G i) (ln i))) (hq : q < m) (hs : s < ln q) :
    Lf ((w.setCell ⟨bs q, s, none⟩ (.int .u16 (v : Int))).drew) LB m m bs ln (fun i => Tl.ltF ((fun i j => if i = q ∧ j = s then v else G i j) i) (ln i)) := by
  have hk : Kept [bs q] w ((w.setCell ⟨bs q, s, none⟩ (.int .u16 (v : Int))).drew) := ((Kept.refl [bs q] w).setCell (p := ⟨bs q, s, none⟩) (.inl (by simp)) _).drew
  refine ⟨hk.heap h.lst (by have := h.gt q hq; simp; omega), fun i hi => ?_, h.mon, h.gt⟩
  by_cases e : i = q
  · subst e
    refine ((h.row i hi).set (i := s) (v := v) : Tl.Row (w.setCell ⟨bs i, s, none⟩ (.int .u16 (v : Int))) _ _ _).congr (fun j hj => ?_)
    show (if j = s then v else Tl.ltF (G i) (ln i) j) = Tl.ltF (fun j => if i = i ∧ j = s then v else G i j) (ln i) j
    unfold Tl.ltF
    by_cases e2 : j = s
    · subst e2
      rw [if_pos rfl, if_pos hs]
      dsimp only
      rw [if_pos ⟨rfl, rfl⟩]
    · rw [if_neg e2]
      by_cases h2 : j < ln i
      · rw [if_pos h2, if_pos h2]
        dsimp only
        rw [if_neg (fun hh => e2 hh.2)]
      · rw [if_neg h2, if_neg h2]
  · have hne : bs i ∉ [bs q] := by
      simp
      rcases Nat.lt_or_ge i q with h1 | h1
      · have := h.mon i q h1 hq; omega
      · have := h.mon q i (by omega) hi; omega
    refine ((h.row i hi).keep hk hne).congr (fun j hj => ?_)
    show Tl.ltF (G i) (ln i) j = Tl.ltF (fun j => if i = q ∧ j = s then v else G i j) (ln i) j
    unfold Tl.ltF
    by_cases h2 : j < ln i
    · rw [if_pos h2, if_pos h2]
      dsimp only
      rw [if_neg (fun hh => e hh.1)]
    · rw [if_neg h2, if_neg h2]

set_option maxHeartbeats 16000000 in
set_option maxRecDepth 1000000 in
theorem apart_yes (W H D : Int) (A : Bool) (po : Option Addr) (m d : Nat) (ln : Nat → Nat) (F : Nat → Nat → Nat) (sw sh : Int) (lo : Option Addr) (n c : Nat) (L : Nat → Nat → Int) (cap p : Int) (eo : Option Addr) (en ec : Nat) (E : Nat → Nat → Int) (w : World) (hT : Tab w)
    (hv : Tl.Vld W H D A m ln F) (hc : Cfg W H D A sw sh n L cap p) (hP : Plc w po m ln F) (hF : ∀ i, i < m → ∀ j, j < ln i → F i j < 65536) (hL : Ldr w lo n L) (hE : Ed w eo en E) (e1 : 1 ≤ en) (e2 : en ≤ 9000000000000000000) (hEb : ∀ i, i < en → ∀ j, j < 3 → -9223372036854775808 ≤ E i j ∧ E i j ≤ 9223372036854775807) :
    Calls Tryz.prog 5 #[Tl.frv W H D A po m d, cfv sw sh lo n c cap p, .slice eo en ec] w fun e w' => e = .returned (.bool true) ∧ Kept [] w w' := by
  have g := hc.gd
  have hm4 : m ≤ 4 := by rw [hv.num]; exact Tl.np_hi A
  have hm3 : 3 ≤ m := by rw [hv.num]; exact Tl.np_lo A
  have hld := lmb_yes.1 hc.ld
  have hn9 : n ≤ 9223372036854775807 := by omega
  have hcr : 1 ≤ Tl.cl W sw * Tl.cl H sh ∧ Tl.cl W sw * Tl.cl H sh ≤ 65536 := by
    have h1 : 1 * 1 ≤ Tl.cl W sw * Tl.cl H sh := Int.mul_le_mul g.c0 g.r0 (by omega) (by have := g.c0; omega)
    have h2 : Tl.cl W sw * Tl.cl H sh ≤ 256 * 256 := Int.mul_le_mul g.c1 g.r1 (by have := g.r0; omega) (by omega)
    omega
  obtain ⟨N, eN⟩ : ∃ N : Nat, Tl.cl W sw * Tl.cl H sh = (N : Int) := ⟨_, (Int.toNat_of_nonneg (by omega)).symm⟩
  have hNN : N = (Tl.cl W sw * Tl.cl H sh).toNat := by rw [eN]; rfl
  have hN1 : 1 ≤ N := by omega
  have hk0 := pick_lo (E 0 2) (N : Int) (by omega)
  have hk1 := pick_hi (E 0 2) (N : Int) (by omega)
  obtain ⟨k, ek⟩ : ∃ k : Nat, pick (E 0 2) (N : Int) = (k : Int) := ⟨_, (Int.toNat_of_nonneg hk0).symm⟩
  have hkN : k < N := by omega
  have hln : ∀ i, i < m → ln i ≤ 4194304 := fun i hi => by
    have h1 := hv.len i hi
    have h2 := wp_tot hv.shp (q := i) (by rw [← hv.num]; exact hi)
    omega
  have hln9 : ∀ i, i < m → ln i ≤ 9223372036854775807 := fun i hi => by have := hln i hi; omega
  obtain ⟨X, hX⟩ := cod_ex (N := N) hv g (by omega) (L 0)
  obtain ⟨w1, q1⟩ : ∃ w1, w.alloc (.cells #[.int .i64 W, .int .i64 H, .int .i64 D, .bool A, .slice po m d] 38 (0, 0)) = w1 := ⟨_, rfl⟩
  obtain ⟨w2, q2⟩ : ∃ w2, w1.alloc (.cells #[.int .i64 sw, .int .i64 sh, .slice lo n c, .int .i64 cap, .int .i64 p] 24 (0, 0)) = w2 := ⟨_, rfl⟩
  obtain ⟨B, eB⟩ : ∃ B, w.heap.size = B := ⟨_, rfl⟩
  have z1 : w1.heap.size = B + 1 := by rw [← q1, ← eB]; exact Array.size_push _
  have k1 : Kept [] w w1 := by rw [← q1]; exact (Kept.refl [] w).alloc _
  have k2 : Kept [] w1 w2 := by rw [← q2]; exact (Kept.refl [] w1).alloc _
  have HS := Hid.mk (k2.heap (show w1.heap[B]? = some (.cells #[.int .i64 W, .int .i64 H, .int .i64 D, .bool A, .slice po m d] 38 (0, 0)) by rw [← q1, ← eB]; exact heap_alloc_new _ _) (by simp))
  have HC := Hid.mk (show w2.heap[B + 1]? = some (.cells #[.int .i64 sw, .int .i64 sh, .slice lo n c, .int .i64 cap, .int .i64 p] 24 (0, 0)) by rw [← q2, ← z1]; exact heap_alloc_new _ _)
  have K2 := Hid.mk (k1.trans k2)
  have HB := Hid.mk eB
  have C0 := Hid.mk (pshown_any w2 (hT.kept K2.out (by simp)))
  have C1 := Hid.mk (fun u (ku : Kept [] w u) => rValid_any W H D A sw sh lo n c L cap p u (hL.keep ku) hn9)
  rw [cfE_zero.2 hc] at C1
  have C2 := Hid.mk (fun u (ku : Kept [] w u) => Tl.rvalid_any W H D A po m d ln F u (hP.pl.keep ku) (by omega) hln9 hF)
  rw [Tl.vE_zero.2 hv] at C2
  have C3 := Hid.mk (fun u => rCount_any W H D sw sh A u hc.shp hc.sd)
  rw [eN] at C3
  have CP := Hid.mk (fun a b u (h1 : -9223372036854775808 ≤ a) (h2 : a ≤ 9223372036854775807) (h3 : (0 : Int) < b) => pplace_any a b u h1 h2 h3)
  have CK := Hid.mk (fun u => pplace_any (E 0 2) (N : Int) u (hEb 0 (by omega) 2 (by decide)).1 (hEb 0 (by omega) 2 (by decide)).2 (by omega))
  rw [ek] at CK
  have C4 := Hid.mk (fun u (ku : Kept [] w u) => plend_any W H D A po m d ln F u (hP.pl.keep ku) hm4 (fun i hi => by have := hln i hi; omega))
  have C5 := Hid.mk (fun u => rRect_any W H D sw sh (Tl.cl W sw) (Tl.cl H sh) A (k : Int) u g rfl (by omega) (by omega))
  have hx := Tl.sX_in g (k : Int)
  have hy := Tl.sY_in g (by omega : (0 : Int) ≤ k) (by omega : (k : Int) < Tl.cl W sw * Tl.cl H sh)
  have hwh := Tl.sR_whl g (by omega : (0 : Int) ≤ k) (by omega : (k : Int) < Tl.cl W sw * Tl.cl H sh)
  have CH : Hid (∀ q, q < m → ∀ u, Calls Tryz.prog 23 #[Tl.shv W H D A, .int .i64 (q : Int), Tl.rcv (Tl.sX (Tl.cl W sw) sw (k : Int)) (Tl.sY (Tl.cl W sw) sh (k : Int)) (min sw (W - Tl.sX (Tl.cl W sw) sw (k : Int))) (min sh (H - Tl.sY (Tl.cl W sw) sh (k : Int)))] u fun e w' => e = .returned (.tuple #[Tl.rcv (gX W sw (Tl.cl W sw) k q : Int) (gY sh (Tl.cl W sw) k : Int) (gW W sw (Tl.cl W sw) k q : Int) (gH H sh (Tl.cl W sw) k : Int), .int .i64 0]) ∧ Kept [] u w') := Hid.mk (fun q hq u => by
    obtain ⟨p1, p2, p3, p4, _⟩ := part_in g (k := k) (by omega) q
    have h9 := Tl.halfR_any W H D (q : Int) (Tl.sX (Tl.cl W sw) sw (k : Int)) (Tl.sY (Tl.cl W sw) sh (k : Int)) (min sw (W - Tl.sX (Tl.cl W sw) sw (k : Int))) (min sh (H - Tl.sY (Tl.cl W sw) sh (k : Int))) A u (by have := g.w1; omega) (by have := g.h1; omega)
    rw [show Tl.hE W H D (q : Int) (Tl.sX (Tl.cl W sw) sw (k : Int)) (Tl.sY (Tl.cl W sw) sh (k : Int)) (min sw (W - Tl.sX (Tl.cl W sw) sw (k : Int))) (min sh (H - Tl.sY (Tl.cl W sw) sh (k : Int))) A = 0 by unfold Tl.hE; rw [if_pos (Tl.shE_ok hv.shp), if_pos ⟨⟨by omega, by rw [← hv.num]; omega⟩, hwh⟩], if_pos rfl] at h9
    rw [p1, p2, p3, p4]
    exact h9)
  have CS : Hid (∀ q, q < m → ∀ u, Calls Tryz.prog 22 #[Tl.shv W H D A, .int .i64 (q : Int)] u fun e w' => e = .returned (.tuple #[.int .i64 ((Tl.wp W (q : Int)).toNat : Int), .int .i64 H, .int .i64 0]) ∧ Kept [] u w') := Hid.mk (fun q hq u => by
    have h9 := Tl.size_any W H D (q : Int) A u
    have hw0 := Tl.wp_lo (q : Int) hv.shp.1.1
    rw [show Tl.szE W H D (q : Int) A = 0 by unfold Tl.szE; rw [if_pos (Tl.shE_ok hv.shp), if_pos ⟨by omega, by rw [← hv.num]; omega⟩], if_pos rfl, if_pos rfl] at h9
    rw [Int.toNat_of_nonneg (by omega)]
    exact h9)
  have CA := Hid.mk (fun po' d' G XX u (hvG : Tl.Vld W H D A m ln G) (hXX : Cod W H D sw sh (Tl.cl W sw) N m G (L 0) XX) (hPG : Plc u po' m ln G) (hLu : Ldr u lo n L) (hTu : Tab u) => Payload_ok W H D A po' m d' ln G sw sh lo n c L cap p N (L 0) XX k u hvG hc (by omega) hln9 hLu hn9 hNN (hld.2 0 (by omega)) hXX hPG hTu hkN)
  have HV := Hid.mk hv
  have HG := Hid.mk g
  have HX := Hid.mk hX
  have HP := Hid.mk hP
  have HLd := Hid.mk hL
  have HT := Hid.mk hT
  have HE := Hid.mk hE
  have HEB := Hid.mk hEb
  have HLN := Hid.mk hln
  have HM := Hid.mk (And.intro hm3 hm4)
  have HEN := Hid.mk (And.intro e1 e2)
  have HKN := Hid.mk hkN
  have HN1 : Hid (0 < n) := Hid.mk (by omega)
  have HEN2 := Hid.mk eN
  obtain ⟨rx, erx⟩ : ∃ x, Tl.sX (Tl.cl W sw) sw (k : Int) = x := ⟨_, rfl⟩
  obtain ⟨ry, ery⟩ : ∃ x, Tl.sY (Tl.cl W sw) sh (k : Int) = x := ⟨_, rfl⟩
  rw [erx, ery] at C5 CH
  obtain ⟨rw', erw⟩ : ∃ x, min sw (W - rx) = x := ⟨_, rfl⟩
  obtain ⟨rh, erh⟩ : ∃ x, min sh (H - ry) = x := ⟨_, rfl⟩
  rw [erw, erh] at C5 CH
  obtain ⟨ge, eoff, rfl, hec⟩ : ∃ ge eoff, eo = some ⟨ge, eoff, none⟩ ∧ ∀ i, i < en → ∀ j, j < 3 → w.cell? ⟨ge, eoff + i * 3 + j, none⟩ = some (.int .i64 (E i j)) := by
    rcases hE with h | h
    · omega
    · exact h
  have HEC := Hid.mk (fun u (ku : Kept [] w u) i j (hi : i < en) (hj : j < 3) => Tl.cell_keep ku (hec i hi j hj) (by simp))
  obtain ⟨a0, a1, a2, a3, a4⟩ := cel5 HC.out
  obtain ⟨t0, t1, t2, t3, t4⟩ := cel5 HS.out
  have ie : ((en : Int) == 0) = false := by simp; omega
  clear hT hv hc hP hF hL hE e1 e2 hEb g hm4 hm3 hld hn9 hcr eN hNN hN1 hk0 hk1 ek hkN hln hln9 hX k1 k2 hx hy hwh erx ery erw erh hec
  go_enter Tryz.func5, Tryz.ntmps5
  go_wp2_with (fail)
  clear q1 q2 z1 eB a0 a1 a2 a3 a4 t0 t1 t2 t3 t4
  refine C0.out.mono ?_
  rintro e w3 ⟨rfl, k3⟩
  have K3 := Hid.mk k3
  clear k3 C0
  obtain ⟨a0, a1, a2, a3, a4⟩ := cel5 (K3.out.heap HC.out (by simp))
  obtain ⟨t0, t1, t2, t3, t4⟩ := cel5 (K3.out.heap HS.out (by simp))
  go_wp2_with (fail)
  refine (C1.out _ (K2.out.trans K3.out)).mono ?_
  rintro e w4 ⟨rfl, k4⟩
  have K4 := Hid.mk (K3.out.trans k4)
  clear k4 a0 a1 a2 a3 a4 t0 t1 t2 t3 t4
  obtain ⟨t0, t1, t2, t3, t4⟩ := cel5 (K4.out.heap HS.out (by simp))
  go_wp2_with (fail)
  refine (C2.out _ (K2.out.trans K4.out)).mono ?_
  rintro e w5 ⟨rfl, k5⟩
  have K5 := Hid.mk (K4.out.trans k5)
  clear k5 t0 t1 t2 t3 t4
  obtain ⟨a0, a1, a2, a3, a4⟩ := cel5 (K5.out.heap HC.out (by simp))
  obtain ⟨t0, t1, t2, t3, t4⟩ := cel5 (K5.out.heap HS.out (by simp))
  go_wp2_with (fail)
  refine (C3.out _).mono ?_
  rintro e w6 ⟨rfl, k6⟩
  have K6 := Hid.mk (K5.out.trans k6)
  clear k6 a0 a1 a2 a3 a4 t0 t1 t2 t3 t4 C1 C2 C3
  have ec2 : w6.cell? ⟨ge, eoff + 2, none⟩ = some (.int .i64 (E 0 2)) := by
    have h9 := HEC.out w6 (K2.out.trans K6.out) 0 2 (by have := HEN.out; omega) (by decide)
    simpa using h9
  have ip : (0 : Int) < (en : Int) := by have := HEN.out; omega
  go_wp2_with (fail)
  refine (CK.out _).mono ?_
  rintro e w' ⟨rfl, hw'⟩
  obtain rfl := hw'.symm
  clear hw' ec2 CK
  obtain ⟨t0, t1, t2, t3, t4⟩ := cel5 (K6.out.heap HS.out (by simp))
  go_wp2_with (fail)
  refine (C4.out _ (K2.out.trans K6.out)).mono ?_
  rintro e w7 ⟨LB, bs, vo, vc, rfl, hLB, hLf, k7⟩
  have K7 := Hid.mk (K6.out.trans k7)
  clear t0 t1 t2 t3 t4 C4
  have kX : Kept [] w7 (w7.alloc (.cells #[.int .i64 W, .int .i64 H, .int .i64 D, .bool A, .slice (some ⟨LB, 0, none⟩) m (m + 2), .slice (some ⟨LB, 0, none⟩) (m + 2) (m + 2), .slice vo m vc] 57 (0, 0))) := (Kept.refl [] w7).alloc _
  have hX1 : (w7.alloc (.cells #[.int .i64 W, .int .i64 H, .int .i64 D, .bool A, .slice (some ⟨LB, 0, none⟩) m (m + 2), .slice (some ⟨LB, 0, none⟩) (m + 2) (m + 2), .slice vo m vc] 57 (0, 0))).heap[w7.heap.size]? = some (.cells #[.int .i64 W, .int .i64 H, .int .i64 D, .bool A, .slice (some ⟨LB, 0, none⟩) m (m + 2), .slice (some ⟨LB, 0, none⟩) (m + 2) (m + 2), .slice vo m vc] 57 (0, 0)) := heap_alloc_new _ _
  obtain ⟨⟨x0, x1, x2, x3, x4, x5, x6⟩, hz9⟩ := Tl.seven hX1
  clear hz9
  have kG : Kept [] w7 ((w7.alloc (.cells #[.int .i64 W, .int .i64 H, .int .i64 D, .bool A, .slice (some ⟨LB, 0, none⟩) m (m + 2), .slice (some ⟨LB, 0, none⟩) (m + 2) (m + 2), .slice vo m vc] 57 (0, 0))).alloc (.cells #[.int .i64 W, .int .i64 H, .int .i64 D, .bool A, .slice (some ⟨LB, 0, none⟩) m (m + 2)] 38 (0, 0))) := kX.alloc _
  have hG1 : ((w7.alloc (.cells #[.int .i64 W, .int .i64 H, .int .i64 D, .bool A, .slice (some ⟨LB, 0, none⟩) m (m + 2), .slice (some ⟨LB, 0, none⟩) (m + 2) (m + 2), .slice vo m vc] 57 (0, 0))).alloc (.cells #[.int .i64 W, .int .i64 H, .int .i64 D, .bool A, .slice (some ⟨LB, 0, none⟩) m (m + 2)] 38 (0, 0))).heap[w7.heap.size + 1]? = some (.cells #[.int .i64 W, .int .i64 H, .int .i64 D, .bool A, .slice (some ⟨LB, 0, none⟩) m (m + 2)] 38 (0, 0)) := by
    have h9 := heap_alloc_new (w7.alloc (.cells #[.int .i64 W, .int .i64 H, .int .i64 D, .bool A, .slice (some ⟨LB, 0, none⟩) m (m + 2), .slice (some ⟨LB, 0, none⟩) (m + 2) (m + 2), .slice vo m vc] 57 (0, 0))) (.cells #[.int .i64 W, .int .i64 H, .int .i64 D, .bool A, .slice (some ⟨LB, 0, none⟩) m (m + 2)] 38 (0, 0))
    rwa [World.size_alloc] at h9
  have HG1 := Hid.mk hG1
  have KG := Hid.mk kG
  obtain ⟨a0, a1, a2, a3, a4⟩ := cel5 ((K7.out.trans kG).heap HC.out (by simp))
  obtain ⟨t0, t1, t2, t3, t4⟩ := cel5 ((K7.out.trans kG).heap HS.out (by simp))
  clear kX hX1 kG hG1 k7
  have HLF := Hid.mk (hLf.keep0 KG.out)
  have HLBw : Hid (w6.heap.size ≤ LB) := Hid.mk hLB
  clear hLf hLB
  go_wp2_with (fail)
  generalize (w7.alloc (.cells #[.int .i64 W, .int .i64 H, .int .i64 D, .bool A, .slice (some ⟨LB, 0, none⟩) m (m + 2), .slice (some ⟨LB, 0, none⟩) (m + 2) (m + 2), .slice vo m vc] 57 (0, 0))).alloc (.cells #[.int .i64 W, .int .i64 H, .int .i64 D, .bool A, .slice (some ⟨LB, 0, none⟩) m (m + 2)] 38 (0, 0)) = w8 at *
  refine (C5.out _).mono ?_
  rintro e w9 ⟨rfl, k9⟩
  have K9 := Hid.mk (K7.out.trans (KG.out.trans k9))
  have kR : Kept [] w9 (w9.alloc (.cells #[.int .i64 rx, .int .i64 ry, .int .i64 rw', .int .i64 rh] 60 (0, 0))) := (Kept.refl [] w9).alloc _
  have HR1 := Hid.mk (show (w9.alloc (.cells #[.int .i64 rx, .int .i64 ry, .int .i64 rw', .int .i64 rh] 60 (0, 0))).heap[w9.heap.size]? = some (.cells #[.int .i64 rx, .int .i64 ry, .int .i64 rw', .int .i64 rh] 60 (0, 0)) from heap_alloc_new _ _)
  have KA := Hid.mk (K9.out.trans kR)
  have HGA := Hid.mk ((k9.trans kR).heap HG1.out (by simp))
  have HLA := Hid.mk (HLF.out.keep0 (k9.trans kR))
  clear a0 a1 a2 a3 a4 t0 t1 t2 t3 t4 x0 x1 x2 x3 x4 x5 x6 kR k9 C5
  go_wp2
  generalize w9.alloc (.cells #[.int .i64 rx, .int .i64 ry, .int .i64 rw', .int .i64 rh] 60 (0, 0)) = wA at *
  generalize w9.heap.size = R1 at *
  generalize w7.heap.size + 1 = G1 at *
  have HS1 := Hid.mk (KA.out.heap HS.out (by simp))
  have HC1 := Hid.mk (KA.out.heap HC.out (by simp))
  obtain ⟨WD, eWD⟩ : ∃ f : Nat → Nat, f = fun (q : Nat) => (Tl.wp W (q : Int)).toNat := ⟨_, rfl⟩
  obtain ⟨XX, eXX⟩ : ∃ f : Nat → Nat, f = fun (q : Nat) => gX W sw (Tl.cl W sw) k q := ⟨_, rfl⟩
  obtain ⟨YY, eYY⟩ : ∃ y : Nat, y = gY sh (Tl.cl W sw) k := ⟨_, rfl⟩
  obtain ⟨BW, eBW⟩ : ∃ f : Nat → Nat, f = fun (q : Nat) => gW W sw (Tl.cl W sw) k q := ⟨_, rfl⟩
  obtain ⟨BH, eBH⟩ : ∃ y : Nat, y = gH H sh (Tl.cl W sw) k := ⟨_, rfl⟩
  have CS' : Hid (∀ q, q < m → ∀ u, Calls Tryz.prog 22 #[Tl.shv W H D A, .int .i64 (q : Int)] u fun e w' => e = .returned (.tuple #[.int .i64 (WD q : Int), .int .i64 H, .int .i64 0]) ∧ Kept [] u w') := Hid.mk (by rw [eWD]; exact CS.out)
  have CH' : Hid (∀ q, q < m → ∀ u, Calls Tryz.prog 23 #[Tl.shv W H D A, .int .i64 (q : Int), Tl.rcv rx ry rw' rh] u fun e w' => e = .returned (.tuple #[Tl.rcv (XX q : Int) (YY : Int) (BW q : Int) (BH : Int), .int .i64 0]) ∧ Kept [] u w') := Hid.mk (by rw [eXX, eYY, eBW, eBH]; exact CH.out)
  have GEO : Hid (∀ q, q < m → XX q + BW q ≤ WD q ∧ 1 ≤ BW q ∧ 1 ≤ WD q ∧ WD q ≤ 4096 ∧ ln q ≤ 4194304 ∧ 1 ≤ ln q ∧ YY ≤ 4096 ∧ BH ≤ 4096) := Hid.mk (fun q hq => by
    have hv := HV.out
    obtain ⟨p1, p2, p3, p4, p5, p6, p7, p8⟩ := part_in HG.out (k := k) (by have := HEN2.out; have := HKN.out; omega) q
    have hw0 := Tl.wp_lo (q : Int) hv.shp.1.1
    have hw1 := Tl.wp_hi (q : Int) hv.shp.1.1
    have h1 := hv.len q hq
    have h2 := HLN.out q hq
    have h3 := hv.shp
    have h4 : 1 * 1 ≤ Tl.wp W (q : Int) * H := Int.mul_le_mul (by omega) (by have := h3.2.1.1; omega) (by omega) (by omega)
    rw [eXX, eYY, eBW, eBH, eWD]
    simp only []
    have h5 := h3.1.2
    have h6 := h3.2.1.2
    omega)
  have EGE := Hid.mk (And.intro eWD (And.intro eXX (And.intro eYY (And.intro eBW eBH))))
  clear CS CH eWD eXX eYY eBW eBH
  have hFt : Hid (∀ q, q < m → ∀ j, j < ln q → F q j ≤ Tl.mx D) := Hid.mk HV.out.top
  go_loopw [13] (fun i wr => ∃ t : Nat, t ≤ en ∧ i = .int .i64 (t : Int) ∧ Hid (∃ G : Nat → Nat → Nat, Lf wr LB m m bs ln (fun i => Tl.ltF (G i) (ln i)) ∧ (∀ q, q < m → ∀ j, j < ln q → G q j ≤ Tl.mx D) ∧ (∀ q, q < m → ∀ i, i < BH * BW q → G q (pos (XX q) YY (BW q) (WD q) i) = F q (pos (XX q) YY (BW q) (WD q) i)) ∧ Kept [] w wr ∧ wr.heap[B]? = some (.cells #[.int .i64 W, .int .i64 H, .int .i64 D, .bool A, .slice po m d] 38 (0, 0)) ∧ wr.heap[B + 1]? = some (.cells #[.int .i64 sw, .int .i64 sh, .slice lo n c, .int .i64 cap, .int .i64 p] 24 (0, 0)) ∧ wr.heap[G1]? = some (.cells #[.int .i64 W, .int .i64 H, .int .i64 D, .bool A, .slice (some ⟨LB, 0, none⟩) m (m + 2)] 38 (0, 0)) ∧ wr.heap[R1]? = some (.cells #[.int .i64 rx, .int .i64 ry, .int .i64 rw', .int .i64 rh] 60 (0, 0)))) (fun i _ => en - (intOf i).toNat)
  case atStart => exact ⟨0, Nat.zero_le _, rfl, Hid.mk ⟨F, HLA.out, hFt.out, fun _ _ _ _ => rfl, K2.out.trans KA.out, HS1.out, HC1.out, HGA.out, HR1.out⟩⟩
  case round =>
    obtain ⟨t, ht, rfl, HI⟩ := hrel
    obtain ⟨G, hI⟩ := HI.out
    have HI := Hid.mk hI
    clear hI
    by_cases hlt : t < en
    · have it : (t : Int) < (en : Int) := by omega
      have HTL := Hid.mk hlt
      have KWr := Hid.mk HI.out.2.2.2.1
      have hq0 := pick_lo (E t 0) (m : Int) (by have := HM.out; omega)
      have hq1 := pick_hi (E t 0) (m : Int) (by have := HM.out; omega)
      obtain ⟨q, eq⟩ : ∃ q : Nat, pick (E t 0) (m : Int) = (q : Int) := ⟨_, (Int.toNat_of_nonneg hq0).symm⟩
      have HQ : Hid (q < m) := Hid.mk (by omega)
      have D0 := Hid.mk (fun u => CP.out (E t 0) (m : Int) u (HEB.out t hlt 0 (by decide)).1 (HEB.out t hlt 0 (by decide)).2 (by have := HM.out; omega))
      rw [eq] at D0
      have geo := GEO.out q HQ.out
      obtain ⟨gp, offp, pb, pofs, cq, hpo, hpc, hpcap, hprd⟩ := HP.out.at HQ.out (by omega)
      subst hpo
      have HPC := Hid.mk (fun u (ku : Kept [] w u) => Tl.cell_keep ku hpc (by simp))
      clear hpc hpcap hprd
      have hs0 := pick_lo (E t 1) (ln q : Int) (by omega)
      have hs1 := pick_hi (E t 1) (ln q : Int) (by omega)
      obtain ⟨s, es⟩ : ∃ s : Nat, pick (E t 1) (ln q : Int) = (s : Int) := ⟨_, (Int.toNat_of_nonneg hs0).symm⟩
      have HSL : Hid (s < ln q) := Hid.mk (by omega)
      have D1 := Hid.mk (fun u => CP.out (E t 1) (ln q : Int) u (HEB.out t hlt 1 (by decide)).1 (HEB.out t hlt 1 (by decide)).2 (by omega))
      rw [es] at D1
      have RE := Hid.mk (fun u (ku : Kept [] wr u) => And.intro (show u.cell? ⟨ge, eoff + t * 3, none⟩ = some (.int .i64 (E t 0)) from HEC.out u (KWr.out.trans ku) t 0 HTL.out (by decide)) (And.intro (HEC.out u (KWr.out.trans ku) t 1 HTL.out (by decide)) (HEC.out u (KWr.out.trans ku) t 2 HTL.out (by decide))))
      have RF := Hid.mk (fun u (ku : Kept [] wr u) => cel5 (ku.heap HI.out.2.2.2.2.1 (by simp)))
      obtain ⟨y0, ey0⟩ : ∃ x, E t 0 = x := ⟨_, rfl⟩
      obtain ⟨y1, ey1⟩ : ∃ x, E t 1 = x := ⟨_, rfl⟩
      obtain ⟨y2, ey2⟩ : ∃ x, E t 2 = x := ⟨_, rfl⟩
      have HY2 := Hid.mk (HEB.out t hlt 2 (by decide))
      have EY2 := Hid.mk ey2
      rw [ey0, ey1, ey2] at RE
      rw [ey0] at D0
      rw [ey1] at D1
      rw [ey2] at HY2
      have c0 := fun q : KW wr => (RE.out q.u q.h).1
      have c4 := fun q : KW wr => (RF.out q.u q.h).2.2.2.2
      have Q0 : Hid (∀ z : KW wr, Calls Tryz.prog 16 #[.int .i64 y0, .int .i64 (m : Int)] z.u fun r w' => r = .returned (.int .i64 (q : Int)) ∧ ∃ z' : KW wr, w' = z'.u) := Hid.mk fun z => (D0.out z.u).mono fun r w' ⟨h1, h2⟩ => ⟨h1, z, h2⟩
      have NE : Nonempty (KW wr) := ⟨⟨wr, Kept.refl _ _⟩⟩
      clear hq0 hq1 eq hs0 hs1 es ey0 ey1 ey2 geo hlt ht
      go_wp2_with (fail)
      refine wp_region_kept (by kernel_rfl) (by kernel_rfl) ?_
      repeat (go_big_quiet_step ((go_at_call 16; exact Q0.out _)))
      refine wpQuiet_nil ?_
      rintro wx ⟨z, hz⟩
      obtain ⟨w_, k_⟩ := z
      obtain rfl : wx = w_ := hz
      have K1 := Hid.mk k_
      clear k_ c0 c4
      obtain ⟨t0, t1, t2, t3, t4⟩ := RF.out wx K1.out
      go_wp2_with (fail)
      refine (CS'.out q HQ.out _).mono ?_
      rintro e wy ⟨rfl, ky⟩
      have Ky := Hid.mk (K1.out.trans ky)
      clear ky t0 t1 t2 t3 t4
      obtain ⟨t0, t1, t2, t3, t4⟩ := RF.out wy Ky.out
      obtain ⟨r0, r1, r2, r3⟩ := cel4 (Ky.out.heap HI.out.2.2.2.2.2.2.2 (by simp))
      go_wp2_with (fail)
      refine (CH'.out q HQ.out _).mono ?_
      rintro e wz ⟨rfl, kz⟩
      have Kz := Hid.mk (Ky.out.trans kz)
      clear kz t0 t1 t2 t3 t4 r0 r1 r2 r3
      have geo := GEO.out q HQ.out
      have HGQ := Hid.mk geo
      have HXQ : Hid (XX q = XX q ∧ BW q = BW q) := Hid.mk ⟨rfl, rfl⟩
      obtain ⟨xq, exq⟩ : ∃ x, XX q = x := ⟨_, rfl⟩
      obtain ⟨bwq, ebw⟩ : ∃ x, BW q = x := ⟨_, rfl⟩
      obtain ⟨wdq, ewd⟩ : ∃ x, WD q = x := ⟨_, rfl⟩
      obtain ⟨lnq, eln⟩ : ∃ x, ln q = x := ⟨_, rfl⟩
      rw [exq, ebw, ewd, eln] at HGQ geo
      rw [exq, ebw, ewd]
      rw [eln] at D1 HSL HPC
      have EQ := Hid.mk (And.intro exq (And.intro ebw (And.intro ewd eln)))
      obtain ⟨x, ex⟩ : ∃ x, s % wdq = x := ⟨_, rfl⟩
      obtain ⟨y, ey⟩ : ∃ y, s / wdq = y := ⟨_, rfl⟩
      have EXY := Hid.mk (And.intro ex ey)
      have hxb : x < 4096 := by rw [← ex]; exact Nat.lt_of_lt_of_le (Nat.mod_lt _ (by omega)) (by omega)
      have hyb : y ≤ 4194304 := by rw [← ey]; exact Nat.le_trans (Nat.div_le_self _ _) (by have := HSL.out; omega)
      have hx1 : Int.tmod (s : Int) (wdq : Int) = (x : Int) := by rw [Int.tmod_eq_emod_of_nonneg (by omega), ← ex]; rfl
      have hx2 : (s : Int) % (wdq : Int) = (x : Int) := by rw [← ex]; rfl
      have hy1 : Int.tdiv (s : Int) (wdq : Int) = (y : Int) := by rw [Int.tdiv_eq_ediv_of_nonneg (by omega), ← ey]; rfl
      have hy2 : (s : Int) / (wdq : Int) = (y : Int) := by rw [← ey]; rfl
      have nz : ¬ (wdq : Int) = 0 := by omega
      have nzb : ((wdq : Int) == 0) = false := by simp; omega
      have i1 : decide ((wdq : Int) < 1) = false := decide_eq_false (by omega)
      obtain ⟨xe, exe⟩ : ∃ x, xq + bwq = x := ⟨_, rfl⟩
      obtain ⟨ye, eye⟩ : ∃ x, YY + BH = x := ⟨_, rfl⟩
      have HEE := Hid.mk (And.intro exe eye)
      have hxy : (x ≤ 100000000 ∧ y ≤ 100000000) ∧ xe ≤ 100000000 ∧ ye ≤ 100000000 := by omega
      have HBD := Hid.mk hxy
      clear hx1 hx2 hy1 hy2 nz nzb hxb hyb ex ey exe eye exq ebw ewd eln geo hxy
      have kP : Kept [] wz (wz.alloc (.cells #[.int .i64 (xq : Int), .int .i64 (YY : Int), .int .i64 (bwq : Int), .int .i64 (BH : Int)] 60 (0, 0))) := (Kept.refl [] wz).alloc _
      have hP1 := show (wz.alloc (.cells #[.int .i64 (xq : Int), .int .i64 (YY : Int), .int .i64 (bwq : Int), .int .i64 (BH : Int)] 60 (0, 0))).heap[wz.heap.size]? = some (.cells #[.int .i64 (xq : Int), .int .i64 (YY : Int), .int .i64 (bwq : Int), .int .i64 (BH : Int)] 60 (0, 0)) from heap_alloc_new _ _
      have KP := Hid.mk (Kz.out.trans kP)
      have HP1 := Hid.mk hP1
      clear kP hP1
      go_wp2_with (fail)
      generalize wz.alloc (.cells #[.int .i64 (xq : Int), .int .i64 (YY : Int), .int .i64 (bwq : Int), .int .i64 (BH : Int)] 60 (0, 0)) = wP at *
      generalize wz.heap.size = P1 at *
      have c1 := fun z : KW wP => (RE.out z.u (KP.out.trans z.h)).2.1
      have c4 := fun z : KW wP => (RF.out z.u (KP.out.trans z.h)).2.2.2.2
      have cp := fun z : KW wP => HPC.out z.u ((KWr.out.trans KP.out).trans z.h)
      have Q1 : Hid (∀ z : KW wP, Calls Tryz.prog 16 #[.int .i64 y1, .int .i64 (lnq : Int)] z.u fun r w' => r = .returned (.int .i64 (s : Int)) ∧ ∃ z' : KW wP, w' = z'.u) := Hid.mk fun z => (D1.out z.u).mono fun r w' ⟨h1, h2⟩ => ⟨h1, z, h2⟩
      have NE2 : Nonempty (KW wP) := ⟨⟨wP, Kept.refl _ _⟩⟩
      have iq : (q : Int) < (m : Int) := by have := HQ.out; omega
      refine wp_region_kept (by kernel_rfl) (by kernel_rfl) ?_
      repeat (go_big_quiet_step ((go_at_call 16; exact Q1.out _)))
      refine wpQuiet_nil ?_
      rintro wx2 ⟨z, hz⟩
      obtain ⟨w_, k_⟩ := z
      obtain rfl : wx2 = w_ := hz
      have K2x := Hid.mk k_
      clear k_ c1 c4 cp i1
      obtain ⟨p0, p1, p2, p3⟩ := cel4 (K2x.out.heap HP1.out (by simp))
      have hx1 : Int.tmod (s : Int) (wdq : Int) = (x : Int) := by rw [Int.tmod_eq_emod_of_nonneg (by omega), ← EXY.out.1]; rfl
      have hx2 : (s : Int) % (wdq : Int) = (x : Int) := by rw [← EXY.out.1]; rfl
      have hy1 : Int.tdiv (s : Int) (wdq : Int) = (y : Int) := by rw [Int.tdiv_eq_ediv_of_nonneg (by omega), ← EXY.out.2]; rfl
      have hy2 : (s : Int) / (wdq : Int) = (y : Int) := by rw [← EXY.out.2]; rfl
      have nz : ¬ (wdq : Int) = 0 := by have := HGQ.out; omega
      have nzb : ((wdq : Int) == 0) = false := by simp; have := HGQ.out; omega
      have wy1 := w64_nat (show y ≤ 100000000 from HBD.out.1.2)
      have wx1 := w64_nat (show x ≤ 100000000 from HBD.out.1.1)
      have wa := w64_add HEE.out.1 HBD.out.2.1
      have wb := w64_add HEE.out.2 HBD.out.2.2
      have wc1 := wi_add HEE.out.1 HBD.out.2.1
      have wc2 := wi_add HEE.out.2 HBD.out.2.2
      have KX := Hid.mk (KP.out.trans K2x.out)
      clear iq
      go_upto_region 20 with (fail)
      rw [wy1]
      clear hx1 hx2 hy1 hy2 nz nzb wy1 wx1
      go_cut [159] (fun v wc => v = .bool (decide ((xq ≤ x ∧ x < xe) ∧ YY ≤ y ∧ y < ye)) ∧ wc = wx2)
      case first =>
        by_cases h1 : xq ≤ x
        · have d1 : decide ((xq : Int) ≤ (x : Int)) = true := decide_eq_true (by omega)
          have n1 : decide (xq ≤ x) = true := decide_eq_true (by omega)
          by_cases h2 : x < xe
          · have d2 : decide ((x : Int) < (xe : Int)) = true := decide_eq_true (by omega)
            have n2 : decide (x < xe) = true := decide_eq_true (by omega)
            by_cases h3 : YY ≤ y
            · have d3 : decide ((YY : Int) ≤ (y : Int)) = true := decide_eq_true (by omega)
              have n3 : decide (YY ≤ y) = true := decide_eq_true (by omega)
              by_cases h4 : y < ye
              · have d4 : decide ((y : Int) < (ye : Int)) = true := decide_eq_true (by omega)
                have n4 : decide (y < ye) = true := decide_eq_true (by omega)
                have HD : Hid (decide ((xq ≤ x ∧ x < xe) ∧ YY ≤ y ∧ y < ye) = true) := Hid.mk (decide_eq_true ⟨⟨h1, h2⟩, h3, h4⟩)
                clear h1 h2 h3 h4
                go_wp2
                go_meet
                exact ⟨congrArg Value.bool HD.out.symm, rfl⟩
              · have d4 : decide ((y : Int) < (ye : Int)) = false := decide_eq_false (by omega)
                have n4 : decide (y < ye) = false := decide_eq_false (by omega)
                have HD : Hid (decide ((xq ≤ x ∧ x < xe) ∧ YY ≤ y ∧ y < ye) = false) := Hid.mk (decide_eq_false (fun h => h4 h.2.2))
                clear h1 h2 h3 h4
                go_wp2
                go_meet
                exact ⟨congrArg Value.bool HD.out.symm, rfl⟩
            · have d3 : decide ((YY : Int) ≤ (y : Int)) = false := decide_eq_false (by omega)
              have n3 : decide (YY ≤ y) = false := decide_eq_false (by omega)
              have HD : Hid (decide ((xq ≤ x ∧ x < xe) ∧ YY ≤ y ∧ y < ye) = false) := Hid.mk (decide_eq_false (fun h => h3 h.2.1))
              clear h1 h2 h3
              go_wp2
              go_meet
              exact ⟨congrArg Value.bool HD.out.symm, rfl⟩
          · have d2 : decide ((x : Int) < (xe : Int)) = false := decide_eq_false (by omega)
            have n2 : decide (x < xe) = false := decide_eq_false (by omega)
            have HD : Hid (decide ((xq ≤ x ∧ x < xe) ∧ YY ≤ y ∧ y < ye) = false) := Hid.mk (decide_eq_false (fun h => h2 h.1.2))
            clear h1 h2
            go_wp2
            go_meet
            exact ⟨congrArg Value.bool HD.out.symm, rfl⟩
        · have d1 : decide ((xq : Int) ≤ (x : Int)) = false := decide_eq_false (by omega)
          have n1 : decide (xq ≤ x) = false := decide_eq_false (by omega)
          have HD : Hid (decide ((xq ≤ x ∧ x < xe) ∧ YY ≤ y ∧ y < ye) = false) := Hid.mk (decide_eq_false (fun h => h1 h.1.1))
          clear h1
          go_wp2
          go_meet
          exact ⟨congrArg Value.bool HD.out.symm, rfl⟩
      case rest =>
        obtain ⟨rfl, hwc⟩ := hcut
        obtain rfl := hwc.symm
        clear hwc p0 p1 p2 p3 wa wb wc1 wc2
        have htb : Hid (t + 1 ≤ 9000000000000000000) := Hid.mk (by have := HTL.out; have := HEN.out; omega)
        by_cases hpp : (xq ≤ x ∧ x < xe) ∧ YY ≤ y ∧ y < ye
        · rw [decide_eq_true hpp]
          have hk1 := (wk (x := (t : Int) + 1) (by have := htb.out; omega)).1
          clear hpp
          go_wp2
          rw [hk1]
          clear hk1
          refine ⟨⟨t + 1, HTL.out, rfl, Hid.mk ⟨G, HI.out.1.keep0 KX.out, HI.out.2.1, HI.out.2.2.1, KWr.out.trans KX.out, KX.out.heap HI.out.2.2.2.2.1 (by simp), KX.out.heap HI.out.2.2.2.2.2.1 (by simp), KX.out.heap HI.out.2.2.2.2.2.2.1 (by simp), KX.out.heap HI.out.2.2.2.2.2.2.2 (by simp)⟩⟩, ?_⟩
          clear it
          simp [intOf]
          have := HTL.out
          omega
        · rw [decide_eq_false hpp]
          have HNP := Hid.mk hpp
          clear hpp
          have RS : Hid (∀ u, Kept [] wr u → u.cell? ⟨G1, 4, none⟩ = some (.slice (some ⟨LB, 0, none⟩) m (m + 2)) ∧ u.cell? ⟨LB, q, none⟩ = some (.slice (some ⟨bs q, 0, none⟩) lnq (lnq + 5)) ∧ u.cell? ⟨ge, eoff + t * 3 + 2, none⟩ = some (.int .i64 y2) ∧ u.cell? ⟨B, 2, none⟩ = some (.int .i64 D)) := Hid.mk (fun u ku => ⟨cellAt (i := 4) (ku.heap HI.out.2.2.2.2.2.2.1 (by simp)) rfl, by
            have h9 := cellAt (i := q) (ku.heap HI.out.1.lst (by simp)) (v := .slice (some ⟨bs q, 0, none⟩) (ln q) (ln q + 5)) (by rw [List.getElem?_toArray, Tl.fl_at _ _ _ (by have := HQ.out; omega)]; unfold lpC; rw [if_pos HQ.out])
            rw [EQ.out.2.2.2] at h9
            exact h9, (RE.out u ku).2.2, (RF.out u ku).2.2.1⟩)
          have RS0 := RS.out _ (KX.out.trans ((Kept.refl [] wx2).drew))
          have iq : (q : Int) < (m : Int) := by have := HQ.out; omega
          have isl : (s : Int) < (lnq : Int) := by have := HSL.out; omega
          obtain ⟨M, hsh, hM1, hM2⟩ : ∃ M : Nat, IntKind.i64.wrap (2 ^ D.toNat) = (M : Int) ∧ (1 ≤ M ∧ M ≤ 4096) ∧ Tl.mx D = M - 1 := by
            rcases HV.out.shp.2.2.1 with e | e
            · rw [e]; exact ⟨1024, by decide, by decide, by decide⟩
            · rw [e]; exact ⟨4096, by decide, by decide, by decide⟩
          have hv0 := pick_lo y2 (M : Int) (by omega)
          have hv1 := pick_hi y2 (M : Int) (by omega)
          obtain ⟨v, ev⟩ : ∃ v : Nat, pick y2 (M : Int) = (v : Int) := ⟨_, (Int.toNat_of_nonneg hv0).symm⟩
          have HVM : Hid (v ≤ Tl.mx D ∧ v < 65536) := Hid.mk (by omega)
          have D2 := Hid.mk (fun u => CP.out y2 (M : Int) u HY2.out.1 HY2.out.2 (by omega))
          rw [ev] at D2
          have hv16 : IntKind.u16.wrap (v : Int) = (v : Int) := by
            have h9 := HVM.out
            simp [IntKind.wrap, IntKind.signed, IntKind.bits]
            omega
          have LFX := Hid.mk (HI.out.1.keep0 KX.out)
          have hrow := LFX.out.row q HQ.out
          have hrc := hrow.at (j := s) (by rw [EQ.out.2.2.2]; have := HSL.out; omega)
          have hrz := hrow.fz s
          have hrcd : wx2.drew.cell? ⟨bs q, s, none⟩ = _ := hrc
          have hrzd : wx2.drew.frozen? ⟨bs q, s, none⟩ = false := hrz
          have HROW := Hid.mk hrow
          have k9 : Kept [bs q] wx2 ((wx2.setCell ⟨bs q, s, none⟩ (.int .u16 (v : Int))).drew) := ((Kept.refl [bs q] wx2).setCell (p := ⟨bs q, s, none⟩) (.inl (by simp)) _).drew
          have K9' := Hid.mk k9
          clear hM1 hM2 hv0 hv1 ev hrow hrc hrz k9
          have hD := HV.out.shp.2.2.1
          clear NE NE2 Q0 Q1
          go_wp2_with (fail)
          refine wp_region_held_drew (S := fun u => u.cell? ⟨G1, 4, none⟩ = some (.slice (some ⟨LB, 0, none⟩) m (m + 2)) ∧ u.cell? ⟨LB, q, none⟩ = some (.slice (some ⟨bs q, 0, none⟩) lnq (lnq + 5)) ∧ u.cell? ⟨ge, eoff + t * 3 + 2, none⟩ = some (.int .i64 y2) ∧ u.cell? ⟨B, 2, none⟩ = some (.int .i64 D)) (by kernel_rfl) RS0 (fun hH0 => ?_)
          clear RS0
          refine wpAnyH_take (i := 0) (oi := _) (v := ?_) rfl (by kernel_rfl) (by kernel_rfl) (by kernel_rfl) (fun _ _ _ h => h) (Or.inl ⟨by rfl, ?y0d⟩) (by assumption) ?r0d
          case y0d => (intro w hSw; (try dsimp only at hSw); go_simp; try with_reducible rfl)
          refine wpAnyH_take (i := 1) (oi := _) (v := ?_) rfl (by kernel_rfl) (by kernel_rfl) (by kernel_rfl) (fun _ _ _ h => h) (Or.inl ⟨by rfl, ?y1d⟩) (by assumption) ?r1d
          case y1d => (intro w hSw; (try dsimp only at hSw); go_simp; try with_reducible rfl)
          refine wpAnyH_take (i := 2) (oi := _) (v := ?_) rfl (by kernel_rfl) (by kernel_rfl) (by kernel_rfl) (fun _ _ _ h => h) (Or.inl ⟨by rfl, ?y2d⟩) (by assumption) ?r2d
          case y2d => (intro w hSw; (try dsimp only at hSw); go_simp; try with_reducible rfl)
          refine wpAnyH_take (i := 3) (oi := _) (v := ?_) rfl (by kernel_rfl) (by kernel_rfl) (by kernel_rfl) (fun _ _ _ h => h) (Or.inl ⟨by rfl, ?y3d⟩) (by assumption) ?r3d
          case y3d => (intro w hSw; (try dsimp only at hSw); go_simp; try with_reducible rfl)
          refine wpAnyH_take (i := 4) (oi := _) (v := ?_) rfl (by kernel_rfl) (by kernel_rfl) (by kernel_rfl) (fun _ _ _ h => h) (Or.inl ⟨by rfl, ?y4d⟩) (by assumption) ?r4d
          case y4d => (intro w hSw; (try dsimp only at hSw); go_simp; try with_reducible rfl)
          refine wpAnyH_take (i := 5) (oi := _) (v := ?_) rfl (by kernel_rfl) (by kernel_rfl) (by kernel_rfl) (fun _ _ _ h => h) (Or.inl ⟨by rfl, ?y5d⟩) (by assumption) ?r5d
          case y5d => (intro w hSw; (try dsimp only at hSw); go_simp; try with_reducible rfl)
          refine wpAnyH_take (i := 6) (oi := _) (v := ?_) rfl (by kernel_rfl) (by kernel_rfl) (by kernel_rfl) (fun _ _ _ h => h) (Or.inl ⟨by rfl, ?y6d⟩) (by assumption) ?r6d
          case y6d => (intro w hSw; (try dsimp only at hSw); go_simp; try with_reducible rfl)
          refine wpAnyH_take (i := 7) (oi := _) (v := ?_) rfl (by kernel_rfl) (by kernel_rfl) (by kernel_rfl) (fun _ _ _ h => h) (Or.inl ⟨by rfl, ?y7d⟩) (by assumption) ?r7d
          case y7d => (intro w hSw; (try dsimp only at hSw); go_simp; try with_reducible rfl)
          refine wpAnyH_take (i := 8) (oi := _) (v := ?_) rfl (by kernel_rfl) (by kernel_rfl) (by kernel_rfl) (fun _ _ _ h => h) (Or.inl ⟨by rfl, ?y8d⟩) (by assumption) ?r8d
          case y8d => (intro w hSw; (try dsimp only at hSw); go_simp; try with_reducible rfl)
          refine wpAnyH_take (i := 9) (oi := _) (v := ?_) rfl (by kernel_rfl) (by kernel_rfl) (by kernel_rfl) (fun _ _ _ h => h) (Or.inl ⟨by rfl, ?y9d⟩) (by assumption) ?r9d
          case y9d => (intro w hSw; (try dsimp only at hSw); go_simp; try with_reducible rfl)
          refine wpAnyH_take (i := 10) (oi := _) (v := ?_) rfl (by kernel_rfl) (by kernel_rfl) (by kernel_rfl) (fun _ _ _ h => h) (Or.inl ⟨by rfl, ?y10d⟩) (by assumption) ?r10d
          case y10d => (intro w hSw; (try dsimp only at hSw); go_simp; try with_reducible rfl)
          refine wpAnyH_take (i := 11) (oi := _) (v := ?_) rfl (by kernel_rfl) (by kernel_rfl) (by kernel_rfl) (fun _ _ _ h => h) (Or.inl ⟨by rfl, ?y11d⟩) (by assumption) ?r11d
          case y11d => (intro w hSw; (try dsimp only at hSw); go_simp; try with_reducible rfl)
          refine wpAnyH_take (i := 12) (oi := _) (v := ?_) rfl (by kernel_rfl) (by kernel_rfl) (by kernel_rfl) (fun _ _ _ h => h) (Or.inl ⟨by rfl, ?y12d⟩) (by assumption) ?r12d
          case y12d => (intro w hSw; (try dsimp only at hSw); go_simp; try with_reducible rfl)
          refine wpAnyH_take (i := 13) (oi := _) (v := ?_) rfl (by kernel_rfl) (by kernel_rfl) (by kernel_rfl) (fun _ _ _ h => h) (Or.inl ⟨by rfl, ?y13d⟩) (by assumption) ?r13d
          case y13d => (intro w hSw; (try dsimp only at hSw); go_simp; try with_reducible rfl)
          refine wpAnyH_take (i := 14) (oi := _) (v := ?_) rfl (by kernel_rfl) (by kernel_rfl) (by kernel_rfl) (fun _ _ _ h => h) (Or.inl ⟨by rfl, ?y14d⟩) (by assumption) ?r14d
          case y14d => (intro w hSw; (try dsimp only at hSw); go_simp; (try rw [hsh]); try with_reducible rfl)
          clear hD
          refine wpAnyH_ready (rs := [15]) (by kernel_rfl) (by simp) ?_
          refine AllReadyH.cons rfl (fun K hK => ?_) AllReadyH.nil
          go_simp
          go_at_call 16
          refine (D2.out _).mono ?_
          rintro e w' ⟨rfl, hw'⟩
          obtain rfl := hw'.symm
          clear hw'
          refine hK.out _ _ hH0 (fun hH1 => ?_)
          clear hK K hH0
          refine wpAnyH_take (i := 16) (oi := _) (v := ?_) rfl (by kernel_rfl) (by kernel_rfl) (by kernel_rfl) (fun _ _ _ h => h) (Or.inl ⟨by rfl, ?y16d⟩) (by assumption) ?r16d
          case y16d => (intro w hSw; (try dsimp only at hSw); go_simp; try with_reducible rfl)
          refine wpAnyH_take (i := 17) (oi := _) (v := ?_) rfl (by kernel_rfl) (by kernel_rfl) (by kernel_rfl) (fun _ _ _ h => h) (Or.inl ⟨by rfl, ?y17d⟩) (by assumption) ?r17d
          case y17d => (intro w hSw; (try dsimp only at hSw); go_simp; try with_reducible rfl)
          refine wpAnyH_ready (rs := [18]) (by kernel_rfl) (by simp) ?_
          refine AllReadyH.cons rfl (fun K hK => ?_) AllReadyH.nil
          go_simp
          have ksz : Hid (w.heap.size ≤ bs q) := Hid.mk (by
            have h1 := (K2.out.trans K6.out).size
            have h2 := HLBw.out
            have h3 := LFX.out.gt q HQ.out
            omega)
          have KU := Hid.mk (((KWr.out.trans KX.out).setCell (p := ⟨bs q, s, none⟩) (.inr ksz.out) (.int .u16 (v : Int))).drew)
          have HU0 := Hid.mk (K9'.out.heap (KX.out.heap HI.out.2.2.2.2.1 (by simp)) (ne_row (KX.out.heap HI.out.2.2.2.2.1 (by simp)) HROW.out (by decide)))
          have HU1 := Hid.mk (K9'.out.heap (KX.out.heap HI.out.2.2.2.2.2.1 (by simp)) (ne_row (KX.out.heap HI.out.2.2.2.2.2.1 (by simp)) HROW.out (by decide)))
          have HU2 := Hid.mk (K9'.out.heap (KX.out.heap HI.out.2.2.2.2.2.2.1 (by simp)) (ne_row (KX.out.heap HI.out.2.2.2.2.2.2.1 (by simp)) HROW.out (by decide)))
          have HU3 := Hid.mk (K9'.out.heap (KX.out.heap HI.out.2.2.2.2.2.2.2 (by simp)) (ne_row (KX.out.heap HI.out.2.2.2.2.2.2.2 (by simp)) HROW.out (by decide)))
          have LFU := Hid.mk (lf_set (v := v) (s := s) LFX.out HQ.out (by rw [EQ.out.2.2.2]; exact HSL.out))
          have AGR : Hid (∀ q', q' < m → ∀ i, i < BH * BW q' → (if q' = q ∧ pos (XX q') YY (BW q') (WD q') i = s then v else G q' (pos (XX q') YY (BW q') (WD q') i)) = F q' (pos (XX q') YY (BW q') (WD q') i)) := Hid.mk (fun q' hq' i hi => by
            have hne : ¬ (q' = q ∧ pos (XX q') YY (BW q') (WD q') i = s) := by
              rintro ⟨rfl, h9⟩
              have g9 := GEO.out q' hq'
              refine pos_out g9.1 g9.2.1 hi ?_ h9
              have h8 := HNP.out
              rw [← EXY.out.1, ← EXY.out.2, ← HEE.out.1, ← HEE.out.2, ← EQ.out.1, ← EQ.out.2.1, ← EQ.out.2.2.1] at h8
              exact h8
            rw [if_neg hne]
            exact HI.out.2.2.1 q' hq' i hi)
          have TOP : Hid (∀ q', q' < m → ∀ j, j < ln q' → (if q' = q ∧ j = s then v else G q' j) ≤ Tl.mx D) := Hid.mk (fun q' hq' j hj => by
            by_cases h9 : q' = q ∧ j = s
            · rw [if_pos h9]; exact HVM.out.1
            · rw [if_neg h9]; exact HI.out.2.1 q' hq' j hj)
          refine hK.out _ _ ⟨cellAt (i := 4) HU2.out rfl, by
            have h9 := cellAt (i := q) LFU.out.lst (v := .slice (some ⟨bs q, 0, none⟩) (ln q) (ln q + 5)) (by rw [List.getElem?_toArray, Tl.fl_at _ _ _ (by have := HQ.out; omega)]; unfold lpC; rw [if_pos HQ.out])
            rw [EQ.out.2.2.2] at h9
            exact h9, by rw [← EY2.out]; exact HEC.out _ KU.out t 2 HTL.out (by decide), cellAt (i := 2) HU0.out rfl⟩ (fun hH2 => ?_)
          clear hK K hH1 hH2
          refine wpAnyH_done (by kernel_rfl) ?_ _
          generalize (wx2.setCell ⟨bs q, s, none⟩ (.int .u16 (v : Int))).drew = wU at *
          have hk1 := (wk (x := (t : Int) + 1) (by have := htb.out; omega)).1
          clear iq isl hsh hv16 hrcd hrzd
          go_wp2
          rw [hk1]
          clear hk1
          refine ⟨⟨t + 1, HTL.out, rfl, Hid.mk ⟨fun i j => if i = q ∧ j = s then v else G i j, LFU.out, TOP.out, AGR.out, KU.out, HU0.out, HU1.out, HU2.out, HU3.out⟩⟩, ?_⟩
          clear it
          simp [intOf]
          have := HTL.out
          omega
    · obtain rfl : en = t := by omega
      clear ht hlt
      have KWr := Hid.mk HI.out.2.2.2.1
      have HVG : Hid (Tl.Vld W H D A m ln G) := Hid.mk ⟨HV.out.shp, HV.out.num, HV.out.len, HI.out.2.1⟩
      obtain ⟨XG, hXG⟩ := cod_ex (N := N) HVG.out HG.out (by have := HEN2.out; omega) (L 0)
      have HXS := Hid.mk (cod_swap HX.out hXG HKN.out (fun q hq i hi => by
        have h9 := HI.out.2.2.1 q hq i
        rw [EGE.out.1, EGE.out.2.1, EGE.out.2.2.1, EGE.out.2.2.2.1, EGE.out.2.2.2.2] at h9
        exact h9 hi))
      clear hXG
      obtain ⟨X', eX', hX'⟩ : ∃ X' : Nat → Nat → Nat × Nat, X' k = X k ∧ Cod W H D sw sh (Tl.cl W sw) N m G (L 0) X' := ⟨_, by simp, HXS.out⟩
      clear HXS
      have HXS := Hid.mk hX'
      clear hX'
      have CF := Hid.mk (fun u (ku : Kept [] wr u) => CA.out po d F X u HV.out HX.out (HP.out.keep (KWr.out.trans ku)) (HLd.out.keep (KWr.out.trans ku)) (HT.out.kept (KWr.out.trans ku) (by simp)))
      have CG := Hid.mk (fun u (ku : Kept [] wr u) => CA.out (some ⟨LB, 0, none⟩) (m + 2) G X' u HVG.out HXS.out (lf_plc (HI.out.1.keep0 ku)) (HLd.out.keep (KWr.out.trans ku)) (HT.out.kept (KWr.out.trans ku) (by simp)))
      rw [eX'] at CG
      have hpl : 0 < (payL (X k) m).length := List.length_pos_iff.2 (pay_lo _ (by have := HM.out; omega))
      clear eX' CA
      generalize payL (X k) m = pl at *
      have RL := Hid.mk (fun u (ku : Kept [] wr u) => (HLd.out.keep (KWr.out.trans ku)).at HN1.out)
      obtain ⟨lg, loff, hlo, _⟩ := RL.out wr (Kept.refl _ _)
      subst hlo
      have RL2 : Hid (∀ u, Kept [] wr u → u.cell? ⟨lg, loff, none⟩ = some (.int .i64 (L 0 0)) ∧ u.cell? ⟨lg, loff + 1, none⟩ = some (.int .i64 (L 0 1)) ∧ u.cell? ⟨lg, loff + 2, none⟩ = some (.int .i64 (L 0 2)) ∧ u.cell? ⟨lg, loff + 3, none⟩ = some (.int .i64 (L 0 3))) := Hid.mk (fun u ku => by
        obtain ⟨g', o', h1, h2⟩ := RL.out u ku
        cases h1
        simpa using h2)
      have inn : 0 < n := HN1.out
      clear RL
      have HF9 := Hid.mk HI.out.2.2.2.2.1
      have HC9 := Hid.mk HI.out.2.2.2.2.2.1
      go_wp2_with (fail)
      refine wp_region_held_drew (S := fun u => Kept [] wr u) (by kernel_rfl) (Kept.refl [] wr).drew (fun hH0 => ?_)
      refine wpAnyH_take (i := 0) (oi := _) (v := ?_) rfl (by kernel_rfl) (by kernel_rfl) (by kernel_rfl) (fun _ _ _ h => h) (Or.inl ⟨by rfl, ?y0wr⟩) (by assumption) ?r0wr
      case y0wr => (intro u hSw; have hSu : Kept [] wr u := hSw; obtain ⟨l0, l1, l2, l3⟩ := RL2.out u (hSu); obtain ⟨t0, t1, t2, t3, t4⟩ := cel5 (hSu.heap HF9.out (by simp)); obtain ⟨a0, a1, a2, a3, a4⟩ := cel5 (hSu.heap HC9.out (by simp)); go_simp; try with_reducible rfl)
      refine wpAnyH_take (i := 1) (oi := _) (v := ?_) rfl (by kernel_rfl) (by kernel_rfl) (by kernel_rfl) (fun _ _ _ h => h) (Or.inl ⟨by rfl, ?y1wr⟩) (by assumption) ?r1wr
      case y1wr => (intro u hSw; have hSu : Kept [] wr u := hSw; obtain ⟨l0, l1, l2, l3⟩ := RL2.out u (hSu); obtain ⟨t0, t1, t2, t3, t4⟩ := cel5 (hSu.heap HF9.out (by simp)); obtain ⟨a0, a1, a2, a3, a4⟩ := cel5 (hSu.heap HC9.out (by simp)); go_simp; try with_reducible rfl)
      refine wpAnyH_take (i := 2) (oi := _) (v := ?_) rfl (by kernel_rfl) (by kernel_rfl) (by kernel_rfl) (fun _ _ _ h => h) (Or.inl ⟨by rfl, ?y2wr⟩) (by assumption) ?r2wr
      case y2wr => (intro u hSw; have hSu : Kept [] wr u := hSw; obtain ⟨l0, l1, l2, l3⟩ := RL2.out u (hSu); obtain ⟨t0, t1, t2, t3, t4⟩ := cel5 (hSu.heap HF9.out (by simp)); obtain ⟨a0, a1, a2, a3, a4⟩ := cel5 (hSu.heap HC9.out (by simp)); go_simp; try with_reducible rfl)
      refine wpAnyH_take (i := 3) (oi := _) (v := ?_) rfl (by kernel_rfl) (by kernel_rfl) (by kernel_rfl) (fun _ _ _ h => h) (Or.inl ⟨by rfl, ?y3wr⟩) (by assumption) ?r3wr
      case y3wr => (intro u hSw; have hSu : Kept [] wr u := hSw; obtain ⟨l0, l1, l2, l3⟩ := RL2.out u (hSu); obtain ⟨t0, t1, t2, t3, t4⟩ := cel5 (hSu.heap HF9.out (by simp)); obtain ⟨a0, a1, a2, a3, a4⟩ := cel5 (hSu.heap HC9.out (by simp)); go_simp; try with_reducible rfl)
      refine wpAnyH_take (i := 4) (oi := _) (v := ?_) rfl (by kernel_rfl) (by kernel_rfl) (by kernel_rfl) (fun _ _ _ h => h) (Or.inl ⟨by rfl, ?y4wr⟩) (by assumption) ?r4wr
      case y4wr => (intro u hSw; have hSu : Kept [] wr u := hSw; obtain ⟨l0, l1, l2, l3⟩ := RL2.out u (hSu); obtain ⟨t0, t1, t2, t3, t4⟩ := cel5 (hSu.heap HF9.out (by simp)); obtain ⟨a0, a1, a2, a3, a4⟩ := cel5 (hSu.heap HC9.out (by simp)); go_simp; try with_reducible rfl)
      refine wpAnyH_take (i := 5) (oi := _) (v := ?_) rfl (by kernel_rfl) (by kernel_rfl) (by kernel_rfl) (fun _ _ _ h => h) (Or.inl ⟨by rfl, ?y5wr⟩) (by assumption) ?r5wr
      case y5wr => (intro u hSw; have hSu : Kept [] wr u := hSw; obtain ⟨l0, l1, l2, l3⟩ := RL2.out u (hSu); obtain ⟨t0, t1, t2, t3, t4⟩ := cel5 (hSu.heap HF9.out (by simp)); obtain ⟨a0, a1, a2, a3, a4⟩ := cel5 (hSu.heap HC9.out (by simp)); go_simp; try with_reducible rfl)
      refine wpAnyH_take (i := 6) (oi := _) (v := ?_) rfl (by kernel_rfl) (by kernel_rfl) (by kernel_rfl) (fun _ _ _ h => h) (Or.inl ⟨by rfl, ?y6wr⟩) (by assumption) ?r6wr
      case y6wr => (intro u hSw; have hSu : Kept [] wr u := hSw; obtain ⟨l0, l1, l2, l3⟩ := RL2.out u (hSu); obtain ⟨t0, t1, t2, t3, t4⟩ := cel5 (hSu.heap HF9.out (by simp)); obtain ⟨a0, a1, a2, a3, a4⟩ := cel5 (hSu.heap HC9.out (by simp)); go_simp; try with_reducible rfl)
      refine wpAnyH_ready (rs := [7]) (by kernel_rfl) (by simp) ?_
      refine AllReadyH.cons rfl (fun K hK => ?_) AllReadyH.nil
      go_simp
      go_at_call 24
      refine (CF.out _ hH0).mono ?_
      rintro e wa ⟨bo, bc, rfl, hya, ka⟩
      have Ka := Hid.mk (hH0.trans ka)
      have RA := Hid.mk (reads_row hya)
      refine hK.out _ _ Ka.out (fun hH1 => ?_)
      clear hK K hH0 hya ka CF
      refine wpAnyH_take (i := 8) (oi := _) (v := ?_) rfl (by kernel_rfl) (by kernel_rfl) (by kernel_rfl) (fun _ _ _ h => h) (Or.inl ⟨by rfl, ?y8wr⟩) (by assumption) ?r8wr
      case y8wr => (intro u hSw; have hSu : Kept [] wr u := hSw;  go_simp; try with_reducible rfl)
      refine wpAnyH_take (i := 9) (oi := _) (v := ?_) rfl (by kernel_rfl) (by kernel_rfl) (by kernel_rfl) (fun _ _ _ h => h) (Or.inl ⟨by rfl, ?y9wr⟩) (by assumption) ?r9wr
      case y9wr => (intro u hSw; have hSu : Kept [] wr u := hSw;  go_simp; try with_reducible rfl)
      refine wpAnyH_take (i := 10) (oi := _) (v := ?_) rfl (by kernel_rfl) (by kernel_rfl) (by kernel_rfl) (fun _ _ _ h => h) (Or.inl ⟨by rfl, ?y10wr⟩) (by assumption) ?r10wr
      case y10wr => (intro u hSw; have hSu : Kept [] wr u := hSw;  go_simp; try with_reducible rfl)
      refine wpAnyH_take (i := 11) (oi := _) (v := ?_) rfl (by kernel_rfl) (by kernel_rfl) (by kernel_rfl) (fun _ _ _ h => h) (Or.inl ⟨by rfl, ?y11wr⟩) (by assumption) ?r11wr
      case y11wr => (intro u hSw; have hSu : Kept [] wr u := hSw;  go_simp; try with_reducible rfl)
      refine wpAnyH_take (i := 12) (oi := _) (v := ?_) rfl (by kernel_rfl) (by kernel_rfl) (by kernel_rfl) (fun _ _ _ h => h) (Or.inl ⟨by rfl, ?y12wr⟩) (by assumption) ?r12wr
      case y12wr => (intro u hSw; have hSu : Kept [] wr u := hSw;  go_simp; try with_reducible rfl)
      refine wpAnyH_done (by kernel_rfl) ?_ _
      clear hH1
      have HF8 := Hid.mk (Ka.out.heap HI.out.2.2.2.2.2.2.1 (by simp))
      have HC8 := Hid.mk (Ka.out.heap HC9.out (by simp))
      clear HC9
      have HC9 := Hid.mk HC8.out
      go_wp2_with (fail)
      refine wp_region_held_drew (S := fun u => Kept [] wa u) (by kernel_rfl) (Kept.refl [] wa).drew (fun hH0 => ?_)
      refine wpAnyH_take (i := 0) (oi := _) (v := ?_) rfl (by kernel_rfl) (by kernel_rfl) (by kernel_rfl) (fun _ _ _ h => h) (Or.inl ⟨by rfl, ?y0wa⟩) (by assumption) ?r0wa
      case y0wa => (intro u hSw; have hSu : Kept [] wa u := hSw; obtain ⟨l0, l1, l2, l3⟩ := RL2.out u (Ka.out.trans hSu); obtain ⟨t0, t1, t2, t3, t4⟩ := cel5 (hSu.heap HF8.out (by simp)); obtain ⟨a0, a1, a2, a3, a4⟩ := cel5 (hSu.heap HC9.out (by simp)); go_simp; try with_reducible rfl)
      refine wpAnyH_take (i := 1) (oi := _) (v := ?_) rfl (by kernel_rfl) (by kernel_rfl) (by kernel_rfl) (fun _ _ _ h => h) (Or.inl ⟨by rfl, ?y1wa⟩) (by assumption) ?r1wa
      case y1wa => (intro u hSw; have hSu : Kept [] wa u := hSw; obtain ⟨l0, l1, l2, l3⟩ := RL2.out u (Ka.out.trans hSu); obtain ⟨t0, t1, t2, t3, t4⟩ := cel5 (hSu.heap HF8.out (by simp)); obtain ⟨a0, a1, a2, a3, a4⟩ := cel5 (hSu.heap HC9.out (by simp)); go_simp; try with_reducible rfl)
      refine wpAnyH_take (i := 2) (oi := _) (v := ?_) rfl (by kernel_rfl) (by kernel_rfl) (by kernel_rfl) (fun _ _ _ h => h) (Or.inl ⟨by rfl, ?y2wa⟩) (by assumption) ?r2wa
      case y2wa => (intro u hSw; have hSu : Kept [] wa u := hSw; obtain ⟨l0, l1, l2, l3⟩ := RL2.out u (Ka.out.trans hSu); obtain ⟨t0, t1, t2, t3, t4⟩ := cel5 (hSu.heap HF8.out (by simp)); obtain ⟨a0, a1, a2, a3, a4⟩ := cel5 (hSu.heap HC9.out (by simp)); go_simp; try with_reducible rfl)
      refine wpAnyH_take (i := 3) (oi := _) (v := ?_) rfl (by kernel_rfl) (by kernel_rfl) (by kernel_rfl) (fun _ _ _ h => h) (Or.inl ⟨by rfl, ?y3wa⟩) (by assumption) ?r3wa
      case y3wa => (intro u hSw; have hSu : Kept [] wa u := hSw; obtain ⟨l0, l1, l2, l3⟩ := RL2.out u (Ka.out.trans hSu); obtain ⟨t0, t1, t2, t3, t4⟩ := cel5 (hSu.heap HF8.out (by simp)); obtain ⟨a0, a1, a2, a3, a4⟩ := cel5 (hSu.heap HC9.out (by simp)); go_simp; try with_reducible rfl)
      refine wpAnyH_take (i := 4) (oi := _) (v := ?_) rfl (by kernel_rfl) (by kernel_rfl) (by kernel_rfl) (fun _ _ _ h => h) (Or.inl ⟨by rfl, ?y4wa⟩) (by assumption) ?r4wa
      case y4wa => (intro u hSw; have hSu : Kept [] wa u := hSw; obtain ⟨l0, l1, l2, l3⟩ := RL2.out u (Ka.out.trans hSu); obtain ⟨t0, t1, t2, t3, t4⟩ := cel5 (hSu.heap HF8.out (by simp)); obtain ⟨a0, a1, a2, a3, a4⟩ := cel5 (hSu.heap HC9.out (by simp)); go_simp; try with_reducible rfl)
      refine wpAnyH_take (i := 5) (oi := _) (v := ?_) rfl (by kernel_rfl) (by kernel_rfl) (by kernel_rfl) (fun _ _ _ h => h) (Or.inl ⟨by rfl, ?y5wa⟩) (by assumption) ?r5wa
      case y5wa => (intro u hSw; have hSu : Kept [] wa u := hSw; obtain ⟨l0, l1, l2, l3⟩ := RL2.out u (Ka.out.trans hSu); obtain ⟨t0, t1, t2, t3, t4⟩ := cel5 (hSu.heap HF8.out (by simp)); obtain ⟨a0, a1, a2, a3, a4⟩ := cel5 (hSu.heap HC9.out (by simp)); go_simp; try with_reducible rfl)
      refine wpAnyH_take (i := 6) (oi := _) (v := ?_) rfl (by kernel_rfl) (by kernel_rfl) (by kernel_rfl) (fun _ _ _ h => h) (Or.inl ⟨by rfl, ?y6wa⟩) (by assumption) ?r6wa
      case y6wa => (intro u hSw; have hSu : Kept [] wa u := hSw; obtain ⟨l0, l1, l2, l3⟩ := RL2.out u (Ka.out.trans hSu); obtain ⟨t0, t1, t2, t3, t4⟩ := cel5 (hSu.heap HF8.out (by simp)); obtain ⟨a0, a1, a2, a3, a4⟩ := cel5 (hSu.heap HC9.out (by simp)); go_simp; try with_reducible rfl)
      refine wpAnyH_ready (rs := [7]) (by kernel_rfl) (by simp) ?_
      refine AllReadyH.cons rfl (fun K hK => ?_) AllReadyH.nil
      go_simp
      go_at_call 24
      refine (CG.out _ (Ka.out.trans hH0)).mono ?_
      rintro e wb ⟨bo2, bc2, rfl, hyb, kb'⟩
      have kb := hH0.trans kb'
      refine hK.out _ _ kb (fun hH1 => ?_)
      clear hK K hH0 kb' CG
      refine wpAnyH_take (i := 8) (oi := _) (v := ?_) rfl (by kernel_rfl) (by kernel_rfl) (by kernel_rfl) (fun _ _ _ h => h) (Or.inl ⟨by rfl, ?y8wa⟩) (by assumption) ?r8wa
      case y8wa => (intro u hSw; have hSu : Kept [] wa u := hSw;  go_simp; try with_reducible rfl)
      refine wpAnyH_take (i := 9) (oi := _) (v := ?_) rfl (by kernel_rfl) (by kernel_rfl) (by kernel_rfl) (fun _ _ _ h => h) (Or.inl ⟨by rfl, ?y9wa⟩) (by assumption) ?r9wa
      case y9wa => (intro u hSw; have hSu : Kept [] wa u := hSw;  go_simp; try with_reducible rfl)
      refine wpAnyH_take (i := 10) (oi := _) (v := ?_) rfl (by kernel_rfl) (by kernel_rfl) (by kernel_rfl) (fun _ _ _ h => h) (Or.inl ⟨by rfl, ?y10wa⟩) (by assumption) ?r10wa
      case y10wa => (intro u hSw; have hSu : Kept [] wa u := hSw;  go_simp; try with_reducible rfl)
      refine wpAnyH_take (i := 11) (oi := _) (v := ?_) rfl (by kernel_rfl) (by kernel_rfl) (by kernel_rfl) (fun _ _ _ h => h) (Or.inl ⟨by rfl, ?y11wa⟩) (by assumption) ?r11wa
      case y11wa => (intro u hSw; have hSu : Kept [] wa u := hSw;  go_simp; try with_reducible rfl)
      refine wpAnyH_take (i := 12) (oi := _) (v := ?_) rfl (by kernel_rfl) (by kernel_rfl) (by kernel_rfl) (fun _ _ _ h => h) (Or.inl ⟨by rfl, ?y12wa⟩) (by assumption) ?r12wa
      case y12wa => (intro u hSw; have hSu : Kept [] wa u := hSw;  go_simp; try with_reducible rfl)
      refine wpAnyH_done (by kernel_rfl) ?_ _
      clear hH1
      have s1 := reads_str' (RA.out.keep kb) rfl bc
      have s2 := reads_str' (reads_row hyb) rfl bc2
      have Kb := Hid.mk (KWr.out.trans (Ka.out.trans kb))
      have dl : decide ((pl.length : Int) > 0) = true := decide_eq_true (by omega)
      have dl2 : decide ((0 : Int) < (pl.length : Int)) = true := decide_eq_true (by omega)
      clear hyb kb inn
      go_wp2
      go_ret
      exact ⟨by first | rfl | (exact ret_bool (by simp)), Kb.out⟩
end Go.Proofs.YthkpligodbkofaaGreatDoor.Pc
