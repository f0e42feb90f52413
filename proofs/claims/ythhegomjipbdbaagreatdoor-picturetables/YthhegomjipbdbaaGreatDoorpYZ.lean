import Derived.Test.YthhegomjipbdbaaGreatDoorpVZ
import Derived.Test.YthhegomjipbdbaaGreatDoorqJZ
namespace Go.Proofs.YthhegomjipbdbaaGreatDoor.Pc
open Go.RowKit

end Go.Proofs.YthhegomjipbdbaaGreatDoor.Pc

namespace Go.Proofs.YthhegomjipbdbaaGreatDoor.Pc
open Go.RowKit

set_option maxHeartbeats 8000000 in
set_option maxRecDepth 1000000 in
/-- The document's Right. -/
theorem rRight_any (W H D : Int) (A : Bool) (sw sh : Int) (r : Nat → Int) (N p ln : Int) (w : World) :
    Calls Tryz.prog 33 #[hvv W H D A sw sh r N p ln] w fun e w' => e = .returned (.bool (rgt W H D A sw sh r N p ln)) ∧ Kept [] w w' := by
  obtain ⟨r0, er0⟩ : ∃ x, r 0 = x := ⟨_, rfl⟩
  obtain ⟨r1, er1⟩ : ∃ x, r 1 = x := ⟨_, rfl⟩
  obtain ⟨r2, er2⟩ : ∃ x, r 2 = x := ⟨_, rfl⟩
  obtain ⟨r3, er3⟩ : ∃ x, r 3 = x := ⟨_, rfl⟩
  have CR := fun u => rRung_any r W H D A u
  rw [show rgv r = .agg #[.int .i64 r0, .int .i64 r1, .int .i64 r2, .int .i64 r3] by unfold rgv; rw [er0, er1, er2, er3]] at CR
  have CR := Hid.mk CR
  show Calls Tryz.prog 33 #[.agg #[.int .i64 W, .int .i64 H, .int .i64 D, .bool A, .int .i64 sw, .int .i64 sh, .int .i64 (r 0), .int .i64 (r 1), .int .i64 (r 2), .int .i64 (r 3), .int .i64 N, .int .i64 p, .int .i64 ln]] w _
  rw [er0, er1, er2, er3]
  obtain ⟨R, eR⟩ : ∃ R, rgt W H D A sw sh r N p ln = R := ⟨_, rfl⟩
  rw [eR]
  have HRf : Hid (¬ (Tl.shE W H D A = 0 ∧ sdE sw sh = true ∧ rmb r A = true) → R = false) := Hid.mk (fun h => by
    rw [← eR]
    unfold rgt
    rcases Bool.eq_false_or_eq_true (rmb r A) with hb | hb
    · have : ¬ Tl.nwE W H D sw sh A = 0 := fun h2 => by
        have h3 := nwE_zero h2
        exact h ⟨Tl.shE_ok h3.1, by unfold sdE; exact decide_eq_true h3.2, hb⟩
      rw [decide_eq_false this]; rfl
    · rw [hb]; simp)
  have HRt : Hid (Tl.shE W H D A = 0 ∧ sdE sw sh = true ∧ rmb r A = true → R = (decide (N = Tl.cl W sw * Tl.cl H sh) && pmb p N && decide (36 + 8 * N + 4 * p ≤ ln) && decide (ln ≤ 134217727))) := Hid.mk (fun h => by
    rw [← eR]
    unfold rgt
    have h2 := h.2.1
    unfold sdE at h2
    rw [decide_eq_true (nwE_ok (shp_of h.1) (of_decide_eq_true h2)), h.2.2]
    rfl)
  have C1 := Hid.mk (fun u => Tl.rshaped_any W H D A u)
  have C2 := Hid.mk (fun u => sides_any sw sh u)
  have HSH : Hid (Tl.shE W H D A = 0 → Tl.Shp W H D A) := Hid.mk shp_of
  have HSD : Hid (sdE sw sh = true → (16 ≤ sw ∧ sw ≤ 4096) ∧ sw % 2 = 0 ∧ (16 ≤ sh ∧ sh ≤ 4096)) := Hid.mk (fun h => by unfold sdE at h; exact of_decide_eq_true h)
  obtain ⟨E, eE⟩ : ∃ E, Tl.shE W H D A = E := ⟨_, rfl⟩
  obtain ⟨sb, esb⟩ : ∃ b, sdE sw sh = b := ⟨_, rfl⟩
  obtain ⟨rb, erb⟩ : ∃ b, rmb r A = b := ⟨_, rfl⟩
  rw [eE] at C1 HRf HRt HSH
  rw [esb] at C2 HRf HRt HSD
  rw [erb] at CR HRf HRt
  clear er0 er1 er2 er3 eR eE esb erb
  obtain ⟨B, eB⟩ : ∃ B, w.heap.size = B := ⟨_, rfl⟩
  obtain ⟨w1, e1⟩ : ∃ w1, w.alloc (.cells #[.int .i64 W, .int .i64 H, .int .i64 D, .bool A, .int .i64 sw, .int .i64 sh, .int .i64 r0, .int .i64 r1, .int .i64 r2, .int .i64 r3, .int .i64 N, .int .i64 p, .int .i64 ln] 27 (0, 0)) = w1 := ⟨_, rfl⟩
  have K1 : Hid (Kept [] w w1) := Hid.mk (by rw [← e1]; exact (Kept.refl [] w).alloc _)
  have HB1 := Hid.mk (show w1.heap[B]? = some (.cells #[.int .i64 W, .int .i64 H, .int .i64 D, .bool A, .int .i64 sw, .int .i64 sh, .int .i64 r0, .int .i64 r1, .int .i64 r2, .int .i64 r3, .int .i64 N, .int .i64 p, .int .i64 ln] 27 (0, 0)) by rw [← e1, ← eB]; exact heap_alloc_new _ _)
  obtain ⟨h0, h1, h2, h3, h4, h5, h6, h7, h8, h9, h10, h11, h12⟩ := cel13 HB1.out
  go_enter Tryz.func33, Tryz.ntmps33
  go_wp2_with (fail)
  clear e1 eB
  refine (C1.out _).mono ?_
  rintro e w3 ⟨rfl, k3⟩
  have K3 := Hid.mk k3
  clear h0 h1 h2 h3 h4 h5 h6 h7 h8 h9 h10 h11 h12 k3
  obtain ⟨h0, h1, h2, h3, h4, h5, h6, h7, h8, h9, h10, h11, h12⟩ := cel13 (K3.out.heap HB1.out (by simp))
  go_wp2_with (fail)
  refine (C2.out _).mono ?_
  rintro e w4 ⟨rfl, hw⟩
  obtain rfl := hw.symm
  clear hw
  go_wp2_with (fail)
  refine (CR.out _).mono ?_
  rintro e w5 ⟨rfl, k5⟩
  have K5 := Hid.mk (K3.out.trans k5)
  clear h0 h1 h2 h3 h4 h5 h6 h7 h8 h9 h10 h11 h12 k5
  obtain ⟨h0, h1, h2, h3, h4, h5, h6, h7, h8, h9, h10, h11, h12⟩ := cel13 (K5.out.heap HB1.out (by simp))
  have K6 := Hid.mk (K1.out.trans K5.out)
  by_cases hE : E = 0
  · subst hE
    cases sb
    · have HE := Hid.mk (HRf.out (by simp))
      go_wp2
      go_ret
      exact ⟨ret_bool HE.out.symm, K6.out⟩
    · cases rb
      · have HE := Hid.mk (HRf.out (by simp))
        go_wp2
        go_ret
        exact ⟨ret_bool HE.out.symm, K6.out⟩
      · have HE0 := HRt.out ⟨rfl, rfl, rfl⟩
        have hshp := HSH.out rfl
        have hsd := HSD.out rfl
        have CC := Hid.mk (fun u => rCount_any W H D sw sh A u hshp hsd)
        have G := Tl.Gd.of hshp.1.1 hshp.1.2 hshp.2.1.1 hshp.2.1.2 hsd.1.1 hsd.1.2 hsd.2.1 hsd.2.2.1 hsd.2.2.2
        have hcr : Tl.cl W sw * Tl.cl H sh ≤ 65536 := Int.mul_le_mul (a := Tl.cl W sw) (b := Tl.cl H sh) (c := 256) (d := 256) G.c1 G.r1 (by have := G.r0; omega) (by omega)
        have hcr0 : 0 ≤ Tl.cl W sw * Tl.cl H sh := Int.mul_nonneg (by have := G.c0; omega) (by have := G.r0; omega)
        obtain ⟨M, eM⟩ : ∃ N, Tl.cl W sw * Tl.cl H sh = N := ⟨_, rfl⟩
        rw [eM] at CC hcr hcr0 HE0
        have HE := Hid.mk HE0
        clear HE0 hshp hsd G eM
        go_wp2_with (fail)
        refine (CC.out _).mono ?_
        rintro e w7 ⟨rfl, k7⟩
        have K7 := Hid.mk (K6.out.trans k7)
        clear h0 h1 h2 h3 h4 h5 h6 h7 h8 h9 h10 h11 h12
        obtain ⟨h0, h1, h2, h3, h4, h5, h6, h7, h8, h9, h10, h11, h12⟩ := cel13 ((K5.out.trans k7).heap HB1.out (by simp))
        clear k7 h0 h1 h2 h3 h4 h5 h6 h7 h8 h9
        have HM := Hid.mk (And.intro hcr0 hcr)
        by_cases hNM : N = M
        · subst hNM
          by_cases hp0 : p < 0
          · have HF : Hid (R = false) := Hid.mk (by rw [HE.out, show pmb p N = false by unfold pmb; exact decide_eq_false (by omega)]; simp)
            clear hcr hcr0
            go_wp2
            go_ret
            exact ⟨ret_bool HF.out.symm, K7.out⟩
          · by_cases hp16 : 16 < p
            · have HF : Hid (R = false) := Hid.mk (by rw [HE.out, show pmb p N = false by unfold pmb; exact decide_eq_false (by omega)]; simp)
              clear hcr hcr0
              go_wp2
              go_ret
              exact ⟨ret_bool HF.out.symm, K7.out⟩
            · by_cases hpN : 0 < p ∧ 200 < N
              · have HF : Hid (R = false) := Hid.mk (by rw [HE.out, show pmb p N = false by unfold pmb; exact decide_eq_false (by omega)]; simp)
                obtain ⟨hpa, hpb⟩ := hpN
                clear hcr hcr0
                go_wp2
                go_ret
                exact ⟨ret_bool HF.out.symm, K7.out⟩
              · have HPM : pmb p N = true := by unfold pmb; exact decide_eq_true (by omega)
                have HF : Hid (R = (decide (36 + 8 * N + 4 * p ≤ ln) && decide (ln ≤ 134217727))) := Hid.mk (by rw [HE.out, HPM]; simp)
                have v1 : wrap64 (32 + 8 * N + 4 * p + 4) = 36 + 8 * N + 4 * p := by unfold wrap64; omega
                by_cases hpp : 0 < p
                · have hN2 : ¬ 200 < N := fun h => hpN ⟨hpp, h⟩
                  clear HPM hpN HE
                  by_cases hl1 : 36 + 8 * N + 4 * p ≤ ln
                  · have HG : Hid (R = decide (ln ≤ 134217727)) := Hid.mk (by rw [HF.out, decide_eq_true hl1, Bool.true_and])
                    go_wp2
                    go_ret
                    exact ⟨ret_bool HG.out.symm, K7.out⟩
                  · have HG : Hid (R = false) := Hid.mk (by rw [HF.out, decide_eq_false hl1]; rfl)
                    go_wp2
                    go_ret
                    exact ⟨ret_bool HG.out.symm, K7.out⟩
                · clear HPM hpN HE
                  by_cases hl1 : 36 + 8 * N + 4 * p ≤ ln
                  · have HG : Hid (R = decide (ln ≤ 134217727)) := Hid.mk (by rw [HF.out, decide_eq_true hl1, Bool.true_and])
                    go_wp2
                    go_ret
                    exact ⟨ret_bool HG.out.symm, K7.out⟩
                  · have HG : Hid (R = false) := Hid.mk (by rw [HF.out, decide_eq_false hl1]; rfl)
                    go_wp2
                    go_ret
                    exact ⟨ret_bool HG.out.symm, K7.out⟩
        · have HF : Hid (R = false) := Hid.mk (by rw [HE.out, decide_eq_false hNM]; rfl)
          clear hcr hcr0
          go_wp2
          go_ret
          exact ⟨ret_bool HF.out.symm, K7.out⟩
  · have HE := Hid.mk (HRf.out (fun h => hE h.1))
    go_wp2
    go_ret
    exact ⟨ret_bool HE.out.symm, K6.out⟩
end Go.Proofs.YthhegomjipbdbaaGreatDoor.Pc

namespace Go.Proofs.YthhegomjipbdbaaGreatDoor.Pc
open Go.RowKit

theorem whl_part {W H sw sh c r k : Int} (g : Tl.Gd W H sw sh c r) (k0 : 0 ≤ k) (k1 : k < c * r) : Tl.whl W H (Tl.sX c sw k) (Tl.sY c sh k) (min sw (W - Tl.sX c sw k)) (min sh (H - Tl.sY c sh k)) = true := by
  have hx := Tl.sX_in g k
  have hy := Tl.sY_in g k0 k1
  have h1 := g.s0
  have h2 := g.se
  have h3 := g.t0
  generalize Tl.sX c sw k = X at *
  generalize Tl.sY c sh k = Y at *
  unfold Tl.whl
  refine decide_eq_true ?_
  omega
theorem hE_part {W H D sw sh c r k : Int} {A : Bool} (hs : Tl.Shp W H D A) (g : Tl.Gd W H sw sh c r) (k0 : 0 ≤ k) (k1 : k < c * r) {p : Int} (p0 : 0 ≤ p) (p1 : p < (Tl.np A : Int)) : Tl.hE W H D p (Tl.sX c sw k) (Tl.sY c sh k) (min sw (W - Tl.sX c sw k)) (min sh (H - Tl.sY c sh k)) A = 0 := by
  unfold Tl.hE
  rw [if_pos (Tl.shE_ok hs), if_pos ⟨⟨p0, p1⟩, whl_part g k0 k1⟩]

end Go.Proofs.YthhegomjipbdbaaGreatDoor.Pc

namespace Go.Proofs.YthhegomjipbdbaaGreatDoor.Pc
open Go.RowKit

/-- The greatest of numbers. -/
def gmx (f : Nat → Int) : Nat → Int
  | 0 => 0
  | n + 1 => if gmx f n < f n then f n else gmx f n
theorem gmx_in {f : Nat → Int} {M : Int} {n : Nat} (h0 : 0 ≤ M) (h : ∀ i, i < n → f i ≤ M) : 0 ≤ gmx f n ∧ gmx f n ≤ M := by
  induction n with
  | zero => exact ⟨Int.le_refl _, h0⟩
  | succ n ih =>
    have h1 := ih (fun i hi => h i (by omega))
    have h2 := h n (by omega)
    unfold gmx
    split <;> omega
theorem gmx_ge {f : Nat → Int} {n i : Nat} (hi : i < n) : f i ≤ gmx f n := by
  induction n with
  | zero => omega
  | succ n ih =>
    unfold gmx
    by_cases e : i = n
    · subst e
      split <;> omega
    · have := ih (by omega)
      split <;> omega
theorem sI_bd {f : Nat → Int} {M : Int} {n : Nat} (h : ∀ i, i < n → 0 ≤ f i ∧ f i ≤ M) : 0 ≤ sI f n ∧ sI f n ≤ (n : Int) * M := by
  refine ⟨sI_nn (fun i hi => (h i hi).1), ?_⟩
  rw [← sI_const]
  exact sI_le (fun i hi => (h i hi).2)
/-- What a record has at most. -/
def bnd (W H D sw sh : Int) (A : Bool) (p : Int) : Int :=
  36 + 8 * (Tl.cl W sw * Tl.cl H sh) + 4 * p + sI (fun k => pzs W H D sw sh (Tl.cl W sw) (Tl.np A) k) (Tl.cl W sw * Tl.cl H sh).toNat + p * gmx (fun k => pzs W H D sw sh (Tl.cl W sw) (Tl.np A) k) (Tl.cl W sw * Tl.cl H sh).toNat
theorem pz_bd {D w h : Int} (hD : D = 10 ∨ D = 12) (w0 : 1 ≤ w) (w1 : w ≤ 4096) (h0 : 1 ≤ h) (h1 : h ≤ 4096) : (0 ≤ w * h ∧ w * h ≤ 16777216) ∧ (0 ≤ w * h * D ∧ w * h * D ≤ 201326592) ∧ (w * h * D + 8 - 1) / 8 + 4 = pz D w h ∧ 0 ≤ pz D w h ∧ pz D w h ≤ 25165830 := by
  have a0 : 0 ≤ w * h := Int.mul_nonneg (by omega) (by omega)
  have a1 : w * h ≤ 4096 * 4096 := Int.mul_le_mul w1 h1 (by omega) (by omega)
  unfold pz
  rw [show D * w * h = w * h * D by rw [Int.mul_assoc, Int.mul_comm]]
  generalize w * h = z at *
  rcases hD with rfl | rfl <;> omega
theorem wk {x : Int} (h : -9000000000000000000 ≤ x ∧ x ≤ 9000000000000000000) : wrap64 x = x ∧ IntKind.i64.wrap x = x := ⟨Tl.w64_in (by omega) (by omega), Tl.wrap_i (by omega) (by omega)⟩
theorem wk2 {x z : Int} (e : x = z) (h : -9000000000000000000 ≤ z ∧ z ≤ 9000000000000000000) : wrap64 x = z ∧ IntKind.i64.wrap x = z := by subst e; exact wk h

end Go.Proofs.YthhegomjipbdbaaGreatDoor.Pc

namespace Go.Proofs.YthhegomjipbdbaaGreatDoor.Pc
open Go.RowKit

theorem mxl_gmx {l : Nat → Nat} {f : Nat → Int} {n : Nat} (h : ∀ i, i < n → (l i : Int) ≤ f i) : (mxl l n : Int) ≤ gmx f n := by
  induction n with
  | zero => exact Int.le_refl _
  | succ n ih =>
    have h1 := ih (fun i hi => h i (by omega))
    have h2 := h n (by omega)
    simp only [mxl, gmx]
    split <;> omega
/-- How long a rung's record is. -/
theorem rcl_bd {W H D : Int} {A : Bool} {m : Nat} {ln : Nat → Nat} {F : Nat → Nat → Nat} {sw sh cap : Int} {n pn N : Nat} {L : Nat → Nat → Int} {X : Nat → Nat → Nat → Nat × Nat}
    (hv : Tl.Vld W H D A m ln F) (hc : Cfg W H D A sw sh n L cap (pn : Int)) (hN : N = (Tl.cl W sw * Tl.cl H sh).toNat) (hX : ∀ i, i < n → Cod W H D sw sh (Tl.cl W sw) N m F (L i) (X i)) {i : Nat} (hi : i < n) :
    44 ≤ rcl (lnf (psv N m (X i))) N pn ∧ (rcl (lnf (psv N m (X i))) N pn : Int) ≤ bnd W H D sw sh A (pn : Int) ∧ bnd W H D sw sh A (pn : Int) ≤ 1000000000 := by
  have g := hc.gd
  have hcr : 1 ≤ Tl.cl W sw * Tl.cl H sh ∧ Tl.cl W sw * Tl.cl H sh ≤ 65536 := by
    have h1 : 1 * 1 ≤ Tl.cl W sw * Tl.cl H sh := Int.mul_le_mul g.c0 g.r0 (by omega) (by have := g.c0; omega)
    have h2 : Tl.cl W sw * Tl.cl H sh ≤ 256 * 256 := Int.mul_le_mul g.c1 g.r1 (by have := g.r0; omega) (by omega)
    omega
  have hNi : (N : Int) = Tl.cl W sw * Tl.cl H sh := by rw [hN]; omega
  have hpm := hc.pr
  unfold pmb at hpm
  have hpm := of_decide_eq_true hpm
  have hld := lmb_yes.1 hc.ld
  have hrr : ∀ q, q < 4 → 0 ≤ L i q ∧ L i q ≤ 63 := fun q hq => rmb_tol (hld.2 i hi) hq
  have htot := hv.shp.2.2.2
  have hle : ∀ k, k < N → (lnf (psv N m (X i)) k : Int) ≤ pzs W H D sw sh (Tl.cl W sw) (Tl.np A) k := fun k hk => by
    have h3 := (pay_le hv g (by omega) hrr (hX i hi) hk).1
    unfold lnf
    rw [psv_at hk]
    rw [hv.num] at h3 ⊢
    exact h3
  have hsm : (sm (lnf (psv N m (X i))) N : Int) ≤ sI (fun k => pzs W H D sw sh (Tl.cl W sw) (Tl.np A) k) N := by
    rw [sm_cast]
    exact sI_le hle
  have hmx : (mxl (lnf (psv N m (X i))) N : Int) ≤ gmx (fun k => pzs W H D sw sh (Tl.cl W sw) (Tl.np A) k) N := mxl_gmx hle
  have hg : 0 ≤ gmx (fun k => pzs W H D sw sh (Tl.cl W sw) (Tl.np A) k) N ∧ gmx (fun k => pzs W H D sw sh (Tl.cl W sw) (Tl.np A) k) N ≤ 6291476 := gmx_in (by omega) (fun k hk => by
    have h9 := (pzs_le hv.shp g (k := k) (by omega)).2
    omega)
  have hs2 := pzs_sum hv.shp g
  rw [← hN] at hs2
  unfold rcl bnd
  rw [← hN, ← hNi]
  refine ⟨by omega, ?_, ?_⟩
  · have h1 : ((pn * mxl (lnf (psv N m (X i))) N : Nat) : Int) ≤ (pn : Int) * gmx (fun k => pzs W H D sw sh (Tl.cl W sw) (Tl.np A) k) N := by
      rw [Int.natCast_mul]
      exact Int.mul_le_mul_of_nonneg_left hmx (by omega)
    generalize (pn * mxl (lnf (psv N m (X i))) N) = x at *
    omega
  · have h2 : (pn : Int) * gmx (fun k => pzs W H D sw sh (Tl.cl W sw) (Tl.np A) k) N ≤ 16 * 6291476 := Int.mul_le_mul (by omega) hg.2 hg.1 (by omega)
    generalize (pn : Int) * gmx (fun k => pzs W H D sw sh (Tl.cl W sw) (Tl.np A) k) N = x at *
    omega
/-- And no longer than the format can tell. -/
theorem rcl_top {W H D : Int} {A : Bool} {m : Nat} {ln : Nat → Nat} {F : Nat → Nat → Nat} {sw sh cap : Int} {n pn N : Nat} {L : Nat → Nat → Int} {X : Nat → Nat → Nat → Nat × Nat}
    (hv : Tl.Vld W H D A m ln F) (hc : Cfg W H D A sw sh n L cap (pn : Int)) (hN : N = (Tl.cl W sw * Tl.cl H sh).toNat) (hX : ∀ i, i < n → Cod W H D sw sh (Tl.cl W sw) N m F (L i) (X i)) {i : Nat} (hi : i < n) :
    rcl (lnf (psv N m (X i))) N pn ≤ 134217727 := by
  have g := hc.gd
  have hb := rcl_bd hv hc hN hX hi
  have hcr : 1 ≤ Tl.cl W sw * Tl.cl H sh ∧ Tl.cl W sw * Tl.cl H sh ≤ 65536 := by
    have h1 : 1 * 1 ≤ Tl.cl W sw * Tl.cl H sh := Int.mul_le_mul g.c0 g.r0 (by omega) (by have := g.c0; omega)
    have h2 : Tl.cl W sw * Tl.cl H sh ≤ 256 * 256 := Int.mul_le_mul g.c1 g.r1 (by have := g.r0; omega) (by omega)
    omega
  have hNi : (N : Int) = Tl.cl W sw * Tl.cl H sh := by rw [hN]; omega
  have hpm := hc.pr
  unfold pmb at hpm
  have hpm := of_decide_eq_true hpm
  have htot := hv.shp.2.2.2
  have hg : 0 ≤ gmx (fun k => pzs W H D sw sh (Tl.cl W sw) (Tl.np A) k) N ∧ gmx (fun k => pzs W H D sw sh (Tl.cl W sw) (Tl.np A) k) N ≤ 6291476 := gmx_in (by omega) (fun k hk => by
    have h9 := (pzs_le hv.shp g (k := k) (by omega)).2
    omega)
  have hs2 := pzs_sum hv.shp g
  rw [← hN] at hs2
  have h9 := hb.2.1
  unfold bnd at h9
  rw [← hN, ← hNi] at h9
  rcases hpm.2 with h0 | h0
  · rw [h0] at h9
    simp only [Int.zero_mul] at h9
    omega
  · have h2 : (pn : Int) * gmx (fun k => pzs W H D sw sh (Tl.cl W sw) (Tl.np A) k) N ≤ 16 * 6291476 := Int.mul_le_mul (by omega) hg.2 hg.1 (by omega)
    generalize (pn : Int) * gmx (fun k => pzs W H D sw sh (Tl.cl W sw) (Tl.np A) k) N = x at *
    omega
end Go.Proofs.YthhegomjipbdbaaGreatDoor.Pc

namespace Go.Proofs.YthhegomjipbdbaaGreatDoor.Pc
open Go.RowKit

theorem mxl_cast (l : Nat → Nat) (n : Nat) : (mxl l n : Int) = gmx (fun i => (l i : Int)) n := by
  induction n with
  | zero => rfl
  | succ n ih =>
    simp only [mxl, gmx]
    rw [← ih]
    split <;> omega
theorem gmx_congr {f g : Nat → Int} {n : Nat} (h : ∀ i, i < n → f i = g i) : gmx f n = gmx g n := by
  induction n with
  | zero => rfl
  | succ n ih => simp only [gmx]; rw [ih (fun i hi => h i (by omega)), h n (by omega)]
/-- How long the payloads may be. -/
def plf (W H D sw sh : Int) (A : Bool) (k : Nat) : Nat := (pzs W H D sw sh (Tl.cl W sw) (Tl.np A) k).toNat
theorem bnd_rcl {W H D sw sh : Int} {A : Bool} {n : Nat} {L : Nat → Nat → Int} {cap : Int} {pn : Nat} (hc : Cfg W H D A sw sh n L cap (pn : Int)) :
    (rcl (plf W H D sw sh A) (Tl.cl W sw * Tl.cl H sh).toNat pn : Int) = bnd W H D sw sh A (pn : Int) := by
  have g := hc.gd
  have h0 : 0 ≤ Tl.cl W sw * Tl.cl H sh := Int.mul_nonneg (by have := g.c0; omega) (by have := g.r0; omega)
  have hl : ∀ k, k < (Tl.cl W sw * Tl.cl H sh).toNat → (plf W H D sw sh A k : Int) = pzs W H D sw sh (Tl.cl W sw) (Tl.np A) k := fun k hk => by
    have := (pzs_le hc.shp g (k := k) (by omega)).1
    unfold plf
    omega
  unfold rcl bnd
  have e1 := sm_cast (plf W H D sw sh A) (Tl.cl W sw * Tl.cl H sh).toNat
  have e2 := mxl_cast (plf W H D sw sh A) (Tl.cl W sw * Tl.cl H sh).toNat
  rw [sI_congr hl] at e1
  rw [gmx_congr hl] at e2
  have e3 : ((pn * mxl (plf W H D sw sh A) (Tl.cl W sw * Tl.cl H sh).toNat : Nat) : Int) = (pn : Int) * gmx (fun k => pzs W H D sw sh (Tl.cl W sw) (Tl.np A) k) (Tl.cl W sw * Tl.cl H sh).toNat := by
    rw [Int.natCast_mul, e2]
  have e4 : (sm (plf W H D sw sh A) (Tl.cl W sw * Tl.cl H sh).toNat : Int) = sI (fun k => pzs W H D sw sh (Tl.cl W sw) (Tl.np A) k) (Tl.cl W sw * Tl.cl H sh).toNat := e1
  omega

set_option maxHeartbeats 8000000 in
set_option maxRecDepth 1000000 in
theorem pBound_ok (W H D : Int) (A : Bool) (sw sh : Int) (lo : Option Addr) (n c : Nat) (L : Nat → Nat → Int) (cap p : Int) (w : World) (hL : Ldr w lo n L) (hn : n ≤ 9223372036854775807) (s0 : -9223372036854775808 ≤ sw) (s1 : sw ≤ 9223372036854775807) (hcf : Cfg W H D A sw sh n L cap p) :
    Calls Tryz.prog 20 #[Tl.shv W H D A, cfv sw sh lo n c cap p] w fun e w' => e = .returned (.tuple #[.int .i64 (bnd W H D sw sh A p), .int .i64 0]) ∧ Kept [] w w' := by
  have hp : 0 ≤ p ∧ p ≤ 16 := by have h9 := hcf.pr; unfold pmb at h9; exact (of_decide_eq_true h9).1
  obtain ⟨pn, rfl⟩ : ∃ pn : Nat, p = (pn : Int) := ⟨p.toNat, by omega⟩
  have g := hcf.gd
  have hb := bnd_rcl hcf
  have hcr : Tl.cl W sw * Tl.cl H sh ≤ 65536 := Int.mul_le_mul (a := Tl.cl W sw) (b := Tl.cl H sh) (c := 256) (d := 256) g.c1 g.r1 (by have := g.r0; omega) (by omega)
  have hcr1 : 1 * 1 ≤ Tl.cl W sw * Tl.cl H sh := Int.mul_le_mul g.c0 g.r0 (by omega) (by have := g.c0; omega)
  obtain ⟨w1, e1⟩ : ∃ w1, w.alloc (.cells #[.int .i64 W, .int .i64 H, .int .i64 D, .bool A] 23 (0, 0)) = w1 := ⟨_, rfl⟩
  obtain ⟨w2, e2⟩ : ∃ w2, w1.alloc (.cells #[.int .i64 sw, .int .i64 sh, .slice lo n c, .int .i64 cap, .int .i64 (pn : Int)] 45 (0, 0)) = w2 := ⟨_, rfl⟩
  obtain ⟨B, eB⟩ : ∃ B, w.heap.size = B := ⟨_, rfl⟩
  have z1 : w1.heap.size = B + 1 := by rw [← e1, ← eB]; exact Array.size_push _
  have k1 : Kept [] w w1 := by rw [← e1]; exact (Kept.refl [] w).alloc _
  have k2 : Kept [] w1 w2 := by rw [← e2]; exact (Kept.refl [] w1).alloc _
  have HS := Hid.mk (k2.heap (show w1.heap[B]? = some (.cells #[.int .i64 W, .int .i64 H, .int .i64 D, .bool A] 23 (0, 0)) by rw [← e1, ← eB]; exact heap_alloc_new _ _) (by simp))
  have HC := Hid.mk (show w2.heap[B + 1]? = some (.cells #[.int .i64 sw, .int .i64 sh, .slice lo n c, .int .i64 cap, .int .i64 (pn : Int)] 45 (0, 0)) by rw [← e2, ← z1]; exact heap_alloc_new _ _)
  have K2 := Hid.mk (k1.trans k2)
  have C1 := Hid.mk (cut_any W H D A sw sh lo n c L cap (pn : Int) w2 (hL.keep K2.out) hn s0 s1)
  rw [cfE_zero.2 hcf] at C1
  have C2 := Hid.mk (fun P u (h : Tl.Gr u P W H D A sw sh (Tl.cl W sw) (Tl.cl H sh)) => Tl.count_any' P W H D sw sh _ _ A u h g.c0 g.c1 g.r0 g.r1)
  have C3 := Hid.mk (fun (k : Nat) (hk : (k : Int) < Tl.cl W sw * Tl.cl H sh) P u (h : Tl.Gr u P W H D A sw sh (Tl.cl W sw) (Tl.cl H sh)) => longest_any P W H D sw sh _ _ A k u h g hcf.shp hk)
  have PL := Hid.mk (fun (k : Nat) (hk : (k : Int) < Tl.cl W sw * Tl.cl H sh) => (show (plf W H D sw sh A k : Int) = pzs W H D sw sh (Tl.cl W sw) (Tl.np A) k ∧ plf W H D sw sh A k ≤ 20000000 by
    have h1 := pzs_le hcf.shp g (k := k) hk
    have h2 := hcf.shp.2.2.2
    unfold plf
    omega))
  obtain ⟨N, eN⟩ : ∃ N : Nat, Tl.cl W sw * Tl.cl H sh = (N : Int) := ⟨_, (Int.toNat_of_nonneg (by omega)).symm⟩
  rw [eN] at C2 C3 PL hb hcr hcr1
  rw [Int.toNat_natCast] at hb
  rw [← hb]
  obtain ⟨l, el⟩ : ∃ l, plf W H D sw sh A = l := ⟨_, rfl⟩
  rw [el] at PL ⊢
  obtain ⟨q0, q1, q2, q3, q4⟩ := cel5 HC.out
  obtain ⟨s0', s1', s2', s3'⟩ := cel4 HS.out
  have hN1 : 1 ≤ N := by omega
  have hN2 : N ≤ 65536 := by omega
  have hp2 : pn ≤ 16 := by omega
  clear hL hn s0 s1 hcf g hb hcr hcr1 el k1 k2 hp
  go_enter Tryz.func20, Tryz.ntmps20
  go_wp2_with (fail)
  clear e1 e2 eB z1
  refine C1.out.mono ?_
  rintro e w3 (⟨_, P, rfl, k3, _, hG⟩ | ⟨h9, _⟩)
  · have K3 := Hid.mk k3
    have HG := Hid.mk hG
    clear q0 q1 q2 q3 q4 s0' s1' s2' s3' k3 hG C1
    go_wp2_with (fail)
    refine (C2.out P _ HG.out).mono ?_
    rintro e w4 ⟨rfl, k4⟩
    have K4 := Hid.mk (K3.out.trans k4)
    have HG4 := Hid.mk (HG.out.keep k4 (by simp))
    obtain ⟨w5, m5, i5, k5⟩ := make_ints N (by omega) w4
    have K5 := Hid.mk k5
    obtain ⟨gb, eg⟩ : ∃ g, w4.heap.size = g := ⟨_, rfl⟩
    rw [eg] at m5 i5
    have I5 := Hid.mk (i5 l)
    have EG := Hid.mk eg
    clear k4 k5 i5
    go_wp2
    clear m5 eg
    go_loopw [24] (fun i wr => ∃ k : Nat, k ≤ N ∧ i = .int .i64 (k : Int) ∧ Hid (wr.heap[gb]? = some (.cells (lnC l k N).toArray 3 (0, 0)) ∧ Kept [gb] w5 wr)) (fun i _ => N - (intOf i).toNat)
    case atStart => exact ⟨0, Nat.zero_le _, rfl, Hid.mk ⟨I5.out, Kept.refl _ _⟩⟩
    case round =>
      obtain ⟨k, hk, rfl, HI⟩ := hrel
      have HKK : Hid (Kept [] w4 wr) := Hid.mk (K5.out.step HI.out.2 (fun x hx => by simp at hx; subst hx; exact .inr (by rw [EG.out]; exact Nat.le_refl _)))
      by_cases hlt : k < N
      · have ik : (k : Int) < (N : Int) := by omega
        have HSet := Hid.mk (lnC_set l k N)
        obtain ⟨s0, s1, s2, s3⟩ := cel4 ((K4.out.trans HKK.out).heap HS.out (by simp))
        have CL := Hid.mk (C3.out k ik P wr (HG4.out.keep HKK.out (by simp)))
        rw [← (PL.out k ik).1] at CL
        have HXB := Hid.mk (PL.out k ik).2
        obtain ⟨x, ex⟩ : ∃ x, l k = x := ⟨_, rfl⟩
        rw [ex] at HSet CL HXB
        have HLT := Hid.mk hlt
        clear ex hlt hk
        go_wp2_with (fail)
        refine CL.out.mono ?_
        rintro e w6 ⟨rfl, k6⟩
        have h6 := k6.heap HI.out.1 (by simp)
        have hcg := cellAt (i := k) (v := .int .i64 0) h6 (by rw [List.getElem?_toArray]; unfold lnC; rw [Tl.fl_at _ _ _ HLT.out, if_neg (by omega)])
        have hfg := row_fz h6 k
        have S9 := heap_setCell_at (i := k) (u := .int .i64 (x : Int)) h6
        rw [List.setIfInBounds_toArray, HSet.out] at S9
        have S9 := Hid.mk S9
        have K9 := Hid.mk ((HI.out.2.trans (k6.mono (by simp))).setCell (p := ⟨gb, k, none⟩) (.inl (by simp)) (.int .i64 (x : Int)))
        clear h6 k6 s0 s1 s2 s3
        have v5 := wq2 (x := (k : Int) + 1) (z := ((k + 1 : Nat) : Int)) rfl (by have := HLT.out; omega)
        obtain ⟨v5a, v5b⟩ := v5
        go_wp2
        clear v5a v5b
        go_roundw
        case rel => exact ⟨k + 1, HLT.out, rfl, Hid.mk ⟨S9.out, K9.out⟩⟩
        case measure => (clear ik; simp [intOf]; have := HLT.out; omega)
      · obtain rfl : N = k := by omega
        have CR := Hid.mk (recordLength_any gb N N pn l wr (fun i hi => cellAt HI.out.1 (by rw [List.getElem?_toArray]; exact lnC_at hi (Nat.le_refl _))) hN1 (by omega) hp2 (fun i hi => (PL.out i (by omega)).2))
        obtain ⟨q0, q1, q2, q3, q4⟩ := cel5 ((K4.out.trans HKK.out).heap HC.out (by simp))
        clear hlt hk
        go_wp2_with (fail)
        refine CR.out.mono ?_
        rintro e w7 ⟨rfl, hw⟩
        obtain rfl := hw.symm
        go_wp2
        go_ret2
        exact ⟨rfl, (K2.out.trans K4.out).trans HKK.out⟩
  · exact absurd rfl h9

set_option maxHeartbeats 8000000 in
set_option maxRecDepth 1000000 in
theorem pBound_no (W H D : Int) (A : Bool) (sw sh : Int) (lo : Option Addr) (n c : Nat) (L : Nat → Nat → Int) (cap p : Int) (w : World) (hL : Ldr w lo n L) (hn : n ≤ 9223372036854775807) (s0 : -9223372036854775808 ≤ sw) (s1 : sw ≤ 9223372036854775807) (hE : cfE W H D A sw sh n L cap p ≠ 0) :
    Calls Tryz.prog 20 #[Tl.shv W H D A, cfv sw sh lo n c cap p] w fun e w' => e = .returned (.tuple #[.int .i64 0, .int .i64 (cfE W H D A sw sh n L cap p)]) ∧ Kept [] w w' := by
  obtain ⟨w1, e1⟩ : ∃ w1, w.alloc (.cells #[.int .i64 W, .int .i64 H, .int .i64 D, .bool A] 23 (0, 0)) = w1 := ⟨_, rfl⟩
  obtain ⟨w2, e2⟩ : ∃ w2, w1.alloc (.cells #[.int .i64 sw, .int .i64 sh, .slice lo n c, .int .i64 cap, .int .i64 p] 45 (0, 0)) = w2 := ⟨_, rfl⟩
  obtain ⟨B, eB⟩ : ∃ B, w.heap.size = B := ⟨_, rfl⟩
  have z1 : w1.heap.size = B + 1 := by rw [← e1, ← eB]; exact Array.size_push _
  have k1 : Kept [] w w1 := by rw [← e1]; exact (Kept.refl [] w).alloc _
  have k2 : Kept [] w1 w2 := by rw [← e2]; exact (Kept.refl [] w1).alloc _
  obtain ⟨s0', s1', s2', s3'⟩ := cel4 (k2.heap (show w1.heap[B]? = some (.cells #[.int .i64 W, .int .i64 H, .int .i64 D, .bool A] 23 (0, 0)) by rw [← e1, ← eB]; exact heap_alloc_new _ _) (by simp))
  obtain ⟨q0, q1, q2, q3, q4⟩ := cel5 (show w2.heap[B + 1]? = some (.cells #[.int .i64 sw, .int .i64 sh, .slice lo n c, .int .i64 cap, .int .i64 p] 45 (0, 0)) by rw [← e2, ← z1]; exact heap_alloc_new _ _)
  have K2 := Hid.mk (k1.trans k2)
  have C1 := Hid.mk (cut_any W H D A sw sh lo n c L cap p w2 (hL.keep K2.out) hn s0 s1)
  have h0 : (cfE W H D A sw sh n L cap p != 0) = true := by simpa using hE
  obtain ⟨E, eE⟩ : ∃ E, cfE W H D A sw sh n L cap p = E := ⟨_, rfl⟩
  rw [eE] at C1 h0 hE ⊢
  have HE := Hid.mk hE
  clear hL hn s0 s1 k1 k2 eE hE
  go_enter Tryz.func20, Tryz.ntmps20
  go_wp2_with (fail)
  clear e1 e2 eB z1
  refine C1.out.mono ?_
  rintro e w3 (⟨h9, _⟩ | ⟨_, rfl, k3⟩)
  · exact absurd h9 HE.out
  · have K3 := Hid.mk k3
    clear q0 q1 q2 q3 q4 s0' s1' s2' s3' k3 C1
    go_wp2
    go_ret2
    exact ⟨rfl, K2.out.trans K3.out⟩

end Go.Proofs.YthhegomjipbdbaaGreatDoor.Pc
