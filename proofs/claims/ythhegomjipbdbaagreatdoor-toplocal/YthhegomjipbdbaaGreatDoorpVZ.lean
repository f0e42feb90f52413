import Derived.Test.YthhegomjipbdbaaGreatDoorpQZ
import Derived.Test.YthhegomjipbdbaaGreatDoortA5Z
namespace Go.Proofs.YthhegomjipbdbaaGreatDoor.Pc
open Go.RowKit

/-- All payloads by a rung; how long the record is; its bytes. -/
def psv (N m : Nat) (X : Nat → Nat → Nat × Nat) : List (List Nat) := (List.range N).map fun k => payL (X k) m
theorem psv_len (N m : Nat) (X : Nat → Nat → Nat × Nat) : (psv N m X).length = N := by simp [psv]
theorem psv_at {N m : Nat} {X : Nat → Nat → Nat × Nat} {k : Nat} (h : k < N) : (psv N m X).getD k [] = payL (X k) m := by
  unfold psv; rw [List.getD_eq_getElem?_getD, List.getElem?_map, List.getElem?_range h]; rfl

section
variable {W H D : Int} {A : Bool} {m : Nat} {ln : Nat → Nat} {F : Nat → Nat → Nat} {sw sh c r : Int}
theorem cod_len (hv : Tl.Vld W H D A m ln F) (g : Tl.Gd W H sw sh c r) {N : Nat} (hN : (N : Int) ≤ c * r) {rr : Nat → Int} (hr : ∀ q, q < 4 → 0 ≤ rr q ∧ rr q ≤ 63) {X : Nat → Nat → Nat × Nat} (hX : Cod W H D sw sh c N m F rr X) {k : Nat} (hk : k < N) {q : Nat} (hq : q < m) :
    (byts (X k q)).length = nby (X k q) ∧ Byts (byts (X k q)) ∧ (3 + nby (X k q) : Int) ≤ pz D (pw W sw c (q : Int) (k : Int)) (ph H sh c (k : Int)) := by
  have hm : m ≤ 4 := by rw [hv.num]; exact Tl.np_hi A
  obtain ⟨b, ht⟩ := hX k hk q hq
  have hr9 := hr q (by omega)
  have B := blk_of hv g (k := k) (q := q) (by omega) hq hr9.1 hr9.2
  obtain ⟨_, _, h3, h4, _⟩ := part_in g (k := k) (by omega) q
  have hw := B.w
  obtain ⟨h1, h2, _⟩ := byts_hold (tell_lt B.gd B.dp hw.1 B.f_ ht)
  have h5 := nby_le B ht
  refine ⟨h1, h2, ?_⟩
  unfold pz
  rw [← h3, ← h4]
  omega
theorem pay_le (hv : Tl.Vld W H D A m ln F) (g : Tl.Gd W H sw sh c r) {N : Nat} (hN : (N : Int) ≤ c * r) {rr : Nat → Int} (hr : ∀ q, q < 4 → 0 ≤ rr q ∧ rr q ≤ 63) {X : Nat → Nat → Nat × Nat} (hX : Cod W H D sw sh c N m F rr X) {k : Nat} (hk : k < N) : ((payL (X k) m).length : Int) ≤ pzs W H D sw sh c m k ∧ Byts (payL (X k) m) := by
  have h : ∀ j, j ≤ m → ((payL (X k) j).length : Int) ≤ sI (fun q => pz D (pw W sw c (q : Int) (k : Int)) (ph H sh c (k : Int))) j ∧ Byts (payL (X k) j) := by
    intro j
    induction j with
    | zero => intro _; exact ⟨by simp [payL, sI], fun b hb => by simp [payL] at hb⟩
    | succ j ih =>
      intro hj
      obtain ⟨i1, i2⟩ := ih (by omega)
      obtain ⟨a1, a2, a3⟩ := cod_len hv g hN hr hX hk (q := j) (by omega)
      refine ⟨?_, ?_⟩
      · simp only [payL, List.length_append, big_length, sI, a1]
        omega
      · intro b hb
        simp only [payL, List.mem_append] at hb
        rcases hb with h | h | h
        · exact i2 b h
        · exact big_lt _ _ b h
        · exact a2 b h
  exact h m (Nat.le_refl _)
theorem pay_lo (X : Nat → Nat × Nat) (hm : 1 ≤ m) : payL X m ≠ [] := by
  obtain ⟨j, rfl⟩ : ∃ j, m = j + 1 := ⟨m - 1, by omega⟩
  intro h
  have := congrArg List.length h
  simp only [payL, List.length_append, big_length, List.length_nil] at this
  omega
end

set_option maxHeartbeats 2000000 in
theorem jw_ok (W H D : Int) (A : Bool) (po : Option Addr) (m d : Nat) (ln : Nat → Nat) (F : Nat → Nat → Nat) (sw sh : Int) (lo : Option Addr) (n c : Nat) (L : Nat → Nat → Int) (cap : Int) (pn N : Nat) (X : Nat → Nat → Nat → Nat × Nat) (w : World)
    (hv : Tl.Vld W H D A m ln F) (hc : Cfg W H D A sw sh n L cap (pn : Int)) (hN : N = (Tl.cl W sw * Tl.cl H sh).toNat) (hX : ∀ i, i < n → Cod W H D sw sh (Tl.cl W sw) N m F (L i) (X i)) (hP : Plc w po m ln F) (hT : Tab w) (u : World) (P : Nat) (ku : Kept [] w u) (hG : Tl.Gr u P W H D A sw sh (Tl.cl W sw) (Tl.cl H sh)) :
    Jw u W H D A po m d sw sh lo n c cap pn P N L (fun i => rcl (lnf (psv N m (X i))) N pn) (fun i => psv N m (X i)) (fun i => recB W.toNat H.toNat D.toNat sw.toNat sh.toNat A (fun j => (L i j).toNat) pn (psv N m (X i)) (parR (psv N m (X i)) pn)) := by
  have g := hc.gd
  have hcr : 1 ≤ Tl.cl W sw * Tl.cl H sh ∧ Tl.cl W sw * Tl.cl H sh ≤ 65536 := by
    have h1 : 1 * 1 ≤ Tl.cl W sw * Tl.cl H sh := Int.mul_le_mul g.c0 g.r0 (by omega) (by have := g.c0; omega)
    have h2 : Tl.cl W sw * Tl.cl H sh ≤ 256 * 256 := Int.mul_le_mul g.c1 g.r1 (by have := g.r0; omega) (by omega)
    omega
  have hNi : (N : Int) = Tl.cl W sw * Tl.cl H sh := by rw [hN]; omega
  have hpm := hc.pr
  unfold pmb at hpm
  have hpm := of_decide_eq_true hpm
  have hld := lmb_yes.1 hc.ld
  have hm4 : m ≤ 4 := by rw [hv.num]; exact Tl.np_hi A
  have hm3 : 3 ≤ m := by rw [hv.num]; exact Tl.np_lo A
  have hrr : ∀ i, i < n → ∀ q, q < 4 → 0 ≤ L i q ∧ L i q ≤ 63 := fun i hi q hq => rmb_tol (hld.2 i hi) hq
  have htot := hv.shp.2.2.2
  have hlen : ∀ i, i < n → ∀ k, k < N → (payL (X i k) m).length ≤ 6291476 := fun i hi k hk => by
    have h1 := (pay_le hv g (by omega) (hrr i hi) (hX i hi) hk).1
    have h2 := (pzs_le hv.shp g (k := k) (by omega)).2
    rw [hv.num] at h1 ⊢
    omega
  have hln9 : ∀ i, i < n → rcl (lnf (psv N m (X i))) N pn ≤ 134217727 := fun i hi => by
    have hsm : 2 * (sm (lnf (psv N m (X i))) N : Int) ≤ 40 * (N : Int) + 3 * Tl.tot W H A := by
      have h1 := pzs_sum hv.shp g
      rw [← hN] at h1
      have h2 : (sm (lnf (psv N m (X i))) N : Int) ≤ sI (fun k => pzs W H D sw sh (Tl.cl W sw) (Tl.np A) k) N := by
        rw [sm_cast]
        refine sI_le (fun k hk => ?_)
        have h3 := (pay_le hv g (by omega) (hrr i hi) (hX i hi) hk).1
        rw [hv.num] at h3
        unfold lnf
        rw [psv_at hk, hv.num]
        exact h3
      omega
    have hmx : mxl (lnf (psv N m (X i))) N ≤ 6291476 := mxl_le (fun k hk => by unfold lnf; rw [psv_at hk]; exact hlen i hi k hk)
    have hpx : pn * mxl (lnf (psv N m (X i))) N ≤ 16 * 6291476 := Nat.mul_le_mul (by omega) hmx
    unfold rcl
    rcases hpm.2 with h0 | h0
    · have : pn = 0 := by omega
      subst this
      simp only [Nat.zero_mul]
      omega
    · omega
  refine ⟨fun i hi v kv => ?_, fun i hi v gg kv hmc => ?_⟩
  · refine (try_any W H D A po m d sw sh lo n c cap pn P (L i) N (fun k q => gW W sw (Tl.cl W sw) k q) (fun k _ => gH H sh (Tl.cl W sw) k) (fun k q => gF W H sw sh (Tl.cl W sw) F k q) (X i) v (fun k hk x kx => ?_) (fun x kx => ?_) (by omega) (by omega) (by omega) (fun k hk => Nat.le_trans (hlen i hi k hk) (by decide))).mono ?_
    · have kk : Kept [] w x := (ku.trans kv).trans kx
      refine ⟨fun q hq y ky => ?_, fun q hq y gy sc ky hsmp => ?_, fun q hq => ?_, hm4⟩
      · obtain ⟨p1, p2, p3, p4, p5, p6, p7, p8⟩ := part_in g (k := k) (by omega) q
        have hw0 := Tl.wp_lo (q : Int) hv.shp.1.1
        have hw1 := Tl.wp_hi (q : Int) hv.shp.1.1
        have hl9 : ln q = (Tl.wp W (q : Int)).toNat * H.toNat := by
          have h1 := hv.len q hq
          have h2 : ((Tl.wp W (q : Int)).toNat * H.toNat : Int) = Tl.wp W (q : Int) * H := by
            rw [Int.toNat_of_nonneg (by omega), Int.toNat_of_nonneg (by have := hv.shp.2.1.1; omega)]
          omega
        exact block_any W H D A po m d sw sh lo n c cap (pn : Int) P (k : Int) q (gX W sw (Tl.cl W sw) k q) (gY sh (Tl.cl W sw) k) (gW W sw (Tl.cl W sw) k q) (gH H sh (Tl.cl W sw) k) (Tl.wp W (q : Int)).toNat H.toNat ln F y (hP.keep (kk.trans ky)) hq hl9 p5 p6 p7 p8 (by have := hv.shp.1.2; omega) (by have := hv.shp.2.1.2; omega)
          (fun z kz => by
            have h9 := Tl.tpart_ok P W H D sw sh (Tl.cl W sw) (Tl.cl H sh) (k : Int) (q : Int) A z (hG.keep ((kv.trans kx).trans (ky.trans kz)) (by simp)) g hv.shp (by omega) (by omega) ⟨by omega, by rw [← hv.num]; omega⟩
            rw [p1, p2, p3, p4]
            exact h9)
          (fun z => by
            have h9 := Tl.size_any W H D (q : Int) A z
            have e9 : Tl.szE W H D (q : Int) A = 0 := by
              unfold Tl.szE
              rw [if_pos (Tl.shE_ok hv.shp), if_pos ⟨by omega, by rw [← hv.num]; omega⟩]
            rw [e9, if_pos rfl, if_pos rfl] at h9
            rw [Int.toNat_of_nonneg (by omega), Int.toNat_of_nonneg (by have := hv.shp.2.1.1; omega)]
            exact h9)
      · have hr9 := hrr i hi q (by omega)
        obtain ⟨b, ht⟩ := hX i hi k hk q hq
        have B := blk_of hv g (k := k) (q := q) (by omega) hq hr9.1 hr9.2
        exact Go.Proofs.YthhegomjipbdbaaGreatDoor.Encode_any (sc := sc) y B hsmp (hT.kept (kk.trans ky) (by simp)) ht
      · obtain ⟨a1, _, a3⟩ := cod_len hv g (by omega) (hrr i hi) (hX i hi) hk hq
        refine ⟨a1, ?_⟩
        have h2 := pzs_le hv.shp g (k := k) (by omega)
        have h3 : pz D (pw W sw (Tl.cl W sw) (q : Int) (k : Int)) (ph H sh (Tl.cl W sw) (k : Int)) ≤ pzs W H D sw sh (Tl.cl W sw) (Tl.np A) k := by
          unfold pzs
          refine sI_one (f := fun q : Nat => pz D (pw W sw (Tl.cl W sw) (q : Int) (k : Int)) (ph H sh (Tl.cl W sw) (k : Int))) (fun q' _ => ?_) (by rw [← hv.num]; exact hq)
          have hw := pw_in g (q' : Int) (k : Int)
          have hh := ph_in g (by omega : (0 : Int) ≤ k) (by omega)
          exact (pz_le hv.shp.2.2.1 (Int.mul_nonneg (by omega) (by omega))).1
        omega
    · have h9 := Tl.count_any' P W H D sw sh (Tl.cl W sw) (Tl.cl H sh) A x (hG.keep (kv.trans kx) (by simp)) g.c0 g.c1 g.r0 g.r1
      rw [hNi]
      exact h9
    · rintro e w' ⟨gq, rfl, _, h3, h4⟩
      exact ⟨gq, rfl, h3, h4⟩
  · have eW : (W.toNat : Int) = W := Int.toNat_of_nonneg (by have := hv.shp.1.1; omega)
    have eH : (H.toNat : Int) = H := Int.toNat_of_nonneg (by have := hv.shp.2.1.1; omega)
    have eD : (D.toNat : Int) = D := Int.toNat_of_nonneg (by rcases hv.shp.2.2.1 with h | h <;> omega)
    have esw : (sw.toNat : Int) = sw := Int.toNat_of_nonneg (by have := hc.sd.1.1; omega)
    have esh : (sh.toNat : Int) = sh := Int.toNat_of_nonneg (by have := hc.sd.2.2.1; omega)
    have er : ∀ j, j < 4 → ((L i j).toNat : Int) = L i j := fun j hj => Int.toNat_of_nonneg (hrr i hi j hj).1
    have hD : D = 10 ∨ D = 12 := hv.shp.2.2.1
    refine coded_any W H D A sw sh (L i) N pn _ gg (i : Int) _ v (fun x kx => ?_)
    have hrec := record_any W.toNat H.toNat D.toNat sw.toNat sh.toNat A (fun j => (L i j).toNat) N pn (rcl (lnf (psv N m (X i))) N pn) (some ⟨gg, 0, none⟩) N (psv N m (X i)) (parR (psv N m (X i)) pn) x (hmc.keep kx) (by simp) (psv_len ..) (by omega) (by omega) (parR_len ..) (by omega)
      (fun k hk => by unfold lnf; rw [psv_at hk]; exact Nat.le_trans (hlen i hi k hk) (by decide))
      (fun k hk => by rw [psv_len] at hk; rw [psv_at hk]; exact pay_lo _ (by omega))
      (fun k hk => by rw [psv_at hk]; exact (pay_le hv g (by omega) (hrr i hi) (hX i hi) hk).2)
      (fun k hk => parR_byts hk)
      (fun k hk => by
        rw [parR_at hk, Py.rg_length, wdt_mxl, psv_len]
        exact Nat.le_trans (mxl_le (fun k hk => by unfold lnf; rw [psv_at hk]; exact hlen i hi k hk)) (by decide))
      (by have := hv.shp.1.2; omega) (by have := hv.shp.2.1.2; omega) (by omega) (by have := hc.sd.1.2; omega) (by have := hc.sd.2.2.2; omega) (fun j hj => by have := (hrr i hi j hj).2; have := er j hj; omega) rfl (hln9 i hi)
      (by rw [recB_len, psv_len])
      (fun hp1 y ky => by
        have h200 : N ≤ 200 := by rcases hpm.2 with h | h <;> omega
        refine make_ok (some ⟨gg, 0, none⟩) N N pn (psv N m (X i)) y ((hmc.keep kx).keep ky) (fun l hl => ?_) (psv_len ..) h200 (by omega) (fun k hk => by unfold lnf; rw [psv_at hk]; exact Nat.le_trans (hlen i hi k hk) (by decide)) ?_
        · obtain ⟨k, hk, rfl⟩ := List.getElem_of_mem hl
          have hk2 : k < N := by rw [psv_len] at hk; exact hk
          have e9 := psv_at (m := m) (X := X i) hk2
          rw [List.getD_eq_getElem?_getD, List.getElem?_eq_getElem hk] at e9
          simp only [Option.getD_some] at e9
          rw [e9]
          exact (pay_le hv g (by omega) (hrr i hi) (hX i hi) hk2).2
        · rw [wdt_mxl, psv_len]
          have h0 : 0 < N := by omega
          have h1 : 1 ≤ lnf (psv N m (X i)) 0 := by
            unfold lnf
            rw [psv_at h0]
            have := pay_lo (X i 0) (show 1 ≤ m by omega)
            exact List.length_pos_iff.2 this
          have h2 : ∀ k, 1 ≤ k → lnf (psv N m (X i)) 0 ≤ mxl (lnf (psv N m (X i))) k := by
            intro k
            induction k with
            | zero => intro h; omega
            | succ k ih =>
              intro _
              simp only [mxl]
              by_cases hk : 1 ≤ k
              · have := ih hk; omega
              · obtain rfl : k = 0 := by omega
                omega
          have := h2 N (by omega)
          omega)
    have e9 : dfv W H D A sw sh (L i) N pn (rcl (lnf (psv N m (X i))) N pn) (some ⟨gg, 0, none⟩) N = .agg #[.int .i64 (W.toNat : Int), .int .i64 (H.toNat : Int), .int .i64 (D.toNat : Int), .bool A, .int .i64 (sw.toNat : Int), .int .i64 (sh.toNat : Int), .int .i64 ((L i 0).toNat : Int), .int .i64 ((L i 1).toNat : Int), .int .i64 ((L i 2).toNat : Int), .int .i64 ((L i 3).toNat : Int), .int .i64 (N : Int), .int .i64 (pn : Int), .int .i64 (rcl (lnf (psv N m (X i))) N pn : Int), .slice (some ⟨gg, 0, none⟩) N N] := by
      rw [eW, eH, eD, esw, esh, er 0 (by omega), er 1 (by omega), er 2 (by omega), er 3 (by omega)]
    rw [e9]
    exact hrec
end Go.Proofs.YthhegomjipbdbaaGreatDoor.Pc

namespace Go.Proofs.YthhegomjipbdbaaGreatDoor.Pc
open Go.RowKit

set_option maxHeartbeats 4000000 in
set_option maxRecDepth 1000000 in
theorem up_any (a b : Int) (w : World) (a0 : 0 ≤ a) (a1 : a ≤ 1000000000) (b0 : 1 ≤ b) (b1 : b ≤ 4096) : Calls Tryz.prog 87 #[.int .i64 a, .int .i64 b] w fun e w' => e = .returned (.int .i64 ((a + b - 1) / b)) ∧ w' = w := by
  have hw : IntKind.i64.wrap ((a + b - 1).tdiv b) = (a + b - 1) / b := by
    rw [Int.tdiv_eq_ediv_of_nonneg (by omega)]
    have h0 : 0 ≤ (a + b - 1) / b := Int.ediv_nonneg (by omega) (by omega)
    have h1 : (a + b - 1) / b ≤ a + b - 1 := Int.ediv_le_self _ (by omega)
    exact Tl.wrap_i (by omega) (by omega)
  have hb : b ≠ 0 := by omega
  go_enter Tryz.func87, Tryz.ntmps87
  go_wp2
  go_ret
  exact ⟨by first | rfl | (rw [hw]) | (exact ret_int (by first | exact hw | (simp; done))), rfl⟩

/-- Sides may be. -/
def sdE (a b : Int) : Bool := decide ((16 ≤ a ∧ a ≤ 4096) ∧ a % 2 = 0 ∧ (16 ≤ b ∧ b ≤ 4096))
set_option maxHeartbeats 4000000 in
set_option maxRecDepth 1000000 in
theorem sides_any (a b : Int) (w : World) : Calls Tryz.prog 61 #[.int .i64 a, .int .i64 b] w fun e w' => e = .returned (.bool (sdE a b)) ∧ w' = w := by
  obtain ⟨R, eR⟩ : ∃ R, sdE a b = R := ⟨_, rfl⟩
  have H1 : Hid ((16 ≤ a ∧ a ≤ 4096) ∧ a % 2 = 0 ∧ (16 ≤ b ∧ b ≤ 4096) → R = true) := Hid.mk (fun h => by rw [← eR]; unfold sdE; exact decide_eq_true h)
  have H2 : Hid (¬ ((16 ≤ a ∧ a ≤ 4096) ∧ a % 2 = 0 ∧ (16 ≤ b ∧ b ≤ 4096)) → R = false) := Hid.mk (fun h => by rw [← eR]; unfold sdE; exact decide_eq_false h)
  rw [eR]
  clear eR
  by_cases h2 : a % 2 = 0
  · have e2 : a.tmod 2 = 0 := by
      rw [← Int.dvd_iff_tmod_eq_zero]; exact Int.dvd_of_emod_eq_zero h2
    by_cases h3 : 16 ≤ a
    · by_cases h4 : a ≤ 4096
      · by_cases h5 : 16 ≤ b
        · have H3 := Hid.mk (And.intro h2 (And.intro h3 (And.intro h4 h5)))
          clear h2
          go_enter Tryz.func61, Tryz.ntmps61
          go_wp2
          go_ret
          refine ⟨ret_bool ?_, rfl⟩
          obtain ⟨x1, x2, x3, x4⟩ := H3.out
          by_cases h6 : b ≤ 4096
          · rw [H1.out ⟨⟨x2, x3⟩, x1, x4, h6⟩]; simpa using h6
          · rw [H2.out (fun h => h6 h.2.2.2)]; simpa using h6
        · have H3 := Hid.mk (H2.out (fun h => h5 h.2.2.1))
          clear h2
          go_enter Tryz.func61, Tryz.ntmps61
          go_wp2
          go_ret
          exact ⟨ret_bool H3.out.symm, rfl⟩
      · have H3 := Hid.mk (H2.out (fun h => h4 h.1.2))
        clear h2
        go_enter Tryz.func61, Tryz.ntmps61
        go_wp2
        go_ret
        exact ⟨ret_bool H3.out.symm, rfl⟩
    · have H3 := Hid.mk (H2.out (fun h => h3 h.1.1))
      clear h2
      go_enter Tryz.func61, Tryz.ntmps61
      go_wp2
      go_ret
      exact ⟨ret_bool H3.out.symm, rfl⟩
  · have e2 : (a.tmod 2 == 0) = false := by
      simp only [beq_eq_false_iff_ne]
      intro h; rw [← Int.dvd_iff_tmod_eq_zero] at h; exact h2 (Int.emod_eq_zero_of_dvd h)
    have H3 := Hid.mk (H2.out (fun h => h2 h.2.1))
    clear h2
    go_enter Tryz.func61, Tryz.ntmps61
    go_wp2
    go_ret
    exact ⟨ret_bool H3.out.symm, rfl⟩

set_option maxHeartbeats 4000000 in
set_option maxRecDepth 1000000 in
theorem rRung_any (r : Nat → Int) (W H D : Int) (A : Bool) (w : World) :
    Calls Tryz.prog 62 #[.agg #[.int .i64 W, .int .i64 H, .int .i64 D, .bool A], rgv r] w fun e w' => e = .returned (.bool (rmb r A)) ∧ Kept [] w w' := by
  have HN := Hid.mk (fun i hi h => rmb_no (r := r) (A := A) (i := i) hi h)
  have HA := Hid.mk (fun h => rmb_all (r := r) (A := A) h)
  have HT := Hid.mk (fun i h => tol_no (x := r i) h)
  have HY := Hid.mk (fun i h => (tol_yes (x := r i)).2 h)
  obtain ⟨R, eR⟩ : ∃ R, rmb r A = R := ⟨_, rfl⟩
  rw [eR] at HN HA ⊢
  obtain ⟨w1, e1⟩ : ∃ w1, w.alloc (.cells #[.int .i64 W, .int .i64 H, .int .i64 D, .bool A] 23 (0, 0)) = w1 := ⟨_, rfl⟩
  obtain ⟨w2, e2⟩ : ∃ w2, w1.alloc (.cells #[.int .i64 (r 0), .int .i64 (r 1), .int .i64 (r 2), .int .i64 (r 3)] 25 (0, 0)) = w2 := ⟨_, rfl⟩
  obtain ⟨B, eB⟩ : ∃ B, w.heap.size = B := ⟨_, rfl⟩
  have z1 : w1.heap.size = B + 1 := by rw [← e1, ← eB]; exact Array.size_push _
  have k1 : Kept [] w w1 := by rw [← e1]; exact (Kept.refl [] w).alloc _
  have k2 : Kept [] w1 w2 := by rw [← e2]; exact (Kept.refl [] w1).alloc _
  have s3 := cellAt (i := 3) (k2.heap (show w1.heap[B]? = some (.cells #[.int .i64 W, .int .i64 H, .int .i64 D, .bool A] 23 (0, 0)) by rw [← e1, ← eB]; exact heap_alloc_new _ _) (by simp)) rfl
  obtain ⟨c0, c1, c2, c3⟩ := cel4 (show w2.heap[B + 1]? = some (.cells #[.int .i64 (r 0), .int .i64 (r 1), .int .i64 (r 2), .int .i64 (r 3)] 25 (0, 0)) by rw [← e2, ← z1]; exact heap_alloc_new _ _)
  have HW := Hid.mk (k1.trans k2)
  obtain ⟨a0, g0⟩ : ∃ a, r 0 = a := ⟨_, rfl⟩
  obtain ⟨a1, g1⟩ : ∃ a, r 1 = a := ⟨_, rfl⟩
  obtain ⟨a2, g2⟩ : ∃ a, r 2 = a := ⟨_, rfl⟩
  obtain ⟨a3, g3⟩ : ∃ a, r 3 = a := ⟨_, rfl⟩
  have N0 : Hid (¬ (0 ≤ a0 ∧ a0 ≤ 63) → R = false) := Hid.mk (fun h => HN.out 0 (by omega) (HT.out 0 (by rw [g0]; exact h)))
  have N1 : Hid (¬ (0 ≤ a1 ∧ a1 ≤ 63) → R = false) := Hid.mk (fun h => HN.out 1 (by omega) (HT.out 1 (by rw [g1]; exact h)))
  have N2 : Hid (¬ (0 ≤ a2 ∧ a2 ≤ 63) → R = false) := Hid.mk (fun h => HN.out 2 (by omega) (HT.out 2 (by rw [g2]; exact h)))
  have N3 : Hid (¬ (0 ≤ a3 ∧ a3 ≤ 63) → R = false) := Hid.mk (fun h => HN.out 3 (by omega) (HT.out 3 (by rw [g3]; exact h)))
  have HF : Hid ((0 ≤ a0 ∧ a0 ≤ 63) → (0 ≤ a1 ∧ a1 ≤ 63) → (0 ≤ a2 ∧ a2 ≤ 63) → (0 ≤ a3 ∧ a3 ≤ 63) → R = (A || decide (a3 = 0))) := Hid.mk (fun h0 h1 h2 h3 => by
    rw [← g3]
    refine HA.out (fun i hi => HY.out i ?_)
    rcases (show i = 0 ∨ i = 1 ∨ i = 2 ∨ i = 3 by omega) with rfl | rfl | rfl | rfl
    · rw [g0]; exact h0
    · rw [g1]; exact h1
    · rw [g2]; exact h2
    · rw [g3]; exact h3)
  rw [g0] at c0
  rw [g1] at c1
  rw [g2] at c2
  rw [g3] at c3
  simp only [rgv, g0, g1, g2, g3] at e2 ⊢
  clear g0 g1 g2 g3 HN HA HT HY eR k1 k2
  go_enter Tryz.func62, Tryz.ntmps62
  go_wp2
  clear e1 e2 z1 eB
  go_loop [5] (fun i => ∃ k : Nat, k ≤ 4 ∧ i = .int .i64 (k : Int) ∧ Hid ((1 ≤ k → 0 ≤ a0 ∧ a0 ≤ 63) ∧ (2 ≤ k → 0 ≤ a1 ∧ a1 ≤ 63) ∧ (3 ≤ k → 0 ≤ a2 ∧ a2 ≤ 63) ∧ (4 ≤ k → 0 ≤ a3 ∧ a3 ≤ 63))) (fun i => 4 - (intOf i).toNat)
  case atStart => exact ⟨0, Nat.zero_le _, rfl, Hid.mk (by omega)⟩
  case round =>
    obtain ⟨k, hk, rfl, hall⟩ := hrel
    rcases (show k = 0 ∨ k = 1 ∨ k = 2 ∨ k = 3 ∨ k = 4 by omega) with rfl | rfl | rfl | rfl | rfl
    · by_cases h1 : 0 ≤ a0
      · by_cases h2 : a0 ≤ 63
        · go_wp2
          go_round
          case rel => exact ⟨1, by omega, rfl, Hid.mk (by have := hall.out; omega)⟩
          case measure => simp [intOf]
        · go_wp2
          go_ret
          exact ⟨ret_bool (N0.out (by omega)).symm, HW.out⟩
      · go_wp2
        go_ret
        exact ⟨ret_bool (N0.out (by omega)).symm, HW.out⟩
    · by_cases h1 : 0 ≤ a1
      · by_cases h2 : a1 ≤ 63
        · go_wp2
          go_round
          case rel => exact ⟨2, by omega, rfl, Hid.mk (by have := hall.out; omega)⟩
          case measure => simp [intOf]
        · go_wp2
          go_ret
          exact ⟨ret_bool (N1.out (by omega)).symm, HW.out⟩
      · go_wp2
        go_ret
        exact ⟨ret_bool (N1.out (by omega)).symm, HW.out⟩
    · by_cases h1 : 0 ≤ a2
      · by_cases h2 : a2 ≤ 63
        · go_wp2
          go_round
          case rel => exact ⟨3, by omega, rfl, Hid.mk (by have := hall.out; omega)⟩
          case measure => simp [intOf]
        · go_wp2
          go_ret
          exact ⟨ret_bool (N2.out (by omega)).symm, HW.out⟩
      · go_wp2
        go_ret
        exact ⟨ret_bool (N2.out (by omega)).symm, HW.out⟩
    · by_cases h1 : 0 ≤ a3
      · by_cases h2 : a3 ≤ 63
        · go_wp2
          go_round
          case rel => exact ⟨4, by omega, rfl, Hid.mk (by have := hall.out; omega)⟩
          case measure => simp [intOf]
        · go_wp2
          go_ret
          exact ⟨ret_bool (N3.out (by omega)).symm, HW.out⟩
      · go_wp2
        go_ret
        exact ⟨ret_bool (N3.out (by omega)).symm, HW.out⟩
    · have HR := Hid.mk (HF.out (hall.out.1 (by omega)) (hall.out.2.1 (by omega)) (hall.out.2.2.1 (by omega)) (hall.out.2.2.2 (by omega)))
      cases A
      · go_wp2
        go_ret
        exact ⟨ret_bool (by rw [HR.out]; first | (simp; done) | (simp; rfl) | rfl), HW.out⟩
      · go_wp2
        go_ret
        exact ⟨ret_bool (by rw [HR.out]; first | (simp; done) | (simp; rfl) | rfl), HW.out⟩
end Go.Proofs.YthhegomjipbdbaaGreatDoor.Pc

namespace Go.Proofs.YthhegomjipbdbaaGreatDoor.Pc
open Go.RowKit

set_option maxHeartbeats 4000000 in
set_option maxRecDepth 1000000 in
theorem rCount_any (W H D sw sh : Int) (A : Bool) (w : World) (hs : Tl.Shp W H D A) (hd : (16 ≤ sw ∧ sw ≤ 4096) ∧ sw % 2 = 0 ∧ (16 ≤ sh ∧ sh ≤ 4096)) :
    Calls Tryz.prog 63 #[Tl.shv W H D A, .int .i64 sw, .int .i64 sh] w fun e w' => e = .returned (.int .i64 (Tl.cl W sw * Tl.cl H sh)) ∧ Kept [] w w' := by
  obtain ⟨w1, e1⟩ : ∃ w1, w.alloc (.cells #[.int .i64 W, .int .i64 H, .int .i64 D, .bool A] 23 (0, 0)) = w1 := ⟨_, rfl⟩
  have k1 : Kept [] w w1 := by rw [← e1]; exact (Kept.refl [] w).alloc _
  obtain ⟨c0, c1, c2, c3⟩ := cel4 (show w1.heap[w.heap.size]? = some (.cells #[.int .i64 W, .int .i64 H, .int .i64 D, .bool A] 23 (0, 0)) by rw [← e1]; exact heap_alloc_new _ _)
  have g := Tl.Gd.of hs.1.1 hs.1.2 hs.2.1.1 hs.2.1.2 hd.1.1 hd.1.2 hd.2.1 hd.2.2.1 hd.2.2.2
  have C1 : Hid (∀ u, Calls Tryz.prog 87 #[.int .i64 W, .int .i64 sw] u fun e w' => e = .returned (.int .i64 (Tl.cl W sw)) ∧ w' = u) := Hid.mk (fun u => up_any W sw u (by have := hs.1.1; omega) (by have := hs.1.2; omega) (by omega) (by omega))
  have C2 : Hid (∀ u, Calls Tryz.prog 87 #[.int .i64 H, .int .i64 sh] u fun e w' => e = .returned (.int .i64 (Tl.cl H sh)) ∧ w' = u) := Hid.mk (fun u => up_any H sh u (by have := hs.2.1.1; omega) (by have := hs.2.1.2; omega) (by omega) (by omega))
  have K1 := Hid.mk k1
  have hm : wrap64 (Tl.cl W sw * Tl.cl H sh) = Tl.cl W sw * Tl.cl H sh := by
    have h1 : 0 ≤ Tl.cl W sw * Tl.cl H sh := Int.mul_nonneg (by have := g.c0; omega) (by have := g.r0; omega)
    have h2 : Tl.cl W sw * Tl.cl H sh ≤ 256 * 256 := Int.mul_le_mul g.c1 g.r1 (by have := g.r0; omega) (by omega)
    exact Tl.w64_in (by omega) (by omega)
  have hm2 : IntKind.i64.wrap (Tl.cl W sw * Tl.cl H sh) = Tl.cl W sw * Tl.cl H sh := by
    have h1 : 0 ≤ Tl.cl W sw * Tl.cl H sh := Int.mul_nonneg (by have := g.c0; omega) (by have := g.r0; omega)
    have h2 : Tl.cl W sw * Tl.cl H sh ≤ 256 * 256 := Int.mul_le_mul g.c1 g.r1 (by have := g.r0; omega) (by omega)
    clear hm
    exact Tl.wrap_i (by omega) (by omega)
  obtain ⟨cw, ecw⟩ : ∃ x, Tl.cl W sw = x := ⟨_, rfl⟩
  obtain ⟨ch, ech⟩ : ∃ x, Tl.cl H sh = x := ⟨_, rfl⟩
  rw [ecw] at C1
  rw [ech] at C2
  rw [ecw, ech] at hm hm2 ⊢
  have RK : Hid (∀ u, Kept [] w1 u → u.cell? ⟨w.heap.size, 0, none⟩ = some (.int .i64 W) ∧ u.cell? ⟨w.heap.size, 1, none⟩ = some (.int .i64 H)) := Hid.mk (fun u ku => ⟨Tl.cell_keep ku c0 (by simp), Tl.cell_keep ku c1 (by simp)⟩)
  clear k1 g ecw ech hs hd
  go_enter Tryz.func63, Tryz.ntmps63
  have Q1 : Hid (∀ q : KW w1, Calls Tryz.prog 87 #[.int .i64 W, .int .i64 sw] q.u fun r w' => r = .returned (.int .i64 cw) ∧ ∃ q' : KW w1, w' = q'.u) := Hid.mk fun q => (C1.out q.u).mono fun r w' ⟨h1, h2⟩ => ⟨h1, q, h2⟩
  have Q2 : Hid (∀ q : KW w1, Calls Tryz.prog 87 #[.int .i64 H, .int .i64 sh] q.u fun r w' => r = .returned (.int .i64 ch) ∧ ∃ q' : KW w1, w' = q'.u) := Hid.mk fun q => (C2.out q.u).mono fun r w' ⟨h1, h2⟩ => ⟨h1, q, h2⟩
  have r0 := fun q : KW w1 => (RK.out q.u q.h).1
  have r1 := fun q : KW w1 => (RK.out q.u q.h).2
  have NE : Nonempty (KW w1) := ⟨⟨w1, Kept.refl _ _⟩⟩
  go_wp2_with (fail)
  clear e1 c0 c1 c2 c3
  refine wp_region_kept (by kernel_rfl) (by kernel_rfl) ?_
  repeat (go_big_quiet_step ((first | (go_at_call_of 87 sw; exact Q1.out _) | (go_at_call_of 87 sh; exact Q2.out _))))
  refine wpQuiet_nil ?_
  rintro _ ⟨q, rfl⟩
  go_wp2
  go_ret
  exact ⟨ret_int (by first | rfl | exact hm2 | exact hm), K1.out.trans q.h⟩

set_option maxHeartbeats 8000000 in
set_option maxRecDepth 1000000 in
theorem rValid_any (W H D : Int) (A : Bool) (sw sh : Int) (lo : Option Addr) (n c : Nat) (L : Nat → Nat → Int) (cap p : Int) (w : World) (hL : Ldr w lo n L) (hn : n ≤ 9223372036854775807) :
    Calls Tryz.prog 38 #[cfv sw sh lo n c cap p, Tl.shv W H D A] w fun e w' => e = .returned (.int .i64 (cfE W H D A sw sh n L cap p)) ∧ Kept [] w w' := by
  obtain ⟨w1, e1⟩ : ∃ w1, w.alloc (.cells #[.int .i64 sw, .int .i64 sh, .slice lo n c, .int .i64 cap, .int .i64 p] 45 (0, 0)) = w1 := ⟨_, rfl⟩
  obtain ⟨w2, e2⟩ : ∃ w2, w1.alloc (.cells #[.int .i64 W, .int .i64 H, .int .i64 D, .bool A] 23 (0, 0)) = w2 := ⟨_, rfl⟩
  obtain ⟨B, eB⟩ : ∃ B, w.heap.size = B := ⟨_, rfl⟩
  have z1 : w1.heap.size = B + 1 := by rw [← e1, ← eB]; exact Array.size_push _
  have k1 : Kept [] w w1 := by rw [← e1]; exact (Kept.refl [] w).alloc _
  have k2 : Kept [] w1 w2 := by rw [← e2]; exact (Kept.refl [] w1).alloc _
  have HC := Hid.mk (k2.heap (show w1.heap[B]? = some (.cells #[.int .i64 sw, .int .i64 sh, .slice lo n c, .int .i64 cap, .int .i64 p] 45 (0, 0)) by rw [← e1, ← eB]; exact heap_alloc_new _ _) (by simp))
  have HS := Hid.mk (show w2.heap[B + 1]? = some (.cells #[.int .i64 W, .int .i64 H, .int .i64 D, .bool A] 23 (0, 0)) by rw [← e2, ← z1]; exact heap_alloc_new _ _)
  have K2 := Hid.mk (k1.trans k2)
  have HL := Hid.mk (hL.keep K2.out)
  have C1 := Hid.mk (fun u => Tl.rshaped_any W H D A u)
  obtain ⟨q0, q1, q2, q3, q4⟩ := cel5 HC.out
  obtain ⟨s0, s1, s2, s3⟩ := cel4 HS.out
  clear hL k1 k2
  by_cases hs : Tl.shE W H D A = 0
  · rw [hs] at C1
    have C2 := Hid.mk (fun u => sides_any sw sh u)
    have hshp := shp_of hs
    have F0 : Hid (¬ (sdE sw sh = true ∧ lmb n L A = true ∧ 0 ≤ cap ∧ pmb p (Tl.cl W sw * Tl.cl H sh) = true) → cfE W H D A sw sh n L cap p = 121) := Hid.mk (fun h => by
      unfold cfE
      rw [if_pos hs, if_neg (fun h2 => h ⟨by unfold sdE; exact decide_eq_true (nwE_zero h2.1).2, h2.2⟩)])
    have F1 : Hid (sdE sw sh = true ∧ lmb n L A = true ∧ 0 ≤ cap ∧ pmb p (Tl.cl W sw * Tl.cl H sh) = true → cfE W H D A sw sh n L cap p = 0) := Hid.mk (fun h => by
      unfold cfE
      have h1 := h.1
      unfold sdE at h1
      rw [if_pos hs, if_pos ⟨nwE_ok hshp (of_decide_eq_true h1), h.2⟩])
    obtain ⟨E, eE⟩ : ∃ E, cfE W H D A sw sh n L cap p = E := ⟨_, rfl⟩
    rw [eE] at F0 F1 ⊢
    clear eE hs
    have HSD : Hid (sdE sw sh = true → (16 ≤ sw ∧ sw ≤ 4096) ∧ sw % 2 = 0 ∧ (16 ≤ sh ∧ sh ≤ 4096)) := Hid.mk (fun h => by unfold sdE at h; exact of_decide_eq_true h)
    obtain ⟨sb, esb⟩ : ∃ b, sdE sw sh = b := ⟨_, rfl⟩
    rw [esb] at C2 F0 F1 HSD
    clear esb
    cases sb
    · have HE := Hid.mk (F0.out (by simp))
      clear hn hshp
      go_enter Tryz.func38, Tryz.ntmps38
      go_wp2_with (fail)
      clear e1 e2 z1 eB
      refine (C1.out _).mono ?_
      rintro e w3 ⟨rfl, k3⟩
      have K3 := Hid.mk k3
      clear q0 q1 q2 q3 q4 s0 s1 s2 s3 k3
      obtain ⟨q0, q1, q2, q3, q4⟩ := cel5 (K3.out.heap HC.out (by simp))
      go_wp2_with (fail)
      refine (C2.out _).mono ?_
      rintro e w4 ⟨rfl, hw⟩
      obtain rfl := hw.symm
      go_wp2
      go_ret
      exact ⟨ret_int HE.out.symm, K2.out.trans K3.out⟩
    · by_cases h1 : 1 ≤ n ∧ n ≤ 16
      · obtain ⟨h1, h16⟩ := h1
        have d1 : decide ((n : Int) < 1) = false := by simp; omega
        have d2 : decide ((16 : Int) < (n : Int)) = false := by simp; omega
        by_cases hcap : cap < 0
        · have HE := Hid.mk (F0.out (fun h => by have := h.2.2.1; omega))
          clear hn hshp h1 h16
          go_enter Tryz.func38, Tryz.ntmps38
          go_wp2_with (fail)
          clear e1 e2 z1 eB
          refine (C1.out _).mono ?_
          rintro e w3 ⟨rfl, k3⟩
          have K3 := Hid.mk k3
          clear q0 q1 q2 q3 q4 s0 s1 s2 s3 k3
          obtain ⟨q0, q1, q2, q3, q4⟩ := cel5 (K3.out.heap HC.out (by simp))
          go_wp2_with (fail)
          refine (C2.out _).mono ?_
          rintro e w4 ⟨rfl, hw⟩
          obtain rfl := hw.symm
          go_wp2
          go_ret
          exact ⟨ret_int HE.out.symm, K2.out.trans K3.out⟩
        · have dcap : decide (cap < 0) = false := by simpa using hcap
          by_cases hp0 : p < 0
          · have HE := Hid.mk (F0.out (fun h => by have h9 := h.2.2.2; unfold pmb at h9; have := of_decide_eq_true h9; omega))
            clear hn hshp h1 h16
            go_enter Tryz.func38, Tryz.ntmps38
            go_wp2_with (fail)
            clear e1 e2 z1 eB
            refine (C1.out _).mono ?_
            rintro e w3 ⟨rfl, k3⟩
            have K3 := Hid.mk k3
            clear q0 q1 q2 q3 q4 s0 s1 s2 s3 k3
            obtain ⟨q0, q1, q2, q3, q4⟩ := cel5 (K3.out.heap HC.out (by simp))
            go_wp2_with (fail)
            refine (C2.out _).mono ?_
            rintro e w4 ⟨rfl, hw⟩
            obtain rfl := hw.symm
            go_wp2
            go_ret
            exact ⟨ret_int HE.out.symm, K2.out.trans K3.out⟩
          · have dp0 : decide (p < 0) = false := by simpa using hp0
            by_cases hp16 : 16 < p
            · have HE := Hid.mk (F0.out (fun h => by have h9 := h.2.2.2; unfold pmb at h9; have := of_decide_eq_true h9; omega))
              clear hn hshp h1 h16
              go_enter Tryz.func38, Tryz.ntmps38
              go_wp2_with (fail)
              clear e1 e2 z1 eB
              refine (C1.out _).mono ?_
              rintro e w3 ⟨rfl, k3⟩
              have K3 := Hid.mk k3
              clear q0 q1 q2 q3 q4 s0 s1 s2 s3 k3
              obtain ⟨q0, q1, q2, q3, q4⟩ := cel5 (K3.out.heap HC.out (by simp))
              go_wp2_with (fail)
              refine (C2.out _).mono ?_
              rintro e w4 ⟨rfl, hw⟩
              obtain rfl := hw.symm
              go_wp2
              go_ret
              exact ⟨ret_int HE.out.symm, K2.out.trans K3.out⟩
            · have dp16 : decide (16 < p) = false := by simpa using hp16
              have CC := Hid.mk (fun u => rCount_any W H D sw sh A u hshp (HSD.out rfl))
              have HCP : Hid (0 ≤ cap ∧ 0 ≤ p ∧ p ≤ 16) := Hid.mk (by omega)
              have HN16 := Hid.mk (And.intro h1 h16)
              obtain ⟨Nn, eNn⟩ : ∃ x, Tl.cl W sw * Tl.cl H sh = x := ⟨_, rfl⟩
              rw [eNn] at CC F0 F1
              clear hn hshp h16 hcap hp0 hp16 eNn
              go_enter Tryz.func38, Tryz.ntmps38
              go_wp2_with (fail)
              clear e1 e2 z1 eB
              refine (C1.out _).mono ?_
              rintro e w3 ⟨rfl, k3⟩
              have K3 := Hid.mk k3
              clear q0 q1 q2 q3 q4 s0 s1 s2 s3 k3
              obtain ⟨q0, q1, q2, q3, q4⟩ := cel5 (K3.out.heap HC.out (by simp))
              go_wp2_with (fail)
              refine (C2.out _).mono ?_
              rintro e w4 ⟨rfl, hw⟩
              obtain rfl := hw.symm
              go_wp2
              clear q0 q1 q2 q3 q4
              go_loopw [7] (fun i wr => ∃ k : Nat, k ≤ n ∧ i = .int .i64 (k : Int) ∧ Hid (Kept [] w3 wr ∧ ∀ j, j < k → rmb (L j) A = true)) (fun i _ => n - (intOf i).toNat)
              case atStart => exact ⟨0, Nat.zero_le _, rfl, Hid.mk ⟨Kept.refl _ _, fun j hj => by omega⟩⟩
              case round =>
                obtain ⟨k, hk, rfl, HI⟩ := hrel
                have HCr := (K3.out.trans HI.out.1).heap HC.out (by simp)
                have HSr := (K3.out.trans HI.out.1).heap HS.out (by simp)
                obtain ⟨q0, q1, q2, q3, q4⟩ := cel5 HCr
                by_cases hlt : k < n
                · obtain ⟨gl, off, rfl, l0, l1, l2, l3⟩ := (HL.out.keep (K3.out.trans HI.out.1)).at hlt
                  have ix : (k : Int) < (n : Int) := by omega
                  have HNO : Hid (rmb (L k) A = false → E = 121) := Hid.mk (fun h => F0.out (fun h2 => by rw [lmb_no hlt h] at h2; cases h2.2.1))
                  have CQ := Hid.mk (fun u => rRung_any (L k) W H D A u)
                  obtain ⟨qb, eqb⟩ : ∃ q, rmb (L k) A = q := ⟨_, rfl⟩
                  rw [eqb] at CQ HNO
                  have EQ := Hid.mk eqb
                  obtain ⟨a0, g0⟩ : ∃ a, L k 0 = a := ⟨_, rfl⟩
                  obtain ⟨a1, g1⟩ : ∃ a, L k 1 = a := ⟨_, rfl⟩
                  obtain ⟨a2, g2⟩ : ∃ a, L k 2 = a := ⟨_, rfl⟩
                  obtain ⟨a3, g3⟩ : ∃ a, L k 3 = a := ⟨_, rfl⟩
                  simp only [rgv, g0, g1, g2, g3] at CQ l0 l1 l2 l3
                  have x0 := fun z : KW wr => cellAt (i := 0) (z.h.heap HSr (by simp)) rfl
                  have x1 := fun z : KW wr => cellAt (i := 1) (z.h.heap HSr (by simp)) rfl
                  have x2 := fun z : KW wr => cellAt (i := 2) (z.h.heap HSr (by simp)) rfl
                  have x3 := fun z : KW wr => cellAt (i := 3) (z.h.heap HSr (by simp)) rfl
                  have y2 := fun z : KW wr => cellAt (i := 2) (z.h.heap HCr (by simp)) rfl
                  have m0 := fun z : KW wr => Tl.cell_keep z.h l0 (by simp)
                  have m1 := fun z : KW wr => Tl.cell_keep z.h l1 (by simp)
                  have m2 := fun z : KW wr => Tl.cell_keep z.h l2 (by simp)
                  have m3 := fun z : KW wr => Tl.cell_keep z.h l3 (by simp)
                  have Q1 : Hid (∀ z : KW wr, Calls Tryz.prog 62 #[.agg #[.int .i64 W, .int .i64 H, .int .i64 D, .bool A], .agg #[.int .i64 a0, .int .i64 a1, .int .i64 a2, .int .i64 a3]] z.u fun r w' => r = .returned (.bool qb) ∧ ∃ z' : KW wr, w' = z'.u) := Hid.mk fun z => (CQ.out z.u).mono fun r w' ⟨h1, h2⟩ => ⟨h1, ⟨w', z.h.trans h2⟩, rfl⟩
                  have NE : Nonempty (KW wr) := ⟨⟨wr, Kept.refl _ _⟩⟩
                  clear g0 g1 g2 g3 eqb HCr HSr l0 l1 l2 l3 CQ
                  go_wp2_with (fail)
                  clear q0 q1 q2 q3 q4
                  refine wp_region_kept (by kernel_rfl) (by kernel_rfl) ?_
                  repeat (go_big_quiet_step ((go_at_call 62; exact Q1.out _)))
                  refine wpQuiet_nil ?_
                  rintro _ ⟨z, rfl⟩
                  have KZ := Hid.mk (HI.out.1.trans z.h)
                  generalize z.u = wz at *
                  clear x0 x1 x2 x3 y2 m0 m1 m2 m3 Q1 NE
                  cases qb
                  · have HE := Hid.mk (HNO.out rfl)
                    go_wp2
                    go_ret
                    exact ⟨ret_int HE.out.symm, (K2.out.trans K3.out).trans KZ.out⟩
                  · have hk1 : wrap64 ((k : Int) + 1) = ((k + 1 : Nat) : Int) := w64_add (b := 1) rfl (by have := HN16.out; omega)
                    go_wp2
                    rw [hk1]
                    clear hk1
                    go_roundw
                    case rel => exact ⟨k + 1, by omega, rfl, Hid.mk ⟨KZ.out, fun j hj => by
                      by_cases e : j = k
                      · subst e; exact EQ.out
                      · exact HI.out.2 j (by omega)⟩⟩
                    case measure => simp [intOf]; omega
                · obtain rfl : n = k := by omega
                  have HLM : Hid (lmb n L A = true) := Hid.mk (lmb_yes.2 ⟨HN16.out, HI.out.2⟩)
                  obtain ⟨s0, s1, s2, s3⟩ := cel4 HSr
                  have HK9 := Hid.mk ((K2.out.trans K3.out).trans HI.out.1)
                  clear HCr HSr hk hlt
                  by_cases hp1 : 0 < p
                  · go_wp2_with (fail)
                    refine (CC.out _).mono ?_
                    rintro e w5 ⟨rfl, k5⟩
                    have K5 := Hid.mk (HK9.out.trans k5)
                    clear q0 q1 q2 q3 q4 s0 s1 s2 s3 k5
                    by_cases h200 : 200 < Nn
                    · have HE := Hid.mk (F0.out (fun h => by have h9 := h.2.2.2; unfold pmb at h9; have := of_decide_eq_true h9; omega))
                      go_wp2
                      go_ret
                      exact ⟨ret_int HE.out.symm, K5.out⟩
                    · have d200 : decide (200 < Nn) = false := by simpa using h200
                      have HE := Hid.mk (F1.out ⟨by first | rfl | trivial, HLM.out, HCP.out.1, by unfold pmb; exact decide_eq_true ⟨HCP.out.2, .inr (by omega)⟩⟩)
                      go_wp2
                      go_ret
                      exact ⟨ret_int HE.out.symm, K5.out⟩
                  · have dp1 : decide (0 < p) = false := by simpa using hp1
                    have HE := Hid.mk (F1.out ⟨by first | rfl | trivial, HLM.out, HCP.out.1, by unfold pmb; exact decide_eq_true ⟨HCP.out.2, .inl (by have := HCP.out; omega)⟩⟩)
                    clear hp1
                    go_wp2
                    go_ret
                    exact ⟨ret_int HE.out.symm, HK9.out⟩
      · have HE := Hid.mk (F0.out (fun h => by rw [lmb_len h1] at h; cases h.2.1))
        by_cases h2 : 1 ≤ n
        · have d1 : decide ((n : Int) < 1) = false := by simp; omega
          have d2 : decide ((16 : Int) < (n : Int)) = true := by simp; omega
          clear hn hshp h1 h2
          go_enter Tryz.func38, Tryz.ntmps38
          go_wp2_with (fail)
          clear e1 e2 z1 eB
          refine (C1.out _).mono ?_
          rintro e w3 ⟨rfl, k3⟩
          have K3 := Hid.mk k3
          clear q0 q1 q2 q3 q4 s0 s1 s2 s3 k3
          obtain ⟨q0, q1, q2, q3, q4⟩ := cel5 (K3.out.heap HC.out (by simp))
          go_wp2_with (fail)
          refine (C2.out _).mono ?_
          rintro e w4 ⟨rfl, hw⟩
          obtain rfl := hw.symm
          go_wp2
          go_ret
          exact ⟨ret_int HE.out.symm, K2.out.trans K3.out⟩
        · have d1 : decide ((n : Int) < 1) = true := by simp; omega
          clear hn hshp h1 h2
          go_enter Tryz.func38, Tryz.ntmps38
          go_wp2_with (fail)
          clear e1 e2 z1 eB
          refine (C1.out _).mono ?_
          rintro e w3 ⟨rfl, k3⟩
          have K3 := Hid.mk k3
          clear q0 q1 q2 q3 q4 s0 s1 s2 s3 k3
          obtain ⟨q0, q1, q2, q3, q4⟩ := cel5 (K3.out.heap HC.out (by simp))
          go_wp2_with (fail)
          refine (C2.out _).mono ?_
          rintro e w4 ⟨rfl, hw⟩
          obtain rfl := hw.symm
          go_wp2
          go_ret
          exact ⟨ret_int HE.out.symm, K2.out.trans K3.out⟩
  · have f61 : Tl.shE W H D A = 61 := by unfold Tl.shE at hs ⊢; split at hs; exact absurd rfl hs; rename_i h9; rw [if_neg h9]
    have e9 : cfE W H D A sw sh n L cap p = 61 := by unfold cfE; rw [if_neg hs]
    rw [e9]
    rw [f61] at C1
    clear hs e9 f61 hn
    go_enter Tryz.func38, Tryz.ntmps38
    go_wp2_with (fail)
    clear e1 e2 z1 eB
    refine (C1.out _).mono ?_
    rintro e w3 ⟨rfl, k3⟩
    have K3 := Hid.mk k3
    clear q0 q1 q2 q3 q4 s0 s1 s2 s3 k3
    obtain ⟨q0, q1, q2, q3, q4⟩ := cel5 (K3.out.heap HC.out (by simp))
    go_wp2
    go_ret
    exact ⟨rfl, K2.out.trans K3.out⟩
end Go.Proofs.YthhegomjipbdbaaGreatDoor.Pc

namespace Go.Proofs.YthhegomjipbdbaaGreatDoor.Pc
open Go.RowKit

theorem part_sz {W H D sw sh c r : Int} {A : Bool} (hs : Tl.Shp W H D A) (g : Tl.Gd W H sw sh c r) {k q : Nat} (k1 : (k : Int) < c * r) (hq : q < Tl.np A) : pw W sw c (q : Int) (k : Int) * ph H sh c (k : Int) ≤ 4194304 := by
  obtain ⟨_, _, h3, h4, h5, h6, h7, h8⟩ := part_in g k1 q
  have hw := pw_in g (q : Int) (k : Int)
  have hh := ph_in g (by omega : (0 : Int) ≤ k) k1
  exact Int.le_trans (Int.mul_le_mul (by omega) (by omega) (by omega) (by have := Tl.wp_lo (q : Int) hs.1.1; omega)) (wp_tot hs hq)
theorem raw_at {W H D sw sh c r : Int} {A : Bool} (hs : Tl.Shp W H D A) (g : Tl.Gd W H sw sh c r) {k q : Nat} (k1 : (k : Int) < c * r) (hq : q < Tl.np A) :
    rsz (pw W sw c (q : Int) (k : Int)) (ph H sh c (k : Int)) D = (pz D (pw W sw c (q : Int) (k : Int)) (ph H sh c (k : Int)) - 3, 0) := by
  have hw := pw_in g (q : Int) (k : Int)
  have hh := ph_in g (by omega : (0 : Int) ≤ k) k1
  have hz := part_sz hs g k1 hq
  have hD := hs.2.2.1
  unfold rsz
  rw [if_neg (by omega), if_pos (by unfold szd; exact decide_eq_true ⟨hw.1, hw.2, hh.1, hh.2, hz⟩)]
  unfold pz
  congr 1
  omega

set_option maxHeartbeats 4000000 in
theorem pplanes_any (W H D : Int) (A : Bool) (w : World) : Calls Tryz.prog 75 #[Tl.shv W H D A] w fun e w' => e = .returned (.int .i64 (Tl.np A : Int)) ∧ Kept [] w w' := by
  obtain ⟨w1, e1⟩ : ∃ w1, w.alloc (.cells #[.int .i64 W, .int .i64 H, .int .i64 D, .bool A] 23 (0, 0)) = w1 := ⟨_, rfl⟩
  have K1 : Hid (Kept [] w w1) := Hid.mk (by rw [← e1]; exact (Kept.refl [] w).alloc _)
  obtain ⟨h0, h1, h2, h3⟩ := cel4 (show w1.heap[w.heap.size]? = _ by rw [← e1]; exact heap_alloc_new _ _)
  cases A
  · go_enter Tryz.func75, Tryz.ntmps75
    go_wp2
    go_ret
    exact ⟨rfl, K1.out⟩
  · go_enter Tryz.func75, Tryz.ntmps75
    go_wp2
    go_ret
    exact ⟨rfl, K1.out⟩

theorem wq {x : Int} (h : -9000000000000000000 ≤ x ∧ x ≤ 9000000000000000000) : wrap64 x = x ∧ IntKind.i64.wrap x = x := ⟨Tl.w64_in (by omega) (by omega), Tl.wrap_i (by omega) (by omega)⟩
theorem wq2 {x z : Int} (e : x = z) (h : -9000000000000000000 ≤ z ∧ z ≤ 9000000000000000000) : wrap64 x = z ∧ IntKind.i64.wrap x = z := by subst e; exact wq h

set_option maxHeartbeats 8000000 in
set_option maxRecDepth 1000000 in
theorem longest_any (P : Nat) (W H D sw sh c r : Int) (A : Bool) (k : Nat) (w : World) (hg : Tl.Gr w P W H D A sw sh c r) (g : Tl.Gd W H sw sh c r) (hs : Tl.Shp W H D A) (k1 : (k : Int) < c * r) :
    Calls Tryz.prog 48 #[.pointer (some ⟨P, 0, none⟩), .int .i64 (k : Int), Tl.shv W H D A] w fun e w' => e = .returned (.int .i64 (pzs W H D sw sh c (Tl.np A) k)) ∧ Kept [] w w' := by
  obtain ⟨B, eB⟩ : ∃ B, w.heap.size = B := ⟨_, rfl⟩
  obtain ⟨w1, e1⟩ : ∃ w1, w.alloc (.cells #[.int .i64 W, .int .i64 H, .int .i64 D, .bool A] 23 (0, 0)) = w1 := ⟨_, rfl⟩
  have K1 : Hid (Kept [] w w1) := Hid.mk (by rw [← e1]; exact (Kept.refl [] w).alloc _)
  have HS := Hid.mk (show w1.heap[B]? = some (.cells #[.int .i64 W, .int .i64 H, .int .i64 D, .bool A] 23 (0, 0)) by rw [← e1, ← eB]; exact heap_alloc_new _ _)
  obtain ⟨s0, s1, s2, s3⟩ := cel4 HS.out
  have HG := Hid.mk (hg.keep K1.out (by simp))
  have C1 := Hid.mk (fun u => pplanes_any W H D A u)
  have C2 := Hid.mk (fun q (hq : q < Tl.np A) u (hu : Tl.Gr u P W H D A sw sh c r) => Tl.tpart_ok P W H D sw sh c r (k : Int) (q : Int) A u hu g hs (by omega) k1 ⟨by omega, by omega⟩)
  have C3 := Hid.mk (fun q (hq : q < Tl.np A) u => rawSize_any (pw W sw c (q : Int) (k : Int)) (ph H sh c (k : Int)) D u)
  have HR := Hid.mk (fun q (hq : q < Tl.np A) => raw_at hs g k1 hq)
  have HB := Hid.mk (fun q (hq : q < Tl.np A) => (show 4 ≤ pz D (pw W sw c (q : Int) (k : Int)) (ph H sh c (k : Int)) ∧ pz D (pw W sw c (q : Int) (k : Int)) (ph H sh c (k : Int)) ≤ 7000000 by
    have hw := pw_in g (q : Int) (k : Int)
    have hh := ph_in g (by omega : (0 : Int) ≤ k) k1
    have hz := part_sz hs g k1 hq
    have h0 : 0 ≤ pw W sw c (q : Int) (k : Int) * ph H sh c (k : Int) := Int.mul_nonneg (by omega) (by omega)
    unfold pz
    rw [Int.mul_assoc]
    generalize pw W sw c (q : Int) (k : Int) * ph H sh c (k : Int) = z at *
    rcases hs.2.2.1 with rfl | rfl <;> omega))
  have HM := Hid.mk (Tl.np_hi A)
  obtain ⟨m, em⟩ : ∃ m, Tl.np A = m := ⟨_, rfl⟩
  rw [em] at C1 C2 C3 HR HB HM ⊢
  have GF : Hid (pzs W H D sw sh c m k = sI (fun q => pz D (pw W sw c (q : Int) (k : Int)) (ph H sh c (k : Int))) m) := Hid.mk rfl
  obtain ⟨G, eG⟩ : ∃ G : Nat → Int, (fun (q : Nat) => pz D (pw W sw c (q : Int) (k : Int)) (ph H sh c (k : Int))) = G := ⟨_, rfl⟩
  have GG : Hid (∀ (q : Nat), pz D (pw W sw c (q : Int) (k : Int)) (ph H sh c (k : Int)) = G q) := Hid.mk (fun q => congrFun eG q)
  rw [eG] at GF
  obtain ⟨T, eT⟩ : ∃ T, pzs W H D sw sh c m k = T := ⟨_, rfl⟩
  rw [eT] at GF ⊢
  clear hg g hs k1 em eG eT
  go_enter Tryz.func48, Tryz.ntmps48
  go_wp2_with (fail)
  clear e1 eB
  refine (C1.out _).mono ?_
  rintro e w2 ⟨rfl, k2⟩
  have K2 := Hid.mk k2
  clear s0 s1 s2 s3 k2
  go_wp2
  go_loopw [7, 15] (fun t i wr => ∃ (q : Nat) (S : Int), q ≤ m ∧ i = .int .i64 (q : Int) ∧ t = .int .i64 S ∧ Hid (S = sI G q ∧ Kept [] w2 wr)) (fun _ i _ => m - (intOf i).toNat)
  case atStart => exact ⟨0, 0, Nat.zero_le _, rfl, rfl, Hid.mk ⟨rfl, Kept.refl _ _⟩⟩
  case round =>
    obtain ⟨q, S, hq, rfl, rfl, HI⟩ := hrel
    by_cases hqm : q < m
    · have iq : (q : Int) < (m : Int) := by omega
      have HQ := Hid.mk hqm
      have C2q := Hid.mk (C2.out q hqm wr (HG.out.keep (K2.out.trans HI.out.2) (by simp)))
      have C3q := Hid.mk (C3.out q hqm)
      rw [HR.out q hqm] at C3q
      have hb := HB.out q hqm
      have hg := GG.out q
      have e3 : ∀ p k : Int, Tl.bW p (min sw (W - Tl.sX c sw k)) = pw W sw c p k := fun _ _ => rfl
      have e4 : ∀ k : Int, min sh (H - Tl.sY c sh k) = ph H sh c k := fun _ => rfl
      rw [e3, e4] at C2q
      obtain ⟨x, ex⟩ : ∃ x, Tl.bX (q : Int) (Tl.sX c sw (k : Int)) = x := ⟨_, rfl⟩
      obtain ⟨y, ey⟩ : ∃ y, Tl.sY c sh (k : Int) = y := ⟨_, rfl⟩
      rw [hg] at C3q hb
      obtain ⟨a, ea⟩ : ∃ a, pw W sw c (q : Int) (k : Int) = a := ⟨_, rfl⟩
      obtain ⟨b, eb⟩ : ∃ b, ph H sh c (k : Int) = b := ⟨_, rfl⟩
      rw [ex, ey, ea, eb] at C2q
      rw [ea, eb] at C3q
      have HSS : Hid (S + G q = sI G (q + 1)) := Hid.mk (by
        have h1 := HI.out.1
        show S + G q = sI G q + G q
        omega)
      have HSB : Hid (0 ≤ S ∧ S ≤ 28000000) := Hid.mk (by
        rw [HI.out.1]
        have h9 := sI_le (f := G) (g := fun _ => 7000000) (n := q) (fun i hi => by rw [← GG.out i]; exact (HB.out i (by omega)).2)
        have h8 := sI_nn (f := G) (n := q) (fun i hi => by rw [← GG.out i]; have := (HB.out i (by omega)).1; omega)
        rw [sI_const] at h9
        have h7 := HM.out
        omega)
      obtain ⟨z, ez⟩ : ∃ z, G q = z := ⟨_, rfl⟩
      rw [ez] at C3q hb HSS
      have HZ := Hid.mk hb
      obtain ⟨v, ev⟩ : ∃ v, z - 3 = v := ⟨_, rfl⟩
      rw [ev] at C3q
      have e7 : 3 + v = z := by omega
      have v1 := wq2 e7 (by omega)
      have v2 := wq (x := S + z) (by have := HSB.out; have := HZ.out; omega)
      have v5 := wq2 (x := (q : Int) + 1) (z := ((q + 1 : Nat) : Int)) rfl (by have := HQ.out; have := HM.out; omega)
      obtain ⟨v1a, v1b⟩ := v1
      obtain ⟨v2a, v2b⟩ := v2
      obtain ⟨v5a, v5b⟩ := v5
      clear hb hg e3 e4 ex ey ea eb ez ev e7 hqm hq
      go_wp2_with (fail)
      refine C2q.out.mono ?_
      rintro e w3 ⟨rfl, k3⟩
      have K3 := Hid.mk (HI.out.2.trans k3)
      clear k3
      have K4 : Hid (Kept [] w2 (w3.alloc (.cells #[.int .i64 x, .int .i64 y, .int .i64 a, .int .i64 b] 54 (0, 0)))) := Hid.mk (K3.out.alloc _)
      have s2 : (w3.alloc (.cells #[.int .i64 x, .int .i64 y, .int .i64 a, .int .i64 b] 54 (0, 0))).cell? ⟨B, 2, none⟩ = some (.int .i64 D) := cellAt (i := 2) ((K2.out.trans K4.out).heap HS.out (by simp)) rfl
      go_wp2_with (fail)
      refine (C3q.out _).mono ?_
      rintro e w8 ⟨rfl, hw⟩
      obtain rfl := hw.symm
      clear hw
      obtain ⟨w7, e7⟩ : ∃ z, w3.alloc (.cells #[.int .i64 x, .int .i64 y, .int .i64 a, .int .i64 b] 54 (0, 0)) = z := ⟨_, rfl⟩
      rw [e7] at K4 ⊢
      clear s2 e7
      go_wp2
      clear v1a v1b v2a v2b v5a v5b
      go_roundw
      case rel => exact ⟨q + 1, S + z, HQ.out, rfl, rfl, Hid.mk ⟨HSS.out, K4.out⟩⟩
      case measure => (clear iq; simp [intOf]; have := HQ.out; omega)
    · obtain rfl : m = q := by omega
      have HT : Hid (S = T) := Hid.mk (by rw [HI.out.1, GF.out])
      clear hqm hq
      go_wp2
      go_ret
      exact ⟨by rw [← HT.out]; rfl, (K1.out.trans K2.out).trans HI.out.2⟩
end Go.Proofs.YthhegomjipbdbaaGreatDoor.Pc
