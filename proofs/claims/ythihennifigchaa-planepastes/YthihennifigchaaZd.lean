import Derived.Test.YthihennifigchaaZaZ
import Derived.Test.YthihennifigchaaZc
namespace Go.Proofs.Ythihennifigchaa
open Go.RowKit

/-- A plane of which the first k samples of a block were laid in. -/
def prK (f bf : Nat → Nat) (wN X Y bw k : Nat) : Nat → Nat := fun j => if Y ≤ j / wN ∧ X ≤ j % wN ∧ j % wN < X + bw ∧ (j / wN - Y) * bw + (j % wN - X) < k then bf ((j / wN - Y) * bw + (j % wN - X)) else f j
theorem prK_zero (f bf : Nat → Nat) (wN X Y bw j : Nat) : prK f bf wN X Y bw 0 j = f j := if_neg (by omega)
theorem pos_div (wN X Y bw k : Nat) (hX : X + bw ≤ wN) (hb : 1 ≤ bw) : ((Y + k / bw) * wN + X + k % bw) / wN = Y + k / bw ∧ ((Y + k / bw) * wN + X + k % bw) % wN = X + k % bw := by
  have hm := Nat.mod_lt k hb
  have hl : X + k % bw < wN := by omega
  rw [Nat.add_assoc, Nat.mul_comm]
  exact ⟨by rw [Nat.mul_add_div (by omega), Nat.div_eq_of_lt hl, Nat.add_zero], by rw [Nat.mul_add_mod, Nat.mod_eq_of_lt hl]⟩
theorem prK_step (f bf : Nat → Nat) (wN X Y bw k : Nat) (hX : X + bw ≤ wN) (hb : 1 ≤ bw) : (fun t => if t = (Y + k / bw) * wN + X + k % bw then bf k else prK f bf wN X Y bw k t) = prK f bf wN X Y bw (k + 1) := by
  funext j
  have hp := pos_div wN X Y bw k hX hb
  have hdm := Nat.div_add_mod k bw
  have hml := Nat.mod_lt k hb
  by_cases e : j = (Y + k / bw) * wN + X + k % bw
  · have hi : (j / wN - Y) * bw + (j % wN - X) = k := by
      rw [e, hp.1, hp.2, Nat.add_sub_cancel_left, Nat.add_sub_cancel_left, Nat.mul_comm]
      exact hdm
    rw [if_pos e]
    unfold prK
    rw [if_pos ⟨by rw [e, hp.1]; exact Nat.le_add_right _ _, by rw [e, hp.2]; exact Nat.le_add_right _ _, by rw [e, hp.2]; omega, by rw [hi]; omega⟩, hi]
  · rw [if_neg e]
    unfold prK
    by_cases hc : Y ≤ j / wN ∧ X ≤ j % wN ∧ j % wN < X + bw
    · by_cases hi : (j / wN - Y) * bw + (j % wN - X) < k
      · rw [if_pos ⟨hc.1, hc.2.1, hc.2.2, hi⟩, if_pos ⟨hc.1, hc.2.1, hc.2.2, by omega⟩]
      · rw [if_neg (fun h => hi h.2.2.2)]
        by_cases hi2 : (j / wN - Y) * bw + (j % wN - X) = k
        · exfalso
          apply e
          have hr : j % wN - X < bw := by omega
          have h1 : k / bw = j / wN - Y := by
            rw [← hi2, Nat.mul_comm, Nat.mul_add_div hb, Nat.div_eq_of_lt hr, Nat.add_zero]
          have h2 : k % bw = j % wN - X := by
            rw [← hi2, Nat.mul_comm, Nat.mul_add_mod, Nat.mod_eq_of_lt hr]
          rw [h1, h2, show Y + (j / wN - Y) = j / wN by omega, Nat.mul_comm, Nat.add_assoc, show X + (j % wN - X) = j % wN by omega]
          exact (Nat.div_add_mod j wN).symm
        · rw [if_neg (fun h => by have := h.2.2.2; omega)]
    · rw [if_neg (fun h => hc ⟨h.1, h.2.1, h.2.2.1⟩), if_neg (fun h => hc ⟨h.1, h.2.1, h.2.2.1⟩)]
theorem prK_end (f bf : Nat → Nat) (wN X Y bw bh : Nat) : prK f bf wN X Y bw (bw * bh) = psR f bf wN X Y bw bh := by
  funext j
  unfold prK psR
  by_cases hc : Y ≤ j / wN ∧ X ≤ j % wN ∧ j % wN < X + bw
  · by_cases hq : j / wN < Y + bh
    · have h1 : (j / wN - Y + 1) * bw ≤ bh * bw := Nat.mul_le_mul_right _ (by omega)
      rw [Nat.add_mul, Nat.one_mul, Nat.mul_comm bh] at h1
      rw [if_pos ⟨hc.1, hc.2.1, hc.2.2, by omega⟩, if_pos ⟨⟨hc.1, hq⟩, hc.2.1, hc.2.2⟩]
    · have h1 : bh * bw ≤ (j / wN - Y) * bw := Nat.mul_le_mul_right _ (by omega)
      rw [Nat.mul_comm bh] at h1
      rw [if_neg (fun h => by have := h.2.2.2; omega), if_neg (fun h => hq h.1.2)]
  · rw [if_neg (fun h => hc ⟨h.1, h.2.1, h.2.2.1⟩), if_neg (fun h => hc ⟨h.1.1, h.2.1, h.2.2⟩)]
/-- A sample of a row is written. -/
theorem Gz.setp {B : Nat} {w : World} {V : Value} {n p i v : Nat} {gs cs ln : Nat → Nat} {F : Nat → Nat → Nat} (h : Gz B w V n gs cs ln F) (hp : p < n) : Gz B (w.setCell ⟨gs p, i, none⟩ (.int .u16 (v : Int))) V n gs cs ln (fun q => if q = p then (fun t => if t = i then v else F p t) else F q) := by
  have kS : Kept [gs p] w (w.setCell ⟨gs p, i, none⟩ (.int .u16 (v : Int))) := (Kept.refl _ _).setCell (.inl (by simp)) _
  refine ⟨kS.row h.own (fun g hg hm => ?_), fun q hq => ?_, h.mon⟩
  · simp at hm
    subst hm
    exact own_wr h.own (h.row p hp).2.2 hg
  · obtain ⟨h1, h2, h3⟩ := h.row q hq
    by_cases e : q = p
    · subst e
      simp only [if_pos]
      exact ⟨h1, h2, h3.set⟩
    · simp only [if_neg e]
      refine ⟨h1, h2, h3.keep kS (fun hm => ?_)⟩
      simp at hm
      rcases Nat.lt_trichotomy q p with hl | hl | hl
      · have := h.mon q p hl hp; omega
      · exact e hl
      · have := h.mon p q hl hq; omega

set_option maxHeartbeats 16000000 in
set_option maxRecDepth 1000000 in
theorem rpaste_yes (W H D : Int) (A : Bool) (po : Option Addr) (n c : Nat) (ln : Nat → Nat) (F : Nat → Nat → Nat) (p X Y bw bh : Nat) (so : Option Addr) (m k : Nat) (bf : Nat → Nat) (w : World) (hr : Pc w po n ln F) (hF : ∀ i, i < n → ∀ j, j < ln i → F i j < 65536) (hv : Vld W H D A n ln F) (hs : Rd w so m bf) (hm : m = bw * bh) (hb6 : ∀ i, i < m → bf i < 65536) (hbf : ∀ i, i < m → bf i ≤ mx D) (hp : p < n) (h1 : 1 ≤ bw) (h2 : 1 ≤ bh) (h3 : (X : Int) + bw ≤ wp W p) (h4 : (Y : Int) + bh ≤ H) :
    Calls Try.prog 32 #[frv W H D A po n c, .int .i64 (p : Int), .int .i64 (X : Int), .int .i64 (Y : Int), blv (bw : Int) (bh : Int) so m k] w fun e w' => ∃ go gc gs cs, e = .returned (.tuple #[frv W H D A go n gc, .int .i64 0]) ∧ Gz w.heap.size w' (.slice go n gc) n gs cs ln (psF F p bf (wp W (p : Int)).toNat X Y bw bh) ∧ Kept [] w w' := by
  have hsh := hv.shp
  have hs1 := hsh.1
  have hs2 := hsh.2.1
  have wl := wp_lo (p : Int) hs1.1
  have wh := wp_hi (p : Int) hs1.1
  have hln := hv.len p hp
  have hn4 : n ≤ 4 := by rw [hv.num]; exact np_hi A
  have hlens : ∀ i, i < n → 1 ≤ ln i ∧ ln i ≤ 70368744175616 := fun i hi => by
    have e1 := hv.len i hi
    have e2 := wpH (i : Int) hs1.1 hs1.2 hs2.1 hs2.2
    omega
  have CV := Hid.mk (fun u (hk : Kept [] w u) => by
    have h := rvalid_any W H D A po n c ln F u (hr.keep hk).pl (by omega) (fun i hi => by have := hlens i hi; omega) hF
    rw [vE_zero.2 hv] at h
    exact h)
  have CI := Hid.mk (fun u => rthere_any W H D p A u)
  rw [decide_eq_true (by rw [← hv.num]; omega)] at CI
  obtain ⟨wN, ewN⟩ : ∃ m : Nat, wp W (p : Int) = (m : Int) := ⟨(wp W (p : Int)).toNat, by omega⟩
  obtain ⟨hN, ehN⟩ : ∃ m : Nat, H = (m : Int) := ⟨H.toNat, by omega⟩
  have hlen : ln p = wN * hN := by rw [ewN, ehN] at hln; exact_mod_cast hln
  have CW : Hid (∀ u, Calls Try.prog 43 #[shv W H D A, .int .i64 (p : Int)] u fun e w' => e = .returned (.int .i64 (wN : Int)) ∧ Kept [] u w') := Hid.mk (fun u => by have := wide_any W H D p A u (by omega) hs1.2; rw [ewN] at this; exact this)
  have CL := Hid.mk (fun u => rlies_any (X : Int) Y bw bh (wN : Int) H u (by omega) (by omega) (by omega) (by omega))
  rw [show lie (X : Int) Y bw bh (wN : Int) H = true by unfold lie; rw [decide_eq_true (by omega)]] at CL
  have hX1 : X + bw ≤ wN := by omega
  have hY1 : Y + bh ≤ hN := by omega
  have hwN : wN ≤ 4096 := by omega
  have hhN : hN ≤ 4096 := by omega
  have hmm : bw * bh ≤ 4096 * 4096 := Nat.mul_le_mul (by omega) (by omega)
  have hmp : 1 ≤ bw * bh := Nat.mul_le_mul h1 h2
  have CA := Hid.mk (fun u (hk : Kept [] w u) => beyond_any so m k bf D u (hs.keep hk) hsh.2.2.1 (by omega) hb6)
  rw [abv_no.2 hbf] at CA
  have CC := Hid.mk (fun u (hk : Kept [] w u) => copied_any W H D A po n c ln F u (hr.keep hk) (by omega) hlens)
  rw [show (wp W (p : Int)).toNat = wN by rw [ewN]; rfl]
  have Hs := Hid.mk hs
  have Hlen := Hid.mk hlen
  have N := ent535 w (.int .i64 W) (.int .i64 H) (.int .i64 D) (.bool A) (.slice po n c) (.int .i64 (bw : Int)) (.int .i64 (bh : Int)) (.slice so m k) (.int .i64 0) (.int .i64 0) (.int .i64 0) (.bool false) (.slice none 0 0) 38 54 38
  obtain ⟨w1, ew1⟩ : ∃ w1, w1 = ((w.alloc (.cells #[.int .i64 W, .int .i64 H, .int .i64 D, .bool A, .slice po n c] 38 (0, 0))).alloc (.cells #[.int .i64 (bw : Int), .int .i64 (bh : Int), .slice so m k] 54 (0, 0))).alloc (.cells #[.int .i64 0, .int .i64 0, .int .i64 0, .bool false, .slice none 0 0] 38 (0, 0)) := ⟨_, rfl⟩
  rw [← ew1] at N
  have HN := Hid.mk N
  have EW := Hid.mk ew1
  have ixp : (p : Int) < (n : Int) := by omega
  have hwm : IntKind.i64.wrap ((bw : Int) * (bh : Int)) = (bw : Int) * bh := wrap_i (by exact_mod_cast (by omega)) (by exact_mod_cast (by omega))
  have hne : ((m : Int) != (bw : Int) * (bh : Int)) = false := by rw [hm]; simp
  have hmb : 1 ≤ m ∧ m ≤ 16777216 := by omega
  have Hm := Hid.mk hm
  clear hm hmm hmp
  clear N ew1 hr hF hv hs hsh hs1 hs2 wl wh hln ewN ehN hlen h3 h4 hb6 hbf hlens
  go_enter Try.func32, Try.ntmps32
  go_wp2_with (first | (go_at_call 24; go_loud (rw [← EW.out]; refine (CV.out _ HN.out.2.2.2).mono ?_; rintro e w2 ⟨rfl, hk2⟩; obtain ⟨⟨c0, c1, c2, c3, c4⟩, _⟩ := five ((hk2).heap HN.out.1 (by simp)); obtain ⟨⟨r0, r1, r2⟩, _⟩ := tri' ((hk2).heap HN.out.2.1 (by simp)))) | (go_at_call 42; go_loud (refine (CI.out _).mono ?_; rintro e w3 ⟨rfl, hk3⟩; obtain ⟨⟨d0, d1, d2, d3, d4⟩, _⟩ := five ((hk2.trans hk3).heap HN.out.1 (by simp)))) | (go_at_call 43; go_loud (refine (CW.out _).mono ?_; rintro e w4 ⟨rfl, hk4⟩; obtain ⟨⟨e0, e1, e2, e3, e4⟩, _⟩ := five (((hk2.trans hk3).trans hk4).heap HN.out.1 (by simp)); obtain ⟨⟨s0, s1, s2⟩, _⟩ := tri' (((hk2.trans hk3).trans hk4).heap HN.out.2.1 (by simp)))) | (go_at_call 53; go_loud (refine (CL.out _).mono ?_; rintro e w5 ⟨rfl, hk5⟩; obtain ⟨⟨g0, g1, g2, g3, g4⟩, _⟩ := five ((((hk2.trans hk3).trans hk4).trans hk5).heap HN.out.1 (by simp)); obtain ⟨⟨t0, t1, t2⟩, _⟩ := tri' ((((hk2.trans hk3).trans hk4).trans hk5).heap HN.out.2.1 (by simp)); have K5 := Hid.mk (HN.out.2.2.2.trans (((hk2.trans hk3).trans hk4).trans hk5)))) | (go_at_call 50; go_loud (refine (CA.out _ K5.out).mono ?_; rintro e w6 ⟨rfl, hk6⟩; obtain ⟨⟨i0, i1, i2, i3, i4⟩, _⟩ := five (((((hk2.trans hk3).trans hk4).trans hk5).trans hk6).heap HN.out.1 (by simp)); obtain ⟨⟨j0, j1, j2⟩, _⟩ := tri' (((((hk2.trans hk3).trans hk4).trans hk5).trans hk6).heap HN.out.2.1 (by simp)); have K6 := Hid.mk (HN.out.2.2.2.trans ((((hk2.trans hk3).trans hk4).trans hk5).trans hk6)); have HK := Hid.mk ((((hk2.trans hk3).trans hk4).trans hk5).trans hk6))))
  refine (CC.out _ K6.out).mono ?_
  rintro e w7 ⟨go, gc, gs, cs, rfl, hG, hk7⟩
  have hk06 := K6.out
  have HN7 := Hid.mk (And.intro ((HK.out.trans hk7).heap HN.out.1 (by simp)) (And.intro ((HK.out.trans hk7).heap HN.out.2.1 (by simp)) (And.intro ((HK.out.trans hk7).heap HN.out.2.2.1 (by simp)) (K6.out.trans hk7))))
  have HGZ := Hid.mk hG
  have HS6 := Hid.mk (lt_of_block (HK.out.heap HN.out.2.2.1 (by simp)))
  clear c0 c1 c2 c3 c4 r0 r1 r2 d0 d1 d2 d3 d4 e0 e1 e2 e3 e4 s0 s1 s2 g0 g1 g2 g3 g4 t0 t1 t2 i0 i1 i2 i3 i4 j0 j1 j2 hk2 hk3 hk4 hk5 hk6 hk7 hk06 hG HN EW CV CI CW CL CA CC K5 K6 HK
  obtain ⟨b, eb⟩ : ∃ b, w.heap.size = b := ⟨_, rfl⟩
  have HEB := Hid.mk eb
  rw [eb] at HN7 HS6 ⊢
  clear eb
  go_upto_region 17 with (fail)
  obtain ⟨lg, rfl⟩ : ∃ lg, go = some ⟨lg, 0, none⟩ := by
    rcases HGZ.out.own.2 with ⟨e, h0⟩ | ⟨g, cap, cur, e, -⟩
    · omega
    · simp at e
      exact ⟨g, e.1⟩
  obtain ⟨sg, o2, rfl, hcs⟩ : ∃ sg o2, so = some ⟨sg, o2, none⟩ ∧ ∀ i, i < m → w.cell? ⟨sg, o2 + i, none⟩ = some (.int .u16 (bf i : Int)) := by
    rcases Hs.out with h | h
    · omega
    · exact h
  have HCS := Hid.mk hcs
  have K8 := alloc_kept w7 (.cells #[.int .i64 W, .int .i64 H, .int .i64 D, .bool A, .slice (some ⟨lg, 0, none⟩) n gc] 38)
  have hg8 := heap_alloc_new w7 (.cells #[.int .i64 W, .int .i64 H, .int .i64 D, .bool A, .slice (some ⟨lg, 0, none⟩) n gc] 38)
  obtain ⟨w8, ew8⟩ : ∃ w8, w7.alloc (.cells #[.int .i64 W, .int .i64 H, .int .i64 D, .bool A, .slice (some ⟨lg, 0, none⟩) n gc] 38) = w8 := ⟨_, rfl⟩
  rw [ew8] at K8 hg8 ⊢
  obtain ⟨GB, eGB⟩ : ∃ GB, w7.heap.size = GB := ⟨_, rfl⟩
  have hgp : gs p < GB := by rw [← eGB]; exact (HGZ.out.row p hp).2.2.lt
  have hgl : w6.heap.size ≤ gs p := (HGZ.out.row p hp).2.1
  rw [eGB] at hg8 ⊢
  have H8 := Hid.mk (And.intro (K8.heap HN7.out.2.1 (by simp)) (And.intro (K8.heap HN7.out.2.2.1 (by simp)) (And.intro hg8 (HN7.out.2.2.2.trans K8))))
  have G8 := Hid.mk (HGZ.out.keep K8 (by simp))
  have HGP := Hid.mk (And.intro hgp hgl)
  clear hcs K8 hg8 ew8 eGB hgp hgl HGZ HN7 Hs
  go_wp2
  go_loopw [18] (fun i wr => ∃ (q : Nat), q ≤ m ∧ i = .int .i64 (q : Int) ∧ Gz w6.heap.size wr (.slice (some ⟨lg, 0, none⟩) n gc) n gs cs ln (fun t => if t = p then prK (F p) bf wN X Y bw q else F t) ∧ Kept [gs p] w8 wr) (fun i _ => m - (intOf i).toNat)
  case atStart =>
    refine ⟨0, by omega, rfl, ?_, Kept.refl _ _⟩
    rw [show (fun t => if t = p then prK (F p) bf wN X Y bw 0 else F t) = F by
      funext t
      by_cases e : t = p
      · rw [if_pos e, e]; funext j; exact prK_zero _ _ _ _ _ _ _
      · rw [if_neg e]]
    exact G8.out
  case round =>
    obtain ⟨q, hq, rfl, hG, hkr⟩ := hrel
    have hgp := HGP.out
    have h6 := HS6.out
    have heb := HEB.out
    obtain ⟨⟨y0, y1, y2⟩, -⟩ := tri' (hkr.heap H8.out.1 (by simp; omega))
    obtain ⟨⟨z0, z1, z2, z3, z4⟩, -⟩ := five (hkr.heap H8.out.2.2.1 (by simp; omega))
    have kw : Kept [] w wr := H8.out.2.2.2.step hkr (fun x hx => by simp at hx; right; omega)
    by_cases hlt : q < m
    · have ix : (q : Int) < (m : Int) := by omega
      have zs := cell_keep kw (HCS.out q hlt) (by simp)
      have hsg : sg < w.heap.size := by
        rcases Nat.lt_or_ge sg w.heap.size with h' | h'
        · exact h'
        · have := HCS.out q hlt; simp [World.cell?, Array.getElem?_eq_none h'] at this
      have zl := hG.own.cells (g := lg) rfl p _ (fl_at _ n p hp)
      rw [show (⟨lg, 0, none⟩ : Addr).add p = ⟨lg, p, none⟩ by unfold Addr.add; split <;> simp_all] at zl
      have hlg : lg ≠ gs p := fun e => own_wr hG.own (hG.row p hp).2.2 (by simp [Value.ownBlock, e])
      have hfz := (hG.row p hp).2.2.fz
      have hqd : q / bw < bh := by
        apply Nat.div_lt_of_lt_mul
        rw [← Hm.out]; exact hlt
      have hqr := Nat.mod_lt q h1
      obtain ⟨T1, eT1⟩ : ∃ T1, T1 = Y + q / bw := ⟨_, rfl⟩
      obtain ⟨T2, eT2⟩ : ∃ T2, T2 = T1 * wN := ⟨_, rfl⟩
      obtain ⟨T4, eT4⟩ : ∃ T4, T4 = T2 + X + q % bw := ⟨_, rfl⟩
      have hT2 : T2 + wN ≤ wN * hN := by
        have : (T1 + 1) * wN ≤ hN * wN := Nat.mul_le_mul_right _ (by omega)
        rw [Nat.add_mul, Nat.one_mul, Nat.mul_comm hN] at this
        omega
      have hWH : wN * hN ≤ 4096 * 4096 := Nat.mul_le_mul hwN hhN
      have hT4 : T4 < ln p := by rw [Hlen.out]; omega
      have zt := (hG.row p hp).2.2.at hT4
      obtain ⟨vt, evt⟩ : ∃ vt : Nat, (if p = p then prK (F p) bf wN X Y bw q else F p) T4 = vt := ⟨_, rfl⟩
      rw [evt] at zt
      clear evt
      have hix : (T4 : Int) < (ln p : Int) := by omega
      have hb0 : ((bw : Int) == 0) = false := by simp; omega
      have hb0' : (bw : Int) ≠ 0 := by omega
      obtain ⟨qd, eqd⟩ : ∃ qd, qd = q / bw := ⟨_, rfl⟩
      obtain ⟨qr, eqr⟩ : ∃ qr, qr = q % bw := ⟨_, rfl⟩
      have hdv : (q : Int).tdiv (bw : Int) = (qd : Int) := by rw [eqd, Int.tdiv_eq_ediv_of_nonneg (by omega)]; exact (Int.natCast_ediv q bw).symm
      have hmd : (q : Int).tmod (bw : Int) = (qr : Int) := by rw [eqr, Int.tmod_eq_emod_of_nonneg (by omega)]; exact (Int.natCast_emod q bw).symm
      rw [← eqd] at eT1
      rw [← eqr] at eT4
      have wq1 : IntKind.i64.wrap (qd : Int) = (qd : Int) := wrap_i (by omega) (by omega)
      have wq2 : IntKind.i64.wrap (qr : Int) = (qr : Int) := wrap_i (by omega) (by omega)
      have wr1 : IntKind.i64.wrap ((Y : Int) + (qd : Int)) = (T1 : Int) := by rw [wrap_i (by omega) (by omega)]; omega
      have wr2 : IntKind.i64.wrap ((T1 : Int) * (wN : Int)) = (T2 : Int) := by
        have e : ((T1 : Int) * (wN : Int)) = (T2 : Int) := by rw [eT2]; push_cast; rfl
        rw [e, wrap_i (by omega) (by omega)]
      obtain ⟨T3, eT3⟩ : ∃ T3, T3 = T2 + X := ⟨_, rfl⟩
      have wr3 : IntKind.i64.wrap ((T2 : Int) + (X : Int)) = (T3 : Int) := by rw [wrap_i (by omega) (by omega)]; omega
      have wr4 : IntKind.i64.wrap ((T3 : Int) + (qr : Int)) = (T4 : Int) := by rw [wrap_i (by omega) (by omega)]; omega
      have KD := Hid.mk (((Kept.refl [gs p] wr).drew).setCell (p := ⟨gs p, T4, none⟩) (.inl (by simp)) (.int .u16 (bf q : Int)))
      have xz := cell_keep KD.out z4 (by simp; omega)
      have xl := cell_keep KD.out zl (by simpa using hlg)
      have xy0 := cell_keep KD.out y0 (by simp; omega)
      have xy2 := cell_keep KD.out y2 (by simp; omega)
      have xs := cell_keep KD.out zs (by simp; omega)
      have hfz4 := hfz T4
      have FIN : Hid (Gz w6.heap.size (wr.setCell ⟨gs p, T4, none⟩ (.int .u16 (bf q : Int))).drew (.slice (some ⟨lg, 0, none⟩) n gc) n gs cs ln (fun t => if t = p then prK (F p) bf wN X Y bw (q + 1) else F t) ∧ Kept [gs p] w8 (wr.setCell ⟨gs p, T4, none⟩ (.int .u16 (bf q : Int))).drew) := Hid.mk (by
        refine ⟨?_, (hkr.setCell (p := ⟨gs p, T4, none⟩) (.inl (by simp)) _).drew⟩
        have hZ := hG.setp (i := T4) (v := bf q) hp
        have eF : (fun t => if t = p then prK (F p) bf wN X Y bw (q + 1) else F t) = (fun t => if t = p then (fun j => if j = T4 then bf q else (if p = p then prK (F p) bf wN X Y bw q else F p) j) else (if t = p then prK (F p) bf wN X Y bw q else F t)) := by
          funext t
          by_cases e : t = p
          · rw [if_pos e, if_pos e, if_pos rfl, ← prK_step (F p) bf wN X Y bw q hX1 h1]
            funext j
            rw [eT4, eT2, eT1, eqd, eqr]
          · rw [if_neg e, if_neg e, if_neg e]
        rw [eF]
        exact hZ.keep (((Kept.refl [] _).drew)) (by simp))
      have ET := Hid.mk (And.intro eT1 (And.intro eT2 (And.intro eT3 (And.intro eT4 (And.intro eqd eqr)))))
      have HG := Hid.mk hG
      have HKR := Hid.mk hkr
      have HBQ := Hid.mk (And.intro hqd hqr)
      clear hG hkr kw hfz eT1 eT2 eT3 eT4 eqd eqr hT2 hWH hT4 hlg hsg hgp h6 heb hqd hqr y1 z0 z1 z2 z3
      go_wp2
      go_region_held_law (fun u => u.cell? ⟨GB, 4, none⟩ = some (.slice (some ⟨lg, 0, none⟩) n gc) ∧ u.cell? ⟨lg, p, none⟩ = some (slv (gs p) (ln p) (cs p)) ∧ u.cell? ⟨b + 1, 0, none⟩ = some (.int .i64 (bw : Int)) ∧ u.cell? ⟨b + 1, 2, none⟩ = some (.slice (some ⟨sg, o2, none⟩) m k) ∧ u.cell? ⟨sg, o2 + q, none⟩ = some (.int .u16 (bf q : Int))) (first | exact ⟨z4, zl, y0, y2, zs⟩ | exact ⟨xz, xl, xy0, xy2, xs⟩) (fail)
      all_goals (try go_wp2)
      all_goals exact ⟨⟨q + 1, by omega, by go_num, FIN.out.1, FIN.out.2⟩, by simp [intOf]; omega⟩
    · obtain rfl : m = q := by omega
      have hR := hkr.heap H8.out.2.1 (by simp; omega)
      obtain ⟨⟨r0, r1, r2, r3, r4⟩, f0, f1, f2, f3, f4⟩ := five hR
      have HZ := Hid.mk (And.intro hG (And.intro kw hR))
      clear hG hkr kw hR hgp h6 heb y0 y1
      go_wp2
      obtain ⟨hG, kw, hR⟩ := HZ.out
      have heb := HEB.out
      have h6 := HS6.out
      have q5 := set5 (.int .i64 W) (.int .i64 H) (.int .i64 D) (.bool A) (.slice (some ⟨lg, 0, none⟩) n gc) hR
      have hG5 := hG.keep q5.2 (fun x hx => by simp at hx; omega)
      rw [Hm.out, prK_end] at hG5
      refine bodyPost_ret (v := .tuple #[frv W H D A (some ⟨lg, 0, none⟩) n gc, .int .i64 0]) ?_ rfl ⟨_, gc, gs, cs, rfl, ⟨⟨hG5.own.1, ?_⟩, fun i hi => ⟨(hG5.row i hi).1, ?_, ?_⟩, hG5.mon⟩, kw.step q5.2 (fun x hx => by simp at hx; right; omega)⟩
      · exact results_two rfl _ _ (b + 1 + 1) 38 _ (0, 0) _ _ rfl q5.1 Try.underlying38 Try.info38 rfl
      · rcases hG5.own.2 with h | ⟨g, cap, cur, h1, h2, h3⟩
        · exact .inl h
        · exact .inr ⟨g, cap, cur, h1, by omega, h3⟩
      · have := (hG5.row i hi).2.1
        omega
      · have := (hG5.row i hi).2.2
        unfold psF
        exact this
end Go.Proofs.Ythihennifigchaa
