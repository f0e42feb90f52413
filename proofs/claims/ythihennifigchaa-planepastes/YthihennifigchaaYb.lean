import Derived.Test.YthihennifigchaaYc
import Derived.Test.YthihennifigchaaQc
namespace Go.Proofs.Ythihennifigchaa
open Go.RowKit

/-- A sample more in a row of such, as an equation. -/
theorem u16_app (w : World) (B : Nat) (v : Value) (n : Nat) (xs : List Value) (hB : B ≤ w.heap.size) (ho : w.ownsRow B 65 1 v n xs) (y : Int) (hn : n ≤ 1000000000) :
    ∃ bo c w', Sem.run Try.prog (Builtin.append_ #[52, 52] 52 #[v, .slice (some ⟨w.heap.size, 0, none⟩) 1 1]) (w.alloc (.cells #[.int .u16 y] 65)) = .ok (.slice bo (n + 1) c) w' ∧ w'.ownsRow B 65 1 (.slice bo (n + 1) c) (n + 1) (xs ++ [.int .u16 y]) ∧ Kept v.ownBlock.toList w w' ∧ Lies w v (.slice bo (n + 1) c) := by
  obtain ⟨i0, hi, hz0, hz1, hz2⟩ := info_parts Bk.Try.info65
  have k0 : Kept [] w (w.alloc (.cells #[.int .u16 y] 65)) := (Kept.refl [] w).alloc _
  obtain ⟨v', u', hrun, h2, h3, _, h5⟩ := run_append_own_at (P := Try.prog) (w.alloc (.cells #[.int .u16 y] 65)) B 52 52 65 i0 (.int .u16 0) 1 2 Try.underlying52 hi hz0 hz1 hz2 rfl (by decide) v n xs (k0.row ho (by simp)) ⟨w.heap.size, 0, none⟩ 1 1 [.int .u16 y] rfl (cell_one_new _ _ _) (fun u hu => by simp at hu; subst hu; rfl) (by unfold maxLen; omega) (by omega) (by rw [World.size_alloc]; omega)
  obtain ⟨bo, c, ev⟩ := Bk.row_form h2
  subst ev
  refine ⟨bo, c, u', hrun, h2, (k0.mono (by simp)).trans (Kept.of_grown h3), ?_⟩
  rcases h5 with h | h
  · exact .inl h
  · exact .inr ⟨_, h, by rw [World.size_alloc]; omega⟩

/-- Samples that the document has cut out so far. -/
structure Cr (w0 w : World) (C : Nat) (rw rh : Int) (m : Nat) (V : Value) (f : Nat → Nat) : Prop where
  box : w.heap[C]? = some (.cells #[.int .i64 rw, .int .i64 rh, V] 54 (0, 0))
  row : w.ownsRow w0.heap.size 65 1 V m (fl (vU f) m)
  new : w0.heap.size ≤ C
  kept : Kept [] w0 w
theorem Cr.far {w0 w : World} {C : Nat} {rw rh : Int} {m : Nat} {V : Value} {f : Nat → Nat} (h : Cr w0 w C rw rh m V f) : C ∉ V.ownBlock.toList := fun hm => by
  rcases h.row.2 with ⟨e, -⟩ | ⟨g', cap, cur, e, -, hx, -⟩
  · subst e; simp [Value.ownBlock] at hm
  · subst e
    simp [Value.ownBlock] at hm
    rw [← hm, h.box] at hx
    simp at hx
theorem Cr.keep {w0 w w' : World} {C : Nat} {rw rh : Int} {m : Nat} {V : Value} {f : Nat → Nat} (h : Cr w0 w C rw rh m V f) (hk : Kept [] w w') : Cr w0 w' C rw rh m V f := ⟨hk.heap h.box (by simp), hk.row h.row (by simp), h.new, h.kept.trans hk⟩
theorem Cr.next {w0 w w7 : World} {C : Nat} {rw rh : Int} {m : Nat} {V Vn : Value} {f : Nat → Nat} (h : Cr w0 w C rw rh m V f) (o7 : w7.ownsRow w0.heap.size 65 1 Vn (m + 1) (fl (vU f) m ++ [.int .u16 (f m : Int)])) (k7 : Kept V.ownBlock.toList w w7) :
    Cr w0 (w7.setCell ⟨C, 2, none⟩ Vn) C rw rh (m + 1) Vn f ∧ w7.heap[C]? = some (.cells #[.int .i64 rw, .int .i64 rh, V] 54 (0, 0)) ∧ Kept [] w0 w7 := by
  have b7 : w7.heap[C]? = some (.cells #[.int .i64 rw, .int .i64 rh, V] 54 (0, 0)) := k7.heap h.box h.far
  have k27 : Kept [] w0 w7 := h.kept.step k7 (fun x hx => .inr (h.row.lt x (by simpa using hx)).1)
  have kS : Kept [C] w7 (w7.setCell ⟨C, 2, none⟩ Vn) := (Kept.refl _ _).setCell (.inl (by simp)) _
  refine ⟨⟨by rw [heap_setCell_at b7]; simp, ?_, h.new, k27.setCell (.inr h.new) _⟩, b7, k27⟩
  have e : fl (vU f) (m + 1) = fl (vU f) m ++ [.int .u16 (f m : Int)] := by unfold fl; rw [List.range_succ, List.map_append]; rfl
  rw [e]
  exact kS.row o7 (fun g hg hm => by
    simp at hm
    subst hm
    rcases o7.2 with ⟨e, -⟩ | ⟨g', cap, cur, e, -, hx, -⟩
    · subst e; simp [Value.ownBlock] at hg
    · subst e
      simp [Value.ownBlock] at hg
      subst hg
      rw [b7] at hx; simp at hx)
theorem Cr.form {w0 w : World} {C : Nat} {rw rh : Int} {m : Nat} {V : Value} {f : Nat → Nat} (h : Cr w0 w C rw rh m V f) (h0 : 0 < m) : ∃ gn c, V = .slice (some ⟨gn, 0, none⟩) m c ∧ w0.heap.size ≤ gn ∧ gn < w.heap.size ∧ m ≤ c := by
  rcases h.row.2 with ⟨e, e2⟩ | ⟨g', cap, cur, e, hb, hg, hc, -⟩
  · omega
  · exact ⟨g', cap, e, hb, lt_of_block hg, hc⟩
theorem Cr.rdT {w0 w w' : World} {C x : Nat} {rw rh : Int} {m c : Nat} {po : Option Addr} {f : Nat → Nat} {cs : Array Value} (h : Cr w0 w C rw rh m (.slice po m c) f) (hx : w.heap[x]? = some (.cells cs 54 (0, 0))) (hk : Kept [x] w w') : Rd w' po m f := by
  by_cases h0 : m = 0
  · exact .inl h0
  · rcases h.row.2 with ⟨e, e2⟩ | ⟨g', cap, cur, e, -, hg, -⟩
    · exact absurd e2 h0
    · simp at e
      obtain ⟨rfl, rfl⟩ := e
      have hgx : g' ≠ x := fun e => by rw [e, hx] at hg; simp at hg
      refine .inr ⟨g', 0, rfl, fun i hi => cell_keep hk ?_ (by simpa using hgx)⟩
      rw [Nat.zero_add, h.row.cellAt i (by omega), fl_at _ _ _ hi]
      rfl

set_option maxHeartbeats 16000000 in
set_option maxRecDepth 1000000 in
theorem rcrop_yes (W H D : Int) (A : Bool) (po : Option Addr) (n c : Nat) (ln : Nat → Nat) (F : Nat → Nat → Nat) (p X Y rw rh : Nat) (w : World) (hr : Pc w po n ln F) (hF : ∀ i, i < n → ∀ j, j < ln i → F i j < 65536) (hv : Vld W H D A n ln F) (hp : p < n) (h1 : 1 ≤ rw) (h2 : 1 ≤ rh) (h3 : (X : Int) + rw ≤ wp W p) (h4 : (Y : Int) + rh ≤ H) :
    Calls Try.prog 28 #[frv W H D A po n c, .int .i64 (p : Int), rcv (X : Int) (Y : Int) (rw : Int) (rh : Int)] w fun e w' => ∃ gn k, e = .returned (.tuple #[blv (rw : Int) (rh : Int) (some ⟨gn, 0, none⟩) (rw * rh) k, .int .i64 0]) ∧ (rw * rh ≤ k ∧ w.heap.size ≤ gn ∧ gn < w'.heap.size) ∧ Rd w' (some ⟨gn, 0, none⟩) (rw * rh) (crp (F p) (wp W (p : Int)).toNat X Y rw) ∧ Kept [] w w' := by
  have hs := hv.shp
  have hs1 := hs.1
  have hs2 := hs.2.1
  have wl := wp_lo (p : Int) hs1.1
  have wh := wp_hi (p : Int) hs1.1
  have hln := hv.len p hp
  have CV := Hid.mk (fun u (hk : Kept [] w u) => by
    have h := rvalid_any W H D A po n c ln F u (hr.keep hk).pl (by rw [hv.num]; exact Nat.le_trans (np_hi A) (by decide)) (fun i hi => by have h1 := hv.len i hi; have h2 := wpH (i : Int) hs1.1 hs1.2 hs2.1 hs2.2; omega) hF
    rw [vE_zero.2 hv] at h
    exact h)
  have CI := Hid.mk (fun u => rthere_any W H D p A u)
  rw [decide_eq_true (by rw [← hv.num]; omega)] at CI
  obtain ⟨wN, ewN⟩ : ∃ m : Nat, wp W (p : Int) = (m : Int) := ⟨(wp W (p : Int)).toNat, by omega⟩
  obtain ⟨hN, ehN⟩ : ∃ m : Nat, H = (m : Int) := ⟨H.toNat, by omega⟩
  have hlen : ln p = wN * hN := by rw [ewN, ehN] at hln; exact_mod_cast hln
  have CW : Hid (∀ u, Calls Try.prog 43 #[shv W H D A, .int .i64 (p : Int)] u fun e w' => e = .returned (.int .i64 (wN : Int)) ∧ Kept [] u w') := Hid.mk (fun u => by have := wide_any W H D p A u (by omega) hs1.2; rw [ewN] at this; exact this)
  have CL := Hid.mk (fun u => rlies_any (X : Int) Y rw rh (wN : Int) H u (by omega) (by omega) (by omega) (by omega))
  rw [show lie (X : Int) Y rw rh (wN : Int) H = true by unfold lie; rw [decide_eq_true (by omega)]] at CL
  rw [show (wp W (p : Int)).toNat = wN by rw [ewN]; rfl]
  have hX1 : X + rw ≤ wN := by omega
  have hY1 : Y + rh ≤ hN := by omega
  have hwN : wN ≤ 4096 := by omega
  have hhN : hN ≤ 4096 := by omega
  have Hr := Hid.mk hr
  have Hlen := Hid.mk hlen
  have N := ent543 w (.int .i64 W) (.int .i64 H) (.int .i64 D) (.bool A) (.slice po n c) (.int .i64 (X : Int)) (.int .i64 (Y : Int)) (.int .i64 (rw : Int)) (.int .i64 (rh : Int)) (.int .i64 0) (.int .i64 0) (.slice none 0 0) 38 51 54
  obtain ⟨w1, ew1⟩ : ∃ w1, w1 = ((w.alloc (.cells #[.int .i64 W, .int .i64 H, .int .i64 D, .bool A, .slice po n c] 38 (0, 0))).alloc (.cells #[.int .i64 (X : Int), .int .i64 (Y : Int), .int .i64 (rw : Int), .int .i64 (rh : Int)] 51 (0, 0))).alloc (.cells #[.int .i64 0, .int .i64 0, .slice none 0 0] 54 (0, 0)) := ⟨_, rfl⟩
  rw [← ew1] at N
  have HN := Hid.mk N
  have EW := Hid.mk ew1
  have ixp : (p : Int) < (n : Int) := by omega
  clear N ew1 hr hv hs hs1 hs2 wl wh hln ewN ehN hlen h3 h4
  go_enter Try.func28, Try.ntmps28
  go_wp2_with (first | (go_at_call 24; rw [← EW.out]; refine (CV.out _ HN.out.2.2.2).mono ?_; rintro e w2 ⟨rfl, hk2⟩; obtain ⟨⟨c0, c1, c2, c3, c4⟩, _⟩ := five (hk2.heap HN.out.1 (by simp)); obtain ⟨⟨r0, r1, r2, r3⟩, _⟩ := four (hk2.heap HN.out.2.1 (by simp))) | (go_at_call 42; refine (CI.out _).mono ?_; rintro e w3 ⟨rfl, hk3⟩; obtain ⟨⟨d0, d1, d2, d3, d4⟩, _⟩ := five ((hk2.trans hk3).heap HN.out.1 (by simp))) | (go_at_call 43; refine (CW.out _).mono ?_; rintro e w4 ⟨rfl, hk4⟩; obtain ⟨⟨e0, e1, e2, e3, e4⟩, _⟩ := five (((hk2.trans hk3).trans hk4).heap HN.out.1 (by simp)); obtain ⟨⟨s0, s1, s2, s3⟩, _⟩ := four (((hk2.trans hk3).trans hk4).heap HN.out.2.1 (by simp))) | fail)
  refine (CL.out _).mono ?_
  rintro e w5 ⟨rfl, hk5⟩
  have hk25 := ((hk2.trans hk3).trans hk4).trans hk5
  have HN5 := Hid.mk (And.intro (hk25.heap HN.out.1 (by simp)) (And.intro (hk25.heap HN.out.2.1 (by simp)) (And.intro (hk25.heap HN.out.2.2.1 (by simp)) (HN.out.2.2.2.trans hk25))))
  obtain ⟨b, eb⟩ : ∃ b, w.heap.size = b := ⟨_, rfl⟩
  have HEB := Hid.mk eb
  rw [eb] at HN5 ⊢
  obtain ⟨⟨-, -, -, -, x4⟩, -⟩ := five HN5.out.1
  obtain ⟨⟨y0, y1, y2, y3⟩, -⟩ := four HN5.out.2.1
  clear c0 c1 c2 c3 c4 r0 r1 r2 r3 d0 d1 d2 d3 d4 e0 e1 e2 e3 e4 s0 s1 s2 s3 hk2 hk3 hk4 hk5 hk25 HN EW CV CI CW CL eb
  go_upto_region 12 with (fail)
  obtain ⟨w6, ew6⟩ : ∃ w6, w5.alloc (.cells #[.int .i64 (rw : Int), .int .i64 (rh : Int), .slice none 0 0] 54) = w6 := ⟨_, rfl⟩
  have R6 : Hid (Cr w5 w6 w5.heap.size (rw : Int) (rh : Int) 0 (.slice none 0 0) (crp (F p) wN X Y rw)) := Hid.mk (by
    rw [← ew6]
    exact ⟨heap_alloc_new _ _, ⟨by simp [fl], .inl ⟨rfl, rfl⟩⟩, Nat.le_refl _, alloc_kept _ _⟩)
  rw [ew6]
  obtain ⟨C, eC⟩ : ∃ C, w5.heap.size = C := ⟨_, rfl⟩
  rw [eC] at R6 ⊢
  clear ew6 eC x4 y0 y1 y2 y3
  go_wp2
  go_loopw [13] (fun i wr => ∃ (y : Nat) (V : Value), y ≤ rh ∧ i = .int .i64 (y : Int) ∧ Cr w5 wr C (rw : Int) (rh : Int) (y * rw) V (crp (F p) wN X Y rw)) (fun i _ => rh - (intOf i).toNat)
  case atStart => exact ⟨0, _, by omega, rfl, by rw [Nat.zero_mul]; exact R6.out⟩
  case round =>
    obtain ⟨y, V, hy, rfl, hR⟩ := hrel
    obtain ⟨⟨y0, y1, y2, y3⟩, -⟩ := four (hR.kept.heap HN5.out.2.1 (by simp))
    have HR0 := Hid.mk hR
    clear hR
    by_cases hlt : y < rh
    · have iy : (y : Int) < (rh : Int) := by omega
      go_wp2
      clear y0 y1 y2 y3
      go_loopw [14] (fun i wr => ∃ (x : Nat) (V : Value), x ≤ rw ∧ i = .int .i64 (x : Int) ∧ Cr w5 wr C (rw : Int) (rh : Int) (y * rw + x) V (crp (F p) wN X Y rw)) (fun i _ => rw - (intOf i).toNat)
      case atStart => exact ⟨0, V, by omega, rfl, HR0.out⟩
      case round =>
        obtain ⟨x, V2, hx, rfl, hR⟩ := hrel
        obtain ⟨wq, ewq⟩ : ∃ wq, wq = wr := ⟨_, rfl⟩
        subst ewq
        obtain ⟨⟨y0, y1, y2, y3⟩, -⟩ := four (hR.kept.heap HN5.out.2.1 (by simp))
        have HR1 := Hid.mk hR
        clear hR
        by_cases hlx : x < rw
        · have ixx : (x : Int) < (rw : Int) := by omega
          obtain ⟨m, em⟩ : ∃ m, y * rw + x = m := ⟨_, rfl⟩
          have hdiv : m / rw = y := by rw [← em, Nat.mul_comm, Nat.mul_add_div (by omega)]; have := Nat.div_eq_of_lt hlx; omega
          have hmod : m % rw = x := by rw [← em, Nat.mul_comm, Nat.mul_add_mod]; exact Nat.mod_eq_of_lt hlx
          have hm9 : m ≤ 1000000000 := by
            have : y * rw ≤ 4096 * 4096 := Nat.mul_le_mul (by omega) (by omega)
            omega
          obtain ⟨t, et⟩ : ∃ t, (Y + y) * wN = t := ⟨_, rfl⟩
          have ht : t + wN ≤ hN * wN := by
            rw [← et]
            have e1 : (Y + y + 1) * wN ≤ hN * wN := Nat.mul_le_mul_right _ (by omega)
            have e2 : (Y + y + 1) * wN = (Y + y) * wN + wN := by rw [Nat.add_mul (Y + y) 1 wN, Nat.one_mul]
            rw [← e2]; exact e1
          have hbig : hN * wN ≤ 4096 * 4096 := Nat.mul_le_mul hhN hwN
          have hlp : ln p = hN * wN := by rw [Hlen.out, Nat.mul_comm]
          obtain ⟨ix, eix⟩ : ∃ ix, t + X + x = ix := ⟨_, rfl⟩
          have hix : ix < ln p := by omega
          have hf : crp (F p) wN X Y rw m = F p ix := by show F p ((Y + m / rw) * wN + X + m % rw) = _; rw [hdiv, hmod, et, eix]
          obtain ⟨sv, esv⟩ : ∃ sv, F p ix = sv := ⟨_, rfl⟩
          rw [esv] at hf
          rw [em] at HR1
          obtain ⟨vo, vc, eV⟩ := Bk.row_form HR1.out.row
          subst eV
          obtain ⟨g1, off, bo, cc, epo, hc1, hcc, hrd⟩ := (Hr.out.keep HN5.out.2.2.2).at hp
          subst epo
          obtain ⟨sb, so, ebo, hsm⟩ := hrd.at hix
          subst ebo
          rw [esv] at hsm
          obtain ⟨lp, elp⟩ : ∃ lp, ln p = lp := ⟨_, rfl⟩
          rw [elp] at hc1 hix
          have hIX : (ix : Int) < (lp : Int) := by omega
          have S4 : Hid (∀ u, Kept [] w5 u → u.cell? ⟨b, 4, none⟩ = some (.slice (some ⟨g1, off, none⟩) n c) ∧ u.cell? ⟨b + 1, 0, none⟩ = some (.int .i64 (X : Int)) ∧ u.cell? ⟨b + 1, 1, none⟩ = some (.int .i64 (Y : Int)) ∧ u.cell? ⟨g1, off + p, none⟩ = some (.slice (some ⟨sb, so, none⟩) lp cc) ∧ u.cell? ⟨sb, so + ix, none⟩ = some (.int .u16 (sv : Int))) := Hid.mk (fun u hu => by
            obtain ⟨⟨-, -, -, -, q4⟩, -⟩ := five (hu.heap HN5.out.1 (by simp))
            obtain ⟨⟨q0, q1, -, -⟩, -⟩ := four (hu.heap HN5.out.2.1 (by simp))
            exact ⟨q4, q0, q1, cell_keep hu hc1 (by simp), cell_keep hu hsm (by simp)⟩)
          obtain ⟨bn, cn, w7, hrun, o7, k7, -⟩ := u16_app wq.drew w5.heap.size _ m _ HR1.out.kept.size (((Kept.refl [] wq).drew).row HR1.out.row (by simp)) (sv : Int) hm9
          obtain ⟨hN7, b7, k27⟩ := (HR1.out.keep ((Kept.refl [] wq).drew)).next (Vn := .slice bn (m + 1) cn) (by rw [hf]; exact o7) k7
          have ED := Hid.mk (S4.out wq.drew (HR1.out.kept.trans ((Kept.refl [] wq).drew)))
          have EA := Hid.mk (S4.out (wq.drew.alloc (.cells #[.int .u16 (sv : Int)] 65)) ((HR1.out.kept.trans ((Kept.refl [] wq).drew)).alloc _))
          have E1 := Hid.mk (S4.out w7 k27)
          have ES := Hid.mk (S4.out (w7.setCell ⟨C, 2, none⟩ (.slice bn (m + 1) cn)) hN7.kept)
          have z2 : wq.cell? ⟨C, 2, none⟩ = some (.slice vo m vc) := by simp [World.cell?, HR1.out.box]
          have z3 : (wq.alloc (.cells #[.int .u16 (sv : Int)] 65)).cell? ⟨C, 2, none⟩ = some (.slice vo m vc) := cell_keep (alloc_kept wq _) z2 (by simp)
          have z4 : w7.cell? ⟨C, 2, none⟩ = some (.slice vo m vc) := by simp [World.cell?, b7]
          have z5 : w7.frozen? ⟨C, 2, none⟩ = false := by simp [World.frozen?, b7]
          have FN := Hid.mk hN7
          obtain ⟨yy, eyy⟩ : ∃ yy, Y + y = yy := ⟨_, rfl⟩
          obtain ⟨tx, etx⟩ : ∃ tx, t + X = tx := ⟨_, rfl⟩
          have a1 : IntKind.i64.wrap ((Y : Int) + (y : Int)) = (yy : Int) := by rw [wrap_i (by omega) (by omega)]; omega
          have a2 : IntKind.i64.wrap ((yy : Int) * (wN : Int)) = (t : Int) := by
            have e : (yy : Int) * (wN : Int) = (t : Int) := by rw [← et, ← eyy]; exact_mod_cast rfl
            rw [e]; exact wrap_i (by omega) (by omega)
          have a3 : IntKind.i64.wrap ((t : Int) + (X : Int)) = (tx : Int) := by rw [wrap_i (by omega) (by omega)]; omega
          have a4 : IntKind.i64.wrap ((tx : Int) + (x : Int)) = (ix : Int) := by rw [wrap_i (by omega) (by omega)]; omega
          clear eyy etx hN7 b7 k27 o7 k7 hf esv hsm hc1 hrd elp hlp ht hbig eix et hdiv hmod hcc
          go_wp2_with (fail)
          refine wp_region_held_drew (S := fun u => u.cell? ⟨b, 4, none⟩ = some (.slice (some ⟨g1, off, none⟩) n c) ∧ u.cell? ⟨b + 1, 0, none⟩ = some (.int .i64 (X : Int)) ∧ u.cell? ⟨b + 1, 1, none⟩ = some (.int .i64 (Y : Int)) ∧ u.cell? ⟨g1, off + p, none⟩ = some (.slice (some ⟨sb, so, none⟩) lp cc) ∧ u.cell? ⟨sb, so + ix, none⟩ = some (.int .u16 (sv : Int))) (by kernel_rfl) ED.out (fun hHeld => ?_)
          refine wpAnyH_take (i := 0) (v := ?_) rfl (by kernel_rfl) (by kernel_rfl) (by kernel_rfl) (fun _ _ _ h => h) (Or.inl ⟨by rfl, ?_⟩) (by assumption) ?_
          rotate_left
          · intro w hSw
            try dsimp only at hSw
            go_simp
            all_goals with_reducible rfl
          simp only [Act.put, List.getElem_toArray, List.getElem_cons_zero, List.setIfInBounds_toArray, List.set_cons_zero, List.set_cons_succ]
          refine wpAnyH_take (i := 2) (v := ?_) rfl (by kernel_rfl) (by kernel_rfl) (by kernel_rfl) (fun _ _ _ h => h) (Or.inl ⟨by rfl, ?_⟩) (by assumption) ?_
          rotate_left
          · intro w hSw
            try dsimp only at hSw
            go_simp
            all_goals with_reducible rfl
          simp only [Act.put, List.getElem_toArray, List.getElem_cons_zero, List.getElem_cons_succ, List.setIfInBounds_toArray, List.set_cons_zero, List.set_cons_succ]
          refine wpAnyH_take (i := 3) (v := ?_) rfl (by kernel_rfl) (by kernel_rfl) (by kernel_rfl) (fun _ _ _ h => h) (Or.inl ⟨by rfl, ?_⟩) (by assumption) ?_
          rotate_left
          · intro w hSw
            try dsimp only at hSw
            go_simp
            all_goals with_reducible rfl
          simp only [Act.put, List.getElem_toArray, List.getElem_cons_zero, List.getElem_cons_succ, List.setIfInBounds_toArray, List.set_cons_zero, List.set_cons_succ]
          refine wpAnyH_take (i := 4) (v := ?_) rfl (by kernel_rfl) (by kernel_rfl) (by kernel_rfl) (fun _ _ _ h => h) (Or.inl ⟨by rfl, ?_⟩) (by assumption) ?_
          rotate_left
          · intro w hSw
            try dsimp only at hSw
            go_simp
            all_goals with_reducible rfl
          simp only [Act.put, List.getElem_toArray, List.getElem_cons_zero, List.getElem_cons_succ, List.setIfInBounds_toArray, List.set_cons_zero, List.set_cons_succ]
          refine wpAnyH_take (i := 5) (v := ?_) rfl (by kernel_rfl) (by kernel_rfl) (by kernel_rfl) (fun _ _ _ h => h) (Or.inl ⟨by rfl, ?_⟩) (by assumption) ?_
          rotate_left
          · intro w hSw
            try dsimp only at hSw
            go_simp
            all_goals with_reducible rfl
          simp only [Act.put, List.getElem_toArray, List.getElem_cons_zero, List.getElem_cons_succ, List.setIfInBounds_toArray, List.set_cons_zero, List.set_cons_succ]
          refine wpAnyH_take (i := 6) (v := ?_) rfl (by kernel_rfl) (by kernel_rfl) (by kernel_rfl) (fun _ _ _ h => h) (Or.inl ⟨by rfl, ?_⟩) (by assumption) ?_
          rotate_left
          · intro w hSw
            try dsimp only at hSw
            go_simp
            all_goals with_reducible rfl
          simp only [Act.put, List.getElem_toArray, List.getElem_cons_zero, List.getElem_cons_succ, List.setIfInBounds_toArray, List.set_cons_zero, List.set_cons_succ]
          refine wpAnyH_take (i := 7) (v := ?_) rfl (by kernel_rfl) (by kernel_rfl) (by kernel_rfl) (fun _ _ _ h => h) (Or.inl ⟨by rfl, ?_⟩) (by assumption) ?_
          rotate_left
          · intro w hSw
            try dsimp only at hSw
            go_simp
            all_goals with_reducible rfl
          simp only [Act.put, List.getElem_toArray, List.getElem_cons_zero, List.getElem_cons_succ, List.setIfInBounds_toArray, List.set_cons_zero, List.set_cons_succ]
          refine wpAnyH_take (i := 8) (v := ?_) rfl (by kernel_rfl) (by kernel_rfl) (by kernel_rfl) (fun _ _ _ h => h) (Or.inl ⟨by rfl, ?_⟩) (by assumption) ?_
          rotate_left
          · intro w hSw
            try dsimp only at hSw
            go_simp
            all_goals with_reducible rfl
          simp only [Act.put, List.getElem_toArray, List.getElem_cons_zero, List.getElem_cons_succ, List.setIfInBounds_toArray, List.set_cons_zero, List.set_cons_succ]
          refine wpAnyH_take (i := 9) (v := ?_) rfl (by kernel_rfl) (by kernel_rfl) (by kernel_rfl) (fun _ _ _ h => h) (Or.inl ⟨by rfl, ?_⟩) (by assumption) ?_
          rotate_left
          · intro w hSw
            try dsimp only at hSw
            go_simp
            all_goals with_reducible rfl
          simp only [Act.put, List.getElem_toArray, List.getElem_cons_zero, List.getElem_cons_succ, List.setIfInBounds_toArray, List.set_cons_zero, List.set_cons_succ]
          refine wpAnyH_take (i := 10) (v := ?_) rfl (by kernel_rfl) (by kernel_rfl) (by kernel_rfl) (fun _ _ _ h => h) (Or.inl ⟨by rfl, ?_⟩) (by assumption) ?_
          rotate_left
          · intro w hSw
            try dsimp only at hSw
            go_simp
            all_goals with_reducible rfl
          simp only [Act.put, List.getElem_toArray, List.getElem_cons_zero, List.getElem_cons_succ, List.setIfInBounds_toArray, List.set_cons_zero, List.set_cons_succ]
          refine wpAnyH_take (i := 11) (v := ?_) rfl (by kernel_rfl) (by kernel_rfl) (by kernel_rfl) (fun _ _ _ h => h) (Or.inl ⟨by rfl, ?_⟩) (by assumption) ?_
          rotate_left
          · intro w hSw
            try dsimp only at hSw
            go_simp
            all_goals with_reducible rfl
          simp only [Act.put, List.getElem_toArray, List.getElem_cons_zero, List.getElem_cons_succ, List.setIfInBounds_toArray, List.set_cons_zero, List.set_cons_succ]
          refine wpAnyH_take (i := 12) (v := ?_) rfl (by kernel_rfl) (by kernel_rfl) (by kernel_rfl) (fun _ _ _ h => h) (Or.inl ⟨by rfl, ?_⟩) (by assumption) ?_
          rotate_left
          · intro w hSw
            try dsimp only at hSw
            go_simp
            all_goals with_reducible rfl
          simp only [Act.put, List.getElem_toArray, List.getElem_cons_zero, List.getElem_cons_succ, List.setIfInBounds_toArray, List.set_cons_zero, List.set_cons_succ]
          refine wpAnyH_take (i := 13) (v := ?_) rfl (by kernel_rfl) (by kernel_rfl) (by kernel_rfl) (fun _ _ _ h => h) (Or.inl ⟨by rfl, ?_⟩) (by assumption) ?_
          rotate_left
          · intro w hSw
            try dsimp only at hSw
            go_simp
            all_goals with_reducible rfl
          simp only [Act.put, List.getElem_toArray, List.getElem_cons_zero, List.getElem_cons_succ, List.setIfInBounds_toArray, List.set_cons_zero, List.set_cons_succ]
          refine wpAnyH_take (i := 14) (v := ?_) rfl (by kernel_rfl) (by kernel_rfl) (by kernel_rfl) (fun _ _ _ h => h) (Or.inl ⟨by rfl, ?_⟩) (by assumption) ?_
          rotate_left
          · intro w hSw
            try dsimp only at hSw
            go_simp
            all_goals with_reducible rfl
          simp only [Act.put, List.getElem_toArray, List.getElem_cons_zero, List.getElem_cons_succ, List.setIfInBounds_toArray, List.set_cons_zero, List.set_cons_succ]
          refine wpAnyH_take (i := 15) (v := ?_) rfl (by kernel_rfl) (by kernel_rfl) (by kernel_rfl) (fun _ _ _ h => h) (Or.inl ⟨by rfl, ?_⟩) (by assumption) ?_
          rotate_left
          · intro w hSw
            try dsimp only at hSw
            go_simp
            all_goals with_reducible rfl
          simp only [Act.put, List.getElem_toArray, List.getElem_cons_zero, List.getElem_cons_succ, List.setIfInBounds_toArray, List.set_cons_zero, List.set_cons_succ]
          refine wpAnyH_take (i := 16) (v := ?_) rfl (by kernel_rfl) (by kernel_rfl) (by kernel_rfl) (fun _ _ _ h => h) (Or.inl ⟨by rfl, ?_⟩) (by assumption) ?_
          rotate_left
          · intro w hSw
            try dsimp only at hSw
            go_simp
            all_goals with_reducible rfl
          simp only [Act.put, List.getElem_toArray, List.getElem_cons_zero, List.getElem_cons_succ, List.setIfInBounds_toArray, List.set_cons_zero, List.set_cons_succ]
          refine wpAnyH_take (i := 17) (v := ?_) rfl (by kernel_rfl) (by kernel_rfl) (by kernel_rfl) (fun _ _ _ h => h) (Or.inl ⟨by rfl, ?_⟩) (by assumption) ?_
          rotate_left
          · intro w hSw
            try dsimp only at hSw
            go_simp
            all_goals with_reducible rfl
          simp only [Act.put, List.getElem_toArray, List.getElem_cons_zero, List.getElem_cons_succ, List.setIfInBounds_toArray, List.set_cons_zero, List.set_cons_succ]
          refine wpAnyH_take (i := 18) (v := ?_) rfl (by kernel_rfl) (by kernel_rfl) (by kernel_rfl) (fun _ _ _ h => h) (Or.inl ⟨by rfl, ?_⟩) (by assumption) ?_
          rotate_left
          · intro w hSw
            try dsimp only at hSw
            go_simp
            all_goals with_reducible rfl
          simp only [Act.put, List.getElem_toArray, List.getElem_cons_zero, List.getElem_cons_succ, List.setIfInBounds_toArray, List.set_cons_zero, List.set_cons_succ]
          refine wpAnyH_take (i := 19) (v := ?_) rfl (by kernel_rfl) (by kernel_rfl) (by kernel_rfl) (fun _ _ _ h => h) (Or.inl ⟨by rfl, ?_⟩) (by assumption) ?_
          rotate_left
          · intro w hSw
            try dsimp only at hSw
            go_simp
            all_goals with_reducible rfl
          simp only [Act.put, List.getElem_toArray, List.getElem_cons_zero, List.getElem_cons_succ, List.setIfInBounds_toArray, List.set_cons_zero, List.set_cons_succ]
          refine wpAnyH_ready (rs := [1, 20]) (by kernel_rfl) (by simp) ?_
          refine (AllReadyH.cons rfl (fun K9 hK9 => ?_) (AllReadyH.cons rfl (fun K9 hK9 => ?_) AllReadyH.nil))
          · go_simp
            refine hK9.out _ _ ED.out (fun hHeld2 => ?_)
            clear hK9 K9
            refine wpAnyH_ready (rs := [20]) (by kernel_rfl) (by simp) ?_
            refine (AllReadyH.cons rfl (fun K9 hK9 => ?_) AllReadyH.nil)
            go_simp
            refine hK9.out _ _ EA.out (fun hHeld2 => ?_)
            clear hK9 K9
            refine wpAnyH_ready (rs := [21]) (by kernel_rfl) (by simp) ?_
            refine (AllReadyH.cons rfl (fun K9 hK9 => ?_) AllReadyH.nil)
            refine Bk.step_app rfl _ _ 52 rfl _ _ _ _ rfl rfl hrun ?_
            simp only [Act.put, List.getElem_toArray, List.getElem_cons_zero, List.getElem_cons_succ, List.setIfInBounds_toArray, List.set_cons_zero, List.set_cons_succ]
            refine hK9.out _ _ E1.out (fun hHeld2 => ?_)
            clear hK9 K9
            refine wpAnyH_take (i := 22) (v := ?_) rfl (by kernel_rfl) (by kernel_rfl) (by kernel_rfl) (fun _ _ _ h => h) (Or.inl ⟨by rfl, ?_⟩) (by assumption) ?_
            rotate_left
            · intro w hSw
              try dsimp only at hSw
              go_simp
              all_goals with_reducible rfl
            simp only [Act.put, List.getElem_toArray, List.getElem_cons_zero, List.getElem_cons_succ, List.setIfInBounds_toArray, List.set_cons_zero, List.set_cons_succ]
            refine wpAnyH_ready (rs := [23]) (by kernel_rfl) (by simp) ?_
            refine (AllReadyH.cons rfl (fun K9 hK9 => ?_) AllReadyH.nil)
            go_simp
            refine hK9.out _ _ ES.out (fun hHeld2 => ?_)
            clear hK9 K9
            refine wpAnyH_done (by kernel_rfl) ?_ _
            clear hrun z2 z3 z4 z5 ED EA E1 ES hHeld hHeld2 a1 a2 a3 a4 S4
            go_wp2
            exact ⟨⟨x + 1, _, by omega, by go_num, by rw [← Nat.add_assoc, em]; exact FN.out⟩, by simp [intOf]; omega⟩
          · go_simp
            refine hK9.out _ _ EA.out (fun hHeld2 => ?_)
            clear hK9 K9
            refine wpAnyH_ready (rs := [1]) (by kernel_rfl) (by simp) ?_
            refine (AllReadyH.cons rfl (fun K9 hK9 => ?_) AllReadyH.nil)
            go_simp
            refine hK9.out _ _ EA.out (fun hHeld2 => ?_)
            clear hK9 K9
            refine wpAnyH_ready (rs := [21]) (by kernel_rfl) (by simp) ?_
            refine (AllReadyH.cons rfl (fun K9 hK9 => ?_) AllReadyH.nil)
            refine Bk.step_app rfl _ _ 52 rfl _ _ _ _ rfl rfl hrun ?_
            simp only [Act.put, List.getElem_toArray, List.getElem_cons_zero, List.getElem_cons_succ, List.setIfInBounds_toArray, List.set_cons_zero, List.set_cons_succ]
            refine hK9.out _ _ E1.out (fun hHeld2 => ?_)
            clear hK9 K9
            refine wpAnyH_take (i := 22) (v := ?_) rfl (by kernel_rfl) (by kernel_rfl) (by kernel_rfl) (fun _ _ _ h => h) (Or.inl ⟨by rfl, ?_⟩) (by assumption) ?_
            rotate_left
            · intro w hSw
              try dsimp only at hSw
              go_simp
              all_goals with_reducible rfl
            simp only [Act.put, List.getElem_toArray, List.getElem_cons_zero, List.getElem_cons_succ, List.setIfInBounds_toArray, List.set_cons_zero, List.set_cons_succ]
            refine wpAnyH_ready (rs := [23]) (by kernel_rfl) (by simp) ?_
            refine (AllReadyH.cons rfl (fun K9 hK9 => ?_) AllReadyH.nil)
            go_simp
            refine hK9.out _ _ ES.out (fun hHeld2 => ?_)
            clear hK9 K9
            refine wpAnyH_done (by kernel_rfl) ?_ _
            clear hrun z2 z3 z4 z5 ED EA E1 ES hHeld hHeld2 a1 a2 a3 a4 S4
            go_wp2
            exact ⟨⟨x + 1, _, by omega, by go_num, by rw [← Nat.add_assoc, em]; exact FN.out⟩, by simp [intOf]; omega⟩
        · obtain rfl : x = rw := by omega
          have HR2 : Hid (Cr w5 wq C (x : Int) (rh : Int) ((y + 1) * x) V2 (crp (F p) wN X Y x)) := Hid.mk (by rw [Nat.add_mul, Nat.one_mul]; exact HR1.out)
          go_wp2
          exact ⟨⟨y + 1, V2, by omega, by go_num, HR2.out⟩, by simp [intOf]; omega⟩
    · obtain rfl : y = rh := by omega
      have hlt0 : 0 < y := h2
      have hR2 := HR0.out.kept.heap HN5.out.2.2.1 (by simp)
      obtain ⟨⟨z0, z1, z2⟩, f0, f1, f2⟩ := tri' hR2
      obtain ⟨⟨q0, q1, q2⟩, -⟩ := tri' HR0.out.box
      obtain ⟨gn, vc, eV, gb, gl, gc⟩ := HR0.out.form (Nat.mul_pos hlt0 h1)
      subst eV
      have HG := Hid.mk (And.intro gb (And.intro gl gc))
      clear gb gl gc
      have HRR := Hid.mk hR2
      have em : y * rw = rw * y := Nat.mul_comm _ _
      rw [em] at HR0 q2
      obtain ⟨M, eM⟩ : ∃ M, rw * y = M := ⟨_, rfl⟩
      rw [eM] at HR0 q2
      have EM := Hid.mk eM
      clear hR2 em eM
      go_wp2
      have s3' := set3 (.int .i64 (rw : Int)) (.int .i64 (y : Int)) (.slice (some ⟨gn, 0, none⟩) M vc) HRR.out
      refine bodyPost_ret (v := .tuple #[blv (rw : Int) (y : Int) (some ⟨gn, 0, none⟩) M vc, .int .i64 0]) ?_ rfl ⟨gn, vc, by rw [EM.out], ?_, ?_, ?_⟩
      · exact results_two rfl _ _ (b + 1 + 1) 54 _ (0, 0) _ _ rfl s3'.1 Try.underlying54 Try.info54 rfl
      · have hz := s3'.2.size
        have hz2 := HN5.out.2.2.2.size
        have hg := HG.out
        rw [EM.out]
        refine ⟨?_, ?_, ?_⟩ <;> first | omega | (have := EM.out; rw [Nat.mul_comm] at this; omega)
      · rw [EM.out]; exact HR0.out.rdT HRR.out s3'.2
      · exact (HN5.out.2.2.2.trans HR0.out.kept).step s3'.2 (fun x hx => by simp at hx; subst hx; exact .inr (by have := HEB.out; omega))
end Go.Proofs.Ythihennifigchaa
