import Derived.Test.YtgjjnkhkjnkahaaDoorGb
namespace Go.Proofs.YtgjjnkhkjnkahaaDoor
open Go.RowKit

set_option maxHeartbeats 16000000 in
set_option maxRecDepth 1000000 in
theorem rmix_yes (W H D : Int) (A : Bool) (po : Option Addr) (n c : Nat) (ln : Nat → Nat) (F : Nat → Nat → Nat) (po2 : Option Addr) (c2 : Nat) (ln2 : Nat → Nat) (G : Nat → Nat → Nat) (p o : Nat) (w : World)
    (hr : Pl w po n ln F) (hv : Vld W H D A n ln F) (hr2 : Pl w po2 n ln2 G) (hv2 : Vld W H D A n ln2 G) (hp : p ≤ o) (ho : 1 ≤ o) (ho2 : o ≤ 101) :
    Calls Tryd.prog 9 #[frv W H D A po n c, frv W H D A po2 n c2, .int .i64 (p : Int), .int .i64 (o : Int)] w fun e w' => ∃ po' c' bs, e = .returned (.tuple #[frv W H D A po' n c', .int .i64 0]) ∧ Gx w.heap.size w' (.slice po' n c') n bs (pz W H) (mxF F G p o) ∧ Kept [] w w' := by
  have hn4 := hv.n4
  have CV := Hid.mk (fun u (hk : Kept [] w u) => by
    have h := rvalid_any W H D A po n c ln F u (hr.keep hk) (by omega) (fun i hi => by have := hv.sz hi; omega) (fun i hi j hj => by have := hv.top i hi j hj; have := mx_le D; omega)
    rw [vE_zero.2 hv] at h
    exact h)
  have CV2 := Hid.mk (fun u (hk : Kept [] w u) => by
    have h := rvalid_any W H D A po2 n c2 ln2 G u (hr2.keep hk) (by omega) (fun i hi => by have := hv2.sz hi; omega) (fun i hi j hj => by have := hv2.top i hi j hj; have := mx_le D; omega)
    rw [vE_zero.2 hv2] at h
    exact h)
  have N := ent555 w (.int .i64 W) (.int .i64 H) (.int .i64 D) (.bool A) (.slice po n c) (.int .i64 W) (.int .i64 H) (.int .i64 D) (.bool A) (.slice po2 n c2) (.int .i64 0) (.int .i64 0) (.int .i64 0) (.bool false) (.slice none 0 0) 29
  obtain ⟨w1, ew1⟩ : ∃ w1, w1 = ((w.alloc (.cells #[.int .i64 W, .int .i64 H, .int .i64 D, .bool A, .slice po n c] 29 (0, 0))).alloc (.cells #[.int .i64 W, .int .i64 H, .int .i64 D, .bool A, .slice po2 n c2] 29 (0, 0))).alloc (.cells #[.int .i64 0, .int .i64 0, .int .i64 0, .bool false, .slice none 0 0] 29 (0, 0)) := ⟨_, rfl⟩
  rw [← ew1] at N
  have HN := Hid.mk N
  have EW := Hid.mk ew1
  have Hall := Hid.mk (And.intro hr (And.intro hv (And.intro hr2 hv2)))
  have HO := Hid.mk (And.intro hp (And.intro ho ho2))
  have b1 : ¬ (o : Int) < 1 := by omega
  have b2 : ¬ 101 < (o : Int) := by omega
  have b3 : ¬ (p : Int) < 0 := by omega
  have b4 : ¬ (o : Int) < (p : Int) := by omega
  clear N ew1 hr hv hr2 hv2 hp ho ho2
  go_enter Tryd.func9, Tryd.ntmps9
  go_wp2_with (fail)
  rw [← EW.out]
  refine (CV.out _ HN.out.2.2.2).mono ?_
  rintro e w2 ⟨rfl, k2⟩
  obtain ⟨⟨c0, c1, c2', c3, c4⟩, _⟩ := five (k2.heap HN.out.2.1 (by simp))
  have K2 := Hid.mk k2
  clear k2 b1 b2 b3 b4
  go_wp2_with (fail)
  refine (CV2.out _ (HN.out.2.2.2.trans K2.out)).mono ?_
  rintro e w3 ⟨rfl, k3⟩
  have K3 := Hid.mk (K2.out.trans k3)
  obtain ⟨j0, gi, gz0, gz1, gz2⟩ := info_parts Tryd.infoR
  obtain ⟨⟨x0, x1, x2, x3, x4⟩, _⟩ := five (K3.out.heap HN.out.1 (by simp))
  obtain ⟨⟨y0, y1, y2, y3, y4⟩, _⟩ := five (K3.out.heap HN.out.2.1 (by simp))
  clear k3 c0 c1 c2' c3 c4
  obtain ⟨w6, ew6⟩ : ∃ w6, w3.alloc (.cells #[.int .i64 W, .int .i64 H, .int .i64 D, .bool A, .slice none 0 0] 29 (0, 0)) = w6 := ⟨_, rfl⟩
  have hk6 : Kept [] w3 w6 := by rw [← ew6]; exact alloc_kept _ _
  have hv6 : w6.heap[w3.heap.size]? = some (.cells #[.int .i64 W, .int .i64 H, .int .i64 D, .bool A, .slice none 0 0] 29 (0, 0)) := by rw [← ew6]; exact heap_alloc_new _ _
  have hl3 : w.heap.size + 1 + 1 < w3.heap.size := lt_of_block (K3.out.heap HN.out.2.2.1 (by simp))
  obtain ⟨X, eX⟩ : ∃ X, w3.heap.size = X := ⟨_, rfl⟩
  obtain ⟨b, eb⟩ : ∃ b, w.heap.size = b := ⟨_, rfl⟩
  rw [eX] at hv6 hl3
  have HG0 : Hid (Gf w w6 X (.int .i64 W) (.int .i64 H) (.int .i64 D) (.bool A) (.slice none 0 0) 0 (fun _ => 0) (pz W H) (mxF F G p o)) := Hid.mk ⟨hv6, Gx.start _ _ _ _ _, by omega, HN.out.2.2.2.trans (K3.out.trans hk6)⟩
  have H6 := Hid.mk (And.intro ((K3.out.trans hk6).heap HN.out.1 (by simp)) (And.intro ((K3.out.trans hk6).heap HN.out.2.1 (by simp)) ((K3.out.trans hk6).heap HN.out.2.2.1 (by simp))))
  have HX : Hid (b + 1 + 1 < X) := Hid.mk (by omega)
  have E6 := Hid.mk ew6
  have EX := Hid.mk eX
  have EB := Hid.mk eb
  rw [eb] at H6
  clear hk6 hv6 hl3 ew6 CV CV2 eX eb
  go_wp2_with (fail)
  try rw [E6.out]
  try simp only [EX.out]
  try simp only [EB.out]
  clear x0 x1 x2 x3 x4 y0 y1 y2 y3 y4 EX HN EW K2 K3
  go_loopw [12] (fun i wr => ∃ (k : Nat) (V : Value) (bs : Nat → Nat), k ≤ n ∧ i = .int .i64 (k : Int) ∧ Gf w wr X (.int .i64 W) (.int .i64 H) (.int .i64 D) (.bool A) V k bs (pz W H) (mxF F G p o) ∧ wr.heap[b]? = some (.cells #[.int .i64 W, .int .i64 H, .int .i64 D, .bool A, .slice po n c] 29 (0, 0)) ∧ wr.heap[b + 1]? = some (.cells #[.int .i64 W, .int .i64 H, .int .i64 D, .bool A, .slice po2 n c2] 29 (0, 0)) ∧ wr.heap[b + 1 + 1]? = some (.cells #[.int .i64 0, .int .i64 0, .int .i64 0, .bool false, .slice none 0 0] 29 (0, 0))) (fun i _ => n - (intOf i).toNat)
  case atStart => exact ⟨0, _, _, by omega, rfl, HG0.out, H6.out.1, H6.out.2.1, H6.out.2.2⟩
  case round =>
    obtain ⟨wo, rfl⟩ : ∃ wo, wo = wr := ⟨_, rfl⟩
    obtain ⟨k, V, bs, hk, rfl, hG, hA, hB, hR⟩ := hrel
    have HG := Hid.mk hG
    have HA := Hid.mk hA
    have HB := Hid.mk hB
    have HZ := Hid.mk hR
    clear hG hA hB hR
    by_cases hlt : k < n
    · have ix : (k : Int) < (n : Int) := by omega
      obtain ⟨hr, hv, hr2, hv2⟩ := Hall.out
      obtain ⟨g1, off, bo, cc, rfl, hc, hrd⟩ := hr.at hlt
      obtain ⟨g2, off2, bo2, cc2, rfl, hc2, hrd2⟩ := hr2.at hlt
      obtain ⟨hz, hz1, hz2⟩ := hv.sz hlt
      obtain ⟨hz3, _, _⟩ := hv2.sz hlt
      rw [hz] at hc hrd
      rw [hz3] at hc2 hrd2
      have d1 := cell_keep HG.out.kept hc (by simp)
      have d2 := cell_keep HG.out.kept hc2 (by simp)
      have HD := Hid.mk (And.intro (hrd.keep HG.out.kept) (hrd2.keep HG.out.kept))
      have HT : Hid (∀ i, i < pz W H k → F k i ≤ 65535 ∧ G k i ≤ 65535) := Hid.mk (fun i hi => ⟨by have := hv.top k hlt i (by omega); have := mx_le D; omega, by have := hv2.top k hlt i (by omega); have := mx_le D; omega⟩)
      obtain ⟨⟨_, _, _, _, x4⟩, _⟩ := five HA.out
      obtain ⟨⟨_, _, _, _, y4⟩, _⟩ := five HB.out
      obtain ⟨m, em⟩ : ∃ m, pz W H k = m := ⟨_, rfl⟩
      rw [em] at d1 d2 hz2 HD HT
      have EM := Hid.mk em
      obtain ⟨mkW, hmk, hmw⟩ := make_row m (m : Int) rfl (by omega)
      have hmk1 := hmk wo
      obtain ⟨hr1, hk1⟩ := hmw wo
      obtain ⟨w4, ew4⟩ : ∃ w4, mkW wo = w4 := ⟨_, rfl⟩
      obtain ⟨r, er⟩ : ∃ r, wo.heap.size = r := ⟨_, rfl⟩
      rw [ew4, er] at hmk1
      rw [ew4] at hk1
      rw [ew4, er] at hr1
      have HR1 : Hid (Row w4 r m (mxK (fun _ => 0) (F k) (G k) p o 0)) := Hid.mk (hr1.congr (fun j _ => by unfold mxK; rw [if_neg (by omega)]))
      have HK1 := Hid.mk hk1
      have ER := Hid.mk er
      clear hmk hmw hr1 hk1 ew4 er em hc hc2 hrd hrd2 hr hv hr2 hv2 hz hz1 hz3
      go_wp2_with (fail)
      clear hmk1
      go_loopw [14] (fun i wq => ∃ t : Nat, t ≤ m ∧ i = .int .i64 (t : Int) ∧ Row wq r m (mxK (fun _ => 0) (F k) (G k) p o t) ∧ Kept [] wo wq) (fun i _ => m - (intOf i).toNat)
      case atStart => exact ⟨0, by omega, rfl, HR1.out, HK1.out⟩
      case round =>
        obtain ⟨t, ht, rfl, hrow, hkt⟩ := hrel
        by_cases hlt2 : t < m
        · have ix2 : (t : Int) < (m : Int) := by omega
          obtain ⟨ga, oa, rfl, ca1⟩ := (HD.out.1.keep hkt).at hlt2
          obtain ⟨gb, ob, rfl, cb1⟩ := (HD.out.2.keep hkt).at hlt2
          obtain ⟨hx, hy⟩ := HT.out t hlt2
          have c3 := hrow.at hlt2
          have c4 := hrow.fz t
          have hne : ∀ {B i : Nat} {v : Value}, wo.cell? ⟨B, i, none⟩ = some v → B ≠ r := fun h e => by have := World.block_lt_of_cell? wo _ h; have := ER.out; subst e; simp only at *; omega
          obtain ⟨x, ex⟩ : ∃ x, F k t = x := ⟨_, rfl⟩
          obtain ⟨y, ey⟩ : ∃ y, G k t = y := ⟨_, rfl⟩
          obtain ⟨z, ez⟩ : ∃ z, mxK (fun _ => 0) (F k) (G k) p o t t = z := ⟨_, rfl⟩
          have na : ga ≠ r := by
            have h := (HD.out.1).at hlt2
            obtain ⟨g9, o9, e9, h9⟩ := h
            cases e9
            exact hne h9
          have nb : gb ≠ r := by
            have h := (HD.out.2).at hlt2
            obtain ⟨g9, o9, e9, h9⟩ := h
            cases e9
            exact hne h9
          rw [ex] at ca1 hx
          rw [ey] at cb1 hy
          rw [ez] at c3
          have CE : Hid (∀ u, Kept [r] wr u → u.cell? ⟨b, 4, none⟩ = some (.slice (some ⟨g1, off, none⟩) n c) ∧ u.cell? ⟨g1, off + k, none⟩ = some (.slice (some ⟨ga, oa, none⟩) m cc) ∧ u.cell? ⟨ga, oa + t, none⟩ = some (.int .u16 (x : Int)) ∧ u.cell? ⟨b + 1, 4, none⟩ = some (.slice (some ⟨g2, off2, none⟩) n c2) ∧ u.cell? ⟨g2, off2 + k, none⟩ = some (.slice (some ⟨gb, ob, none⟩) m cc2) ∧ u.cell? ⟨gb, ob + t, none⟩ = some (.int .u16 (y : Int))) := Hid.mk (fun u hu => ⟨cell_keep hu (cell_keep hkt x4 (by simp)) (by simpa using hne x4), cell_keep hu (cell_keep hkt d1 (by simp)) (by simpa using hne d1), cell_keep hu ca1 (by simpa using na), cell_keep hu (cell_keep hkt y4 (by simp)) (by simpa using hne y4), cell_keep hu (cell_keep hkt d2 (by simp)) (by simpa using hne d2), cell_keep hu cb1 (by simpa using nb)⟩)
          obtain ⟨hh, eh⟩ : ∃ hh : Nat, o / 2 = hh := ⟨_, rfl⟩
          obtain ⟨hp, ho, ho2⟩ := HO.out
          obtain ⟨m9, q1, q2, q3, q4, s, hr2, hle, ⟨j1, l1⟩, n1, ⟨j2, l2⟩, ⟨j3, l3⟩, ⟨j4, l4⟩, ⟨j5, l5⟩, ⟨i5, i6⟩, ⟨j6, l6⟩, j7, ⟨jx, lx⟩, ⟨jy, ly⟩⟩ := mix_nums x y p o hh hx hy hp ho ho2 eh
          have bm9 : m9 ≤ 101 ∧ hh ≤ 101 ∧ ¬ o = 0 := by clear j1 l1 j2 l2 j3 l3 j4 l4 j5 l5 i5 i6 j6 l6 j7 jx lx jy ly; omega
          obtain ⟨jm, lm⟩ := both_in (m9 : Int) (by clear j1 l1 j2 l2 j3 l3 j4 l4 j5 l5 i5 i6 j6 l6 j7 jx lx jy ly; omega) (by clear j1 l1 j2 l2 j3 l3 j4 l4 j5 l5 i5 i6 j6 l6 j7 jx lx jy ly; omega)
          obtain ⟨jh, lh⟩ := both_in (hh : Int) (by clear j1 l1 j2 l2 j3 l3 j4 l4 j5 l5 i5 i6 j6 l6 j7 jx lx jy ly jm lm; omega) (by clear j1 l1 j2 l2 j3 l3 j4 l4 j5 l5 i5 i6 j6 l6 j7 jx lx jy ly jm lm; omega)
          obtain ⟨-, -, j0⟩ := bm9
          have eh2 : (o : Int).tdiv 2 = (hh : Int) := by rw [← eh]; rw [Int.tdiv_eq_ediv_of_nonneg (Int.natCast_nonneg _)]; rfl
          have eh3 : (o : Int) / 2 = (hh : Int) := by rw [← eh]; rfl
          have j9 : ¬ (o : Int) = 0 := fun h => Nat.ne_of_gt ho (Int.natCast_eq_zero.1 h)
          have j8 : ((o : Int) == 0) = false := by simpa using j9
          have HS : Hid (Row (wr.drew.setCell ⟨r, t, none⟩ (.int .u16 (s : Int))) r m (mxK (fun _ => 0) (F k) (G k) p o (t + 1))) := Hid.mk (((hrow.keep (Kept.refl [] wr).drew (by simp)).set (i := t) (v := s)).congr (fun j hj => by
            unfold mxK
            by_cases e : j = t
            · subst e; rw [if_pos rfl, if_pos (Nat.lt_succ_self _), ex, ey, hr2]
            · rw [if_neg e]
              by_cases e2 : j < t
              · rw [if_pos e2, if_pos (Nat.lt_succ_of_lt e2)]
              · rw [if_neg e2, if_neg (fun h => (Nat.lt_succ_iff_lt_or_eq.1 h).elim e2 e)]))
          have HK3 : Hid (Kept [r] wr (wr.drew.setCell ⟨r, t, none⟩ (.int .u16 (s : Int)))) := Hid.mk ((Kept.refl [r] wr).drew.setCell (p := ⟨r, t, none⟩) (.inl (by simp)) _)
          have HK2 : Hid (Kept [] wo (wr.drew.setCell ⟨r, t, none⟩ (.int .u16 (s : Int)))) := Hid.mk (hkt.drew.setCell (p := ⟨r, t, none⟩) (.inr (Nat.le_of_eq ER.out)) _)
          have c3d : wr.drew.cell? ⟨r, t, none⟩ = some (.int .u16 (z : Int)) := c3
          have c4d : wr.drew.frozen? ⟨r, t, none⟩ = false := c4
          clear hrow hkt ca1 cb1 hx hy hne na nb ex ey ez hr2 hle x4 y4 d1 d2 hp ho ho2 eh
          go_upto_region 19 with (fail)
          refine wp_region_held_drew (S := fun u => Kept [r] wr u) (by kernel_rfl) (Kept.refl [r] wr).drew (fun hH0 => ?_)
          refine wpAnyH_take (i := 0) (oi := _) (v := ?_) rfl (by kernel_rfl) (by kernel_rfl) (by kernel_rfl) (fun _ _ _ h => h) (Or.inl ⟨by rfl, ?y0wr⟩) (by assumption) ?r0wr
          case y0wr => (intro u hSw; have hSu : Kept [r] wr u := hSw; obtain ⟨t0, t1, t2, t3, t4, t5⟩ := CE.out u hSu; go_simp; try with_reducible rfl)
          refine wpAnyH_take (i := 1) (oi := _) (v := ?_) rfl (by kernel_rfl) (by kernel_rfl) (by kernel_rfl) (fun _ _ _ h => h) (Or.inl ⟨by rfl, ?y1wr⟩) (by assumption) ?r1wr
          case y1wr => (intro u hSw; have hSu : Kept [r] wr u := hSw; obtain ⟨t0, t1, t2, t3, t4, t5⟩ := CE.out u hSu; go_simp; try with_reducible rfl)
          refine wpAnyH_take (i := 2) (oi := _) (v := ?_) rfl (by kernel_rfl) (by kernel_rfl) (by kernel_rfl) (fun _ _ _ h => h) (Or.inl ⟨by rfl, ?y2wr⟩) (by assumption) ?r2wr
          case y2wr => (intro u hSw; have hSu : Kept [r] wr u := hSw; obtain ⟨t0, t1, t2, t3, t4, t5⟩ := CE.out u hSu; go_simp; try with_reducible rfl)
          refine wpAnyH_take (i := 3) (oi := _) (v := ?_) rfl (by kernel_rfl) (by kernel_rfl) (by kernel_rfl) (fun _ _ _ h => h) (Or.inl ⟨by rfl, ?y3wr⟩) (by assumption) ?r3wr
          case y3wr => (intro u hSw; have hSu : Kept [r] wr u := hSw; obtain ⟨t0, t1, t2, t3, t4, t5⟩ := CE.out u hSu; go_simp; try with_reducible rfl)
          refine wpAnyH_take (i := 4) (oi := _) (v := ?_) rfl (by kernel_rfl) (by kernel_rfl) (by kernel_rfl) (fun _ _ _ h => h) (Or.inl ⟨by rfl, ?y4wr⟩) (by assumption) ?r4wr
          case y4wr => (intro u hSw; have hSu : Kept [r] wr u := hSw; obtain ⟨t0, t1, t2, t3, t4, t5⟩ := CE.out u hSu; go_simp; try with_reducible rfl)
          refine wpAnyH_take (i := 5) (oi := _) (v := ?_) rfl (by kernel_rfl) (by kernel_rfl) (by kernel_rfl) (fun _ _ _ h => h) (Or.inl ⟨by rfl, ?y5wr⟩) (by assumption) ?r5wr
          case y5wr => (intro u hSw; have hSu : Kept [r] wr u := hSw; obtain ⟨t0, t1, t2, t3, t4, t5⟩ := CE.out u hSu; go_simp; try with_reducible rfl)
          refine wpAnyH_take (i := 6) (oi := _) (v := ?_) rfl (by kernel_rfl) (by kernel_rfl) (by kernel_rfl) (fun _ _ _ h => h) (Or.inl ⟨by rfl, ?y6wr⟩) (by assumption) ?r6wr
          case y6wr => (intro u hSw; have hSu : Kept [r] wr u := hSw; obtain ⟨t0, t1, t2, t3, t4, t5⟩ := CE.out u hSu; go_simp; try with_reducible rfl)
          refine wpAnyH_take (i := 7) (oi := _) (v := ?_) rfl (by kernel_rfl) (by kernel_rfl) (by kernel_rfl) (fun _ _ _ h => h) (Or.inl ⟨by rfl, ?y7wr⟩) (by assumption) ?r7wr
          case y7wr => (intro u hSw; have hSu : Kept [r] wr u := hSw; obtain ⟨t0, t1, t2, t3, t4, t5⟩ := CE.out u hSu; go_simp; try with_reducible rfl)
          refine wpAnyH_take (i := 8) (oi := _) (v := ?_) rfl (by kernel_rfl) (by kernel_rfl) (by kernel_rfl) (fun _ _ _ h => h) (Or.inl ⟨by rfl, ?y8wr⟩) (by assumption) ?r8wr
          case y8wr => (intro u hSw; have hSu : Kept [r] wr u := hSw; obtain ⟨t0, t1, t2, t3, t4, t5⟩ := CE.out u hSu; go_simp; try with_reducible rfl)
          refine wpAnyH_take (i := 9) (oi := _) (v := ?_) rfl (by kernel_rfl) (by kernel_rfl) (by kernel_rfl) (fun _ _ _ h => h) (Or.inl ⟨by rfl, ?y9wr⟩) (by assumption) ?r9wr
          case y9wr => (intro u hSw; have hSu : Kept [r] wr u := hSw; obtain ⟨t0, t1, t2, t3, t4, t5⟩ := CE.out u hSu; go_simp; try with_reducible rfl)
          refine wpAnyH_take (i := 10) (oi := _) (v := ?_) rfl (by kernel_rfl) (by kernel_rfl) (by kernel_rfl) (fun _ _ _ h => h) (Or.inl ⟨by rfl, ?y10wr⟩) (by assumption) ?r10wr
          case y10wr => (intro u hSw; have hSu : Kept [r] wr u := hSw; obtain ⟨t0, t1, t2, t3, t4, t5⟩ := CE.out u hSu; go_simp; try with_reducible rfl)
          refine wpAnyH_take (i := 11) (oi := _) (v := ?_) rfl (by kernel_rfl) (by kernel_rfl) (by kernel_rfl) (fun _ _ _ h => h) (Or.inl ⟨by rfl, ?y11wr⟩) (by assumption) ?r11wr
          case y11wr => (intro u hSw; have hSu : Kept [r] wr u := hSw; obtain ⟨t0, t1, t2, t3, t4, t5⟩ := CE.out u hSu; go_simp; try with_reducible rfl)
          refine wpAnyH_take (i := 12) (oi := _) (v := ?_) rfl (by kernel_rfl) (by kernel_rfl) (by kernel_rfl) (fun _ _ _ h => h) (Or.inl ⟨by rfl, ?y12wr⟩) (by assumption) ?r12wr
          case y12wr => (intro u hSw; have hSu : Kept [r] wr u := hSw; obtain ⟨t0, t1, t2, t3, t4, t5⟩ := CE.out u hSu; go_simp; try with_reducible rfl)
          refine wpAnyH_take (i := 13) (oi := _) (v := ?_) rfl (by kernel_rfl) (by kernel_rfl) (by kernel_rfl) (fun _ _ _ h => h) (Or.inl ⟨by rfl, ?y13wr⟩) (by assumption) ?r13wr
          case y13wr => (intro u hSw; have hSu : Kept [r] wr u := hSw; obtain ⟨t0, t1, t2, t3, t4, t5⟩ := CE.out u hSu; go_simp; try with_reducible rfl)
          refine wpAnyH_take (i := 14) (oi := _) (v := ?_) rfl (by kernel_rfl) (by kernel_rfl) (by kernel_rfl) (fun _ _ _ h => h) (Or.inl ⟨by rfl, ?y14wr⟩) (by assumption) ?r14wr
          case y14wr => (intro u hSw; have hSu : Kept [r] wr u := hSw; obtain ⟨t0, t1, t2, t3, t4, t5⟩ := CE.out u hSu; go_simp; try with_reducible rfl)
          refine wpAnyH_take (i := 15) (oi := _) (v := ?_) rfl (by kernel_rfl) (by kernel_rfl) (by kernel_rfl) (fun _ _ _ h => h) (Or.inl ⟨by rfl, ?y15wr⟩) (by assumption) ?r15wr
          case y15wr => (intro u hSw; have hSu : Kept [r] wr u := hSw; obtain ⟨t0, t1, t2, t3, t4, t5⟩ := CE.out u hSu; go_simp; try with_reducible rfl)
          refine wpAnyH_take (i := 16) (oi := _) (v := ?_) rfl (by kernel_rfl) (by kernel_rfl) (by kernel_rfl) (fun _ _ _ h => h) (Or.inl ⟨by rfl, ?y16wr⟩) (by assumption) ?r16wr
          case y16wr => (intro u hSw; have hSu : Kept [r] wr u := hSw; obtain ⟨t0, t1, t2, t3, t4, t5⟩ := CE.out u hSu; go_simp; try with_reducible rfl)
          refine wpAnyH_take (i := 17) (oi := _) (v := ?_) rfl (by kernel_rfl) (by kernel_rfl) (by kernel_rfl) (fun _ _ _ h => h) (Or.inl ⟨by rfl, ?y17wr⟩) (by assumption) ?r17wr
          case y17wr => (intro u hSw; have hSu : Kept [r] wr u := hSw; obtain ⟨t0, t1, t2, t3, t4, t5⟩ := CE.out u hSu; go_simp; try with_reducible rfl)
          refine wpAnyH_take (i := 18) (oi := _) (v := ?_) rfl (by kernel_rfl) (by kernel_rfl) (by kernel_rfl) (fun _ _ _ h => h) (Or.inl ⟨by rfl, ?y18wr⟩) (by assumption) ?r18wr
          case y18wr => (intro u hSw; have hSu : Kept [r] wr u := hSw; obtain ⟨t0, t1, t2, t3, t4, t5⟩ := CE.out u hSu; go_simp; try with_reducible rfl)
          refine wpAnyH_take (i := 19) (oi := _) (v := ?_) rfl (by kernel_rfl) (by kernel_rfl) (by kernel_rfl) (fun _ _ _ h => h) (Or.inl ⟨by rfl, ?y19wr⟩) (by assumption) ?r19wr
          case y19wr => (intro u hSw; have hSu : Kept [r] wr u := hSw; obtain ⟨t0, t1, t2, t3, t4, t5⟩ := CE.out u hSu; go_simp; try with_reducible rfl)
          refine wpAnyH_take (i := 20) (oi := _) (v := ?_) rfl (by kernel_rfl) (by kernel_rfl) (by kernel_rfl) (fun _ _ _ h => h) (Or.inl ⟨by rfl, ?y20wr⟩) (by assumption) ?r20wr
          case y20wr => (intro u hSw; have hSu : Kept [r] wr u := hSw; obtain ⟨t0, t1, t2, t3, t4, t5⟩ := CE.out u hSu; go_simp; try with_reducible rfl)
          refine wpAnyH_take (i := 21) (oi := _) (v := ?_) rfl (by kernel_rfl) (by kernel_rfl) (by kernel_rfl) (fun _ _ _ h => h) (Or.inl ⟨by rfl, ?y21wr⟩) (by assumption) ?r21wr
          case y21wr => (intro u hSw; have hSu : Kept [r] wr u := hSw; obtain ⟨t0, t1, t2, t3, t4, t5⟩ := CE.out u hSu; go_simp; try with_reducible rfl)
          refine wpAnyH_take (i := 22) (oi := _) (v := ?_) rfl (by kernel_rfl) (by kernel_rfl) (by kernel_rfl) (fun _ _ _ h => h) (Or.inl ⟨by rfl, ?y22wr⟩) (by assumption) ?r22wr
          case y22wr => (intro u hSw; have hSu : Kept [r] wr u := hSw; obtain ⟨t0, t1, t2, t3, t4, t5⟩ := CE.out u hSu; go_simp; try with_reducible rfl)
          refine wpAnyH_take (i := 23) (oi := _) (v := ?_) rfl (by kernel_rfl) (by kernel_rfl) (by kernel_rfl) (fun _ _ _ h => h) (Or.inl ⟨by rfl, ?y23wr⟩) (by assumption) ?r23wr
          case y23wr => (intro u hSw; have hSu : Kept [r] wr u := hSw; obtain ⟨t0, t1, t2, t3, t4, t5⟩ := CE.out u hSu; go_simp; try with_reducible rfl)
          refine wpAnyH_take (i := 24) (oi := _) (v := ?_) rfl (by kernel_rfl) (by kernel_rfl) (by kernel_rfl) (fun _ _ _ h => h) (Or.inl ⟨by rfl, ?y24wr⟩) (by assumption) ?r24wr
          case y24wr => (intro u hSw; have hSu : Kept [r] wr u := hSw; obtain ⟨t0, t1, t2, t3, t4, t5⟩ := CE.out u hSu; go_simp; try with_reducible rfl)
          refine wpAnyH_take (i := 25) (oi := _) (v := ?_) rfl (by kernel_rfl) (by kernel_rfl) (by kernel_rfl) (fun _ _ _ h => h) (Or.inl ⟨by rfl, ?y25wr⟩) (by assumption) ?r25wr
          case y25wr => (intro u hSw; have hSu : Kept [r] wr u := hSw; obtain ⟨t0, t1, t2, t3, t4, t5⟩ := CE.out u hSu; go_simp; try with_reducible rfl)
          refine wpAnyH_take (i := 26) (oi := _) (v := ?_) rfl (by kernel_rfl) (by kernel_rfl) (by kernel_rfl) (fun _ _ _ h => h) (Or.inl ⟨by rfl, ?y26wr⟩) (by assumption) ?r26wr
          case y26wr => (intro u hSw; have hSu : Kept [r] wr u := hSw; obtain ⟨t0, t1, t2, t3, t4, t5⟩ := CE.out u hSu; go_simp; try with_reducible rfl)
          refine wpAnyH_take (i := 27) (oi := _) (v := ?_) rfl (by kernel_rfl) (by kernel_rfl) (by kernel_rfl) (fun _ _ _ h => h) (Or.inl ⟨by rfl, ?y27wr⟩) (by assumption) ?r27wr
          case y27wr => (intro u hSw; have hSu : Kept [r] wr u := hSw; obtain ⟨t0, t1, t2, t3, t4, t5⟩ := CE.out u hSu; go_simp; try with_reducible rfl)
          refine wpAnyH_take (i := 28) (oi := _) (v := ?_) rfl (by kernel_rfl) (by kernel_rfl) (by kernel_rfl) (fun _ _ _ h => h) (Or.inl ⟨by rfl, ?y28wr⟩) (by assumption) ?r28wr
          case y28wr => (intro u hSw; have hSu : Kept [r] wr u := hSw; obtain ⟨t0, t1, t2, t3, t4, t5⟩ := CE.out u hSu; go_simp; try with_reducible rfl)
          refine wpAnyH_take (i := 29) (oi := _) (v := ?_) rfl (by kernel_rfl) (by kernel_rfl) (by kernel_rfl) (fun _ _ _ h => h) (Or.inl ⟨by rfl, ?y29wr⟩) (by assumption) ?r29wr
          case y29wr => (intro u hSw; have hSu : Kept [r] wr u := hSw; obtain ⟨t0, t1, t2, t3, t4, t5⟩ := CE.out u hSu; go_simp; try with_reducible rfl)
          refine wpAnyH_take (i := 30) (oi := _) (v := ?_) rfl (by kernel_rfl) (by kernel_rfl) (by kernel_rfl) (fun _ _ _ h => h) (Or.inl ⟨by rfl, ?y30wr⟩) (by assumption) ?r30wr
          case y30wr => (intro u hSw; have hSu : Kept [r] wr u := hSw; obtain ⟨t0, t1, t2, t3, t4, t5⟩ := CE.out u hSu; go_simp; try with_reducible rfl)
          refine wpAnyH_take (i := 31) (oi := _) (v := ?_) rfl (by kernel_rfl) (by kernel_rfl) (by kernel_rfl) (fun _ _ _ h => h) (Or.inl ⟨by rfl, ?y31wr⟩) (by assumption) ?r31wr
          case y31wr => (intro u hSw; have hSu : Kept [r] wr u := hSw; obtain ⟨t0, t1, t2, t3, t4, t5⟩ := CE.out u hSu; go_simp; try with_reducible rfl)
          refine wpAnyH_take (i := 32) (oi := _) (v := ?_) rfl (by kernel_rfl) (by kernel_rfl) (by kernel_rfl) (fun _ _ _ h => h) (Or.inl ⟨by rfl, ?y32wr⟩) (by assumption) ?r32wr
          case y32wr => (intro u hSw; have hSu : Kept [r] wr u := hSw; obtain ⟨t0, t1, t2, t3, t4, t5⟩ := CE.out u hSu; go_simp; try with_reducible rfl)
          refine wpAnyH_take (i := 33) (oi := _) (v := ?_) rfl (by kernel_rfl) (by kernel_rfl) (by kernel_rfl) (fun _ _ _ h => h) (Or.inl ⟨by rfl, ?y33wr⟩) (by assumption) ?r33wr
          case y33wr => (intro u hSw; have hSu : Kept [r] wr u := hSw; obtain ⟨t0, t1, t2, t3, t4, t5⟩ := CE.out u hSu; go_simp; try with_reducible rfl)
          refine wpAnyH_ready (rs := [34]) (by kernel_rfl) (by simp) ?_
          refine AllReadyH.cons rfl (fun K hK => ?_) AllReadyH.nil
          go_simp
          refine hK.out _ _ HK3.out (fun hH1 => ?_)
          clear hK K hH0 CE
          refine wpAnyH_done (by kernel_rfl) ?_ _
          clear hH1
          go_wp2
          go_roundw
          case rel => exact ⟨t + 1, hlt2, by go_num, HS.out, HK2.out⟩
          case measure => simp [intOf]; exact Nat.sub_lt_sub_left hlt2 (Nat.lt_succ_self _)
        · obtain rfl : m = t := by omega
          have G2 := HG.out.keep hkt
          have HQ : Hid (∀ V' w', w'.ownsRow w.heap.size 37 1 V' (k + 1) (fl (fun i => slv (bs i) (pz W H i) (pz W H i)) k ++ [slv r m m]) → Kept V.ownBlock.toList wr w' → (w'.cell? ⟨X, 4, none⟩ = some V ∧ w'.frozen? ⟨X, 4, none⟩ = false) ∧ ∃ bs', Gf w (w'.setCell ⟨X, 4, none⟩ V') X (.int .i64 W) (.int .i64 H) (.int .i64 D) (.bool A) V' (k + 1) bs' (pz W H) (mxF F G p o) ∧ (w'.setCell ⟨X, 4, none⟩ V').heap[b]? = some (.cells #[.int .i64 W, .int .i64 H, .int .i64 D, .bool A, .slice (some ⟨g1, off, none⟩) n c] 29 (0, 0)) ∧ (w'.setCell ⟨X, 4, none⟩ V').heap[b + 1]? = some (.cells #[.int .i64 W, .int .i64 H, .int .i64 D, .bool A, .slice (some ⟨g2, off2, none⟩) n c2] 29 (0, 0)) ∧ (w'.setCell ⟨X, 4, none⟩ V').heap[b + 1 + 1]? = some (.cells #[.int .i64 0, .int .i64 0, .int .i64 0, .bool false, .slice none 0 0] 29 (0, 0))) := Hid.mk (fun V' w' q1 q2 => by
            have hh := G2.app (r := r) (V' := V') (w' := w') (by rw [EM.out]; exact hrow.congr (fun j hj => by unfold mxK mxF; rw [if_pos hj])) (fun i hi => by have := (HG.out.all.row i hi).lt; have := ER.out; omega) (by have := HG.out.kept.size; have := ER.out; omega) (by rw [EM.out]; exact q1) q2
            obtain ⟨⟨_, _, _, _, p4⟩, _, _, _, _, p9⟩ := five hh.1
            have k4 : Kept [X] w' (w'.setCell ⟨X, 4, none⟩ V') := (Kept.refl _ _).setCell (p := ⟨X, 4, none⟩) (.inl (by simp)) _
            have hX9 := HX.out
            have kb : ∀ {B : Nat} {cs : Array Value}, wo.heap[B]? = some (.cells cs 29 (0, 0)) → B ≠ X → (w'.setCell ⟨X, 4, none⟩ V').heap[B]? = some (.cells cs 29 (0, 0)) := fun h hn => k4.heap (q2.heap (hkt.heap h (by simp)) (by rw [mem_own]; exact own_other G2.all.own (hkt.heap h (by simp)) (by decide))) (by simpa using hn)
            exact ⟨⟨p4, p9⟩, _, hh.2.1, kb HA.out (by omega), kb HB.out (by omega), kb HZ.out (by omega)⟩)
          have HO' := Hid.mk G2.all.own
          have hBw : w.heap.size ≤ wr.heap.size := G2.kept.size
          obtain ⟨⟨_, _, _, _, x4'⟩, _⟩ := five G2.box
          clear hrow hkt G2 HG x4 y4 d1 d2
          go_wp2_with (at_builtin; refine wpList_app1 wr rfl _ _ 27 w.heap.size 37 j0 (.slice none 0 0) 24 Tryd.underlying27 gi gz0 gz1 gz2 rfl rfl V k (fl (fun i => slv (bs i) (pz W H i) (pz W H i)) k) (by rfl) HO'.out (slv r m m) (by rfl) rfl hBw (by omega) (by omega) ?_; intro V' w4 hs3 hk3 _; obtain ⟨gN, cN, rfl⟩ := own_suc hs3; obtain ⟨⟨p4, p9⟩, bs', hq⟩ := HQ.out _ w4 hs3 hk3; have HQ2 := Hid.mk hq; clear hq)
          exact ⟨⟨k + 1, _, bs', by omega, by go_num, HQ2.out.1, HQ2.out.2.1, HQ2.out.2.2.1, HQ2.out.2.2.2⟩, by simp [intOf]; omega⟩
    · obtain rfl : n = k := by omega
      obtain ⟨⟨x0, x1, x2, x3, x4⟩, _⟩ := five HG.out.box
      obtain ⟨⟨_, _, _, _, y4⟩, _⟩ := five HA.out
      obtain ⟨⟨z0, z1, z2, z3, z4⟩, f0, f1, f2, f3, f4⟩ := five HZ.out
      obtain ⟨po', c', eV, hpl⟩ := HG.out.all.pl
      subst eV
      clear hpl
      go_wp2_with (fail)
      have s5 := set5 (.int .i64 W) (.int .i64 H) (.int .i64 D) (.bool A) (.slice po' n c') HZ.out
      refine bodyPost_ret (v := .tuple #[frv W H D A po' n c', .int .i64 0]) ?_ rfl ⟨po', c', bs, rfl, ?_, ?_⟩
      · exact results_two rfl _ _ (b + 1 + 1) 29 _ (0, 0) _ _ rfl s5.1 Tryd.underlying29 Tryd.info29 rfl
      · exact HG.out.all.keepx s5.2 HZ.out
      · exact HG.out.kept.own s5.2 (by have := EB.out; omega)
end Go.Proofs.YtgjjnkhkjnkahaaDoor
