import Derived.Test.YthihennifigchaaB3
namespace Go.Proofs.Ythihennifigchaa
open Go.RowKit

/-- A frame's part. -/
def cutF (F : Nat → Nat → Nat) (W X Y rw : Int) : Nat → Nat → Nat := fun i => crp (F i) (wp W (i : Int)).toNat (bX (i : Int) X).toNat Y.toNat (bW (i : Int) rw).toNat

/-- Blocks of a frame, a rectangle and a frame. -/
theorem ent3 (w : World) (a0 a1 a2 a3 a4 b0 b1 b2 b3 c0 c1 c2 c3 c4 : Value) (t t' t2 : Nat) :
    (((w.alloc (.cells #[a0, a1, a2, a3, a4] t (0, 0))).alloc (.cells #[b0, b1, b2, b3] t' (0, 0))).alloc (.cells #[c0, c1, c2, c3, c4] t2 (0, 0))).heap[w.heap.size]? = some (.cells #[a0, a1, a2, a3, a4] t (0, 0)) ∧
    (((w.alloc (.cells #[a0, a1, a2, a3, a4] t (0, 0))).alloc (.cells #[b0, b1, b2, b3] t' (0, 0))).alloc (.cells #[c0, c1, c2, c3, c4] t2 (0, 0))).heap[w.heap.size + 1]? = some (.cells #[b0, b1, b2, b3] t' (0, 0)) ∧
    (((w.alloc (.cells #[a0, a1, a2, a3, a4] t (0, 0))).alloc (.cells #[b0, b1, b2, b3] t' (0, 0))).alloc (.cells #[c0, c1, c2, c3, c4] t2 (0, 0))).heap[w.heap.size + 1 + 1]? = some (.cells #[c0, c1, c2, c3, c4] t2 (0, 0)) ∧
    Kept [] w (((w.alloc (.cells #[a0, a1, a2, a3, a4] t (0, 0))).alloc (.cells #[b0, b1, b2, b3] t' (0, 0))).alloc (.cells #[c0, c1, c2, c3, c4] t2 (0, 0))) := by
  refine ⟨((alloc_kept _ _).trans (alloc_kept _ _)).heap (heap_alloc_new w _) (by simp), (alloc_kept _ _).heap ?_ (by simp), ?_, ((alloc_kept _ _).trans (alloc_kept _ _)).trans (alloc_kept _ _)⟩
  · have := heap_alloc_new (w.alloc (.cells #[a0, a1, a2, a3, a4] t (0, 0))) (.cells #[b0, b1, b2, b3] t' (0, 0))
    rwa [World.size_alloc] at this
  · have := heap_alloc_new ((w.alloc (.cells #[a0, a1, a2, a3, a4] t (0, 0))).alloc (.cells #[b0, b1, b2, b3] t' (0, 0))) (.cells #[c0, c1, c2, c3, c4] t2 (0, 0))
    rwa [World.size_alloc, World.size_alloc] at this

theorem belongs_in {W H X Y rw rh : Int} (p : Int) (_hW : 1 ≤ W) (h : 1 ≤ rw ∧ 1 ≤ rh ∧ 0 ≤ X ∧ 0 ≤ Y ∧ X + rw ≤ W ∧ Y + rh ≤ H) (h2 : X % 2 = 0) : 0 ≤ bX p X ∧ 1 ≤ bW p rw ∧ bX p X + bW p rw ≤ wp W p := by
  unfold bX bW wp hf
  split
  · omega
  · omega

set_option maxHeartbeats 8000000 in
set_option maxRecDepth 1000000 in
theorem cut_any (W H D X Y rw rh : Int) (A : Bool) (po : Option Addr) (n c : Nat) (ln : Nat → Nat) (F : Nat → Nat → Nat) (w : World) (hr : Pc w po n ln F) (hv : Vld W H D A n ln F) (hw : whl W H X Y rw rh = true) :
    Calls Try.prog 36 #[frv W H D A po n c, rcv X Y rw rh] w fun e w' => ∃ g bs, e = .returned (.tuple #[frv rw rh D A (some ⟨g, 0, none⟩) n n, .int .i64 0]) ∧ Mk w w' g n n bs (pz rw rh) (cutF F W X Y rw) := by
  have hd := of_decide_eq_true hw
  have hn4 : n ≤ 4 := by rw [hv.num]; exact np_hi A
  have hs := hv.shp
  have hln : ∀ i, i < n → ln i ≤ 9223372036854775807 := fun i hi => by
    have h1 := hv.len i hi
    have h2 := wpH (i : Int) hs.1.1 hs.1.2 hs.2.1.1 hs.2.1.2
    omega
  have hs1 := hs.1
  have hs2 := hs.2.1
  have Hr := Hid.mk hr
  have Hv := Hid.mk hv
  have Hs := Hid.mk hs
  have Hd := Hid.mk hd
  have CV := Hid.mk (fun u (hk : Kept [] w u) => valid_any W H D A po n c ln F u (hr.keep hk).pl (by omega) hln)
  rw [vE_zero.2 hv] at CV
  have CW := Hid.mk (fun u => whole_any W H D X Y rw rh A u (by omega) (by omega) hs.1 hs.2.1)
  rw [hw] at CW
  have CS := Hid.mk (fun u (p : Nat) => sides_any W H D p A u (by omega) hs.1.2)
  have CB := Hid.mk (fun u (p : Nat) => belongs_any p X Y rw rh u (by omega) (by omega))
  have N := ent3 w (.int .i64 W) (.int .i64 H) (.int .i64 D) (.bool A) (.slice po n c) (.int .i64 X) (.int .i64 Y) (.int .i64 rw) (.int .i64 rh) (.int .i64 0) (.int .i64 0) (.int .i64 0) (.bool false) (.slice none 0 0) 38 51 38
  obtain ⟨w1, ew1⟩ : ∃ w1, w1 = ((w.alloc (.cells #[.int .i64 W, .int .i64 H, .int .i64 D, .bool A, .slice po n c] 38 (0, 0))).alloc (.cells #[.int .i64 X, .int .i64 Y, .int .i64 rw, .int .i64 rh] 51 (0, 0))).alloc (.cells #[.int .i64 0, .int .i64 0, .int .i64 0, .bool false, .slice none 0 0] 38 (0, 0)) := ⟨_, rfl⟩
  rw [← ew1] at N
  have HN := Hid.mk N
  have EW := Hid.mk ew1
  obtain ⟨mkW, hmk, hmw⟩ := make_planes n (by omega)
  have HMW := Hid.mk hmw
  have hmc : ∀ (u : World) (p o : Nat), p < u.heap.size → (mkW u).cell? ⟨p, o, none⟩ = u.cell? ⟨p, o, none⟩ := fun u p o hp => World.cell?_of_block (a := ⟨p, o, none⟩) ((hmw u).2.block p hp (by simp))
  have hmf : ∀ (u : World) (p o : Nat), p < u.heap.size → (mkW u).frozen? ⟨p, o, none⟩ = u.frozen? ⟨p, o, none⟩ := fun u p o hp => by
    have := (hmw u).2.block p hp (by simp)
    unfold World.frozen?
    simp only [this]
  clear N ew1 hr hv hd hs hw hln hmw hs1 hs2
  go_enter Try.func36, Try.ntmps36
  go_wp2_with (first | (go_at_call 22; rw [← EW.out]; refine (CV.out _ HN.out.2.2.2).mono ?_; rintro e w2 ⟨rfl, hk2⟩; obtain ⟨⟨c0, c1, c2, c3, c4⟩, _⟩ := five (hk2.heap HN.out.1 (by simp)); obtain ⟨⟨r0, r1, r2, r3⟩, _⟩ := four (hk2.heap HN.out.2.1 (by simp))) | (go_at_call 55; refine (CW.out _).mono ?_; rintro e w3 ⟨rfl, hk3⟩))
  have HN3 := Hid.mk (And.intro ((hk2.trans hk3).heap HN.out.1 (by simp)) (And.intro ((hk2.trans hk3).heap HN.out.2.1 (by simp)) (And.intro ((hk2.trans hk3).heap HN.out.2.2.1 (by simp)) (HN.out.2.2.2.trans (hk2.trans hk3)))))
  obtain ⟨b, eb⟩ : ∃ b, b = w.heap.size := ⟨_, rfl⟩
  rw [← eb] at HN3 ⊢
  have HEB := Hid.mk eb
  clear eb c0 c1 c2 c3 c4 r0 r1 r2 r3 hk2 hk3 HN EW CV CW
  obtain ⟨⟨c0, c1, c2, c3, c4⟩, _⟩ := five HN3.out.1
  have hb3 : b < w3.heap.size := lt_of_block HN3.out.1
  have hb4 : b < (mkW w3.drew).heap.size := Nat.lt_of_lt_of_le hb3 (HMW.out w3.drew).2.size
  have hl5 : w3.heap.size ≤ (mkW w3.drew).heap.size := (HMW.out w3.drew).2.size
  have HS : Hid (∀ u, Kept [] w3 u → u.cell? ⟨b, 0, none⟩ = some (.int .i64 W) ∧ u.cell? ⟨b, 1, none⟩ = some (.int .i64 H) ∧ u.cell? ⟨b, 2, none⟩ = some (.int .i64 D) ∧ u.cell? ⟨b, 3, none⟩ = some (.bool A) ∧ u.cell? ⟨b, 4, none⟩ = some (.slice po n c)) := Hid.mk (fun u hu => (five (hu.heap HN3.out.1 (by simp))).1)
  go_cut [7] (fun s wc => ∃ B g, s = .pointer (some ⟨B, 0, none⟩) ∧ wc.heap[B]? = some (.cells #[.int .i64 W, .int .i64 H, .int .i64 D, .bool A, .slice (some ⟨g, 0, none⟩) n n] 38 (0, 0)) ∧ wc.heap[g]? = some (.cells (List.replicate n (.slice none 0 0)).toArray 52 (0, 0)) ∧ w3.heap.size ≤ B ∧ w3.heap.size ≤ g ∧ B ≠ g ∧ Kept [] w3 wc)
  case first =>
    obtain ⟨m0, m1, m2, m3, m4⟩ := HS.out (mkW w3.drew) ((HMW.out w3.drew).2.undrew)
    obtain ⟨n0, n1, n2, n3, n4⟩ := HS.out (mkW (w3.drew.alloc (.cells #[.int .i64 0, .int .i64 0, .int .i64 0, .bool false, .slice none 0 0] 38 (0, 0)))) ((((Kept.refl [] w3).drew.alloc _).trans (HMW.out _).2))
    obtain ⟨⟨p0, p1, p2, p3, p4⟩, ⟨g0, g1, g2, g3, g4⟩, _⟩ := new_keepd (w := w3) (HMW.out (w3.drew.alloc (.cells #[.int .i64 0, .int .i64 0, .int .i64 0, .bool false, .slice none 0 0] 38 (0, 0)))).2
    go_region_law (fail)
    clear m0 m1 m2 m3 m4 n0 n1 n2 n3 n4 p0 p1 p2 p3 p4 g0 g1 g2 g3 g4
    all_goals go_wp2
    all_goals go_meet
    all_goals first
      | (refine ⟨(mkW w3.drew).heap.size, w3.heap.size, rfl, ?_⟩; have m := HMW.out w3.drew; exact ⟨heap_alloc_new _ _, (alloc_kept _ _).heap m.1 (by simp), m.2.size, Nat.le_refl _, by have := lt_of_block m.1; intro e; rw [e] at this; exact Nat.lt_irrefl _ this, (m.2.trans (alloc_kept _ _)).undrew⟩)
      | (refine ⟨w3.heap.size, w3.heap.size + 1, rfl, ?_⟩; have m := HMW.out (w3.alloc (.cells #[.int .i64 0, .int .i64 0, .int .i64 0, .bool false, .slice none 0 0] 38 (0, 0))).drew; have s5 := set5 (.int .i64 W) (.int .i64 H) (.int .i64 D) (.bool A) (.slice (some ⟨w3.heap.size + 1, 0, none⟩) n n) (m.2.heap (heap_alloc_new w3 _) (by simp)); rw [show (w3.alloc (.cells #[.int .i64 0, .int .i64 0, .int .i64 0, .bool false, .slice none 0 0] 38 (0, 0))).drew.heap.size = w3.heap.size + 1 from World.size_alloc _ _] at m; exact ⟨s5.1, s5.2.heap m.1 (by simp), Nat.le_refl _, Nat.le_succ _, by omega, ((((alloc_kept w3 _).drew.trans m.2).step s5.2 (fun x hx => by simp at hx; subst hx; exact .inr (Nat.le_refl _))))⟩)
  case rest =>
    obtain ⟨B, g, rfl, hB, hg, lB, lg, hne, hkc⟩ := hcut
    have HN4 := Hid.mk (And.intro (hkc.heap HN3.out.1 (by simp)) (And.intro (hkc.heap HN3.out.2.1 (by simp)) (And.intro (hkc.heap HN3.out.2.2.1 (by simp)) (HN3.out.2.2.2.trans hkc))))
    have hb5 : b + 1 + 1 < w3.heap.size := lt_of_block HN3.out.2.2.1
    have HB := Hid.mk hB
    have HG := Hid.mk hg
    have Hne : Hid (B ≠ g ∧ b + 1 + 1 < B ∧ b + 1 + 1 < g) := Hid.mk ⟨hne, by omega, by omega⟩
    have HlB : Hid (w.heap.size ≤ B ∧ w.heap.size ≤ g) := Hid.mk ⟨Nat.le_trans HN3.out.2.2.2.size lB, Nat.le_trans HN3.out.2.2.2.size lg⟩
    clear hB hg lB lg hne hkc c0 c1 c2 c3 c4 hb3 hb4 hb5 hl5 HS hmc hmf hmk HMW HN3
    obtain ⟨⟨r0, r1, r2, r3⟩, _⟩ := four HN4.out.2.1
    obtain ⟨⟨d0, d1, d2, d3, d4⟩, f0, f1, _⟩ := five HB.out
    go_upto_region 7 with (fail)
    go_cut [7] (fun s wd => s = .pointer (some ⟨B, 0, none⟩) ∧ wd.heap[B]? = some (.cells #[.int .i64 rw, .int .i64 rh, .int .i64 D, .bool A, .slice (some ⟨g, 0, none⟩) n n] 38 (0, 0)) ∧ Kept [B] wc wd)
    case first =>
      have hk1 : Kept [B] wc (wc.drew.setCell ⟨B, 0, none⟩ (.int .i64 rw)) := ((Kept.refl [B] wc).drew).setCell (p := ⟨B, 0, none⟩) (.inl (by simp)) _
      have hh := heap_setCell_at (w := wc.drew) (i := 0) (u := .int .i64 rw) HB.out
      have nb : b + 1 ≠ B := by have := Hne.out.2.1; omega
      have nb2 : B ≠ b + 1 := by omega
      obtain ⟨⟨_, _, t2, t3⟩, _⟩ := four (hk1.heap HN4.out.2.1 (by simpa using nb))
      obtain ⟨⟨x0, x1, x2, x3, x4⟩, y0, y1, _⟩ := five hh
      clear hh
      go_region_law (fail)
      clear x0 x1 x2 x3 x4 y0 y1 t2 t3
      all_goals go_wp2
      all_goals go_meet
      all_goals exact ⟨rfl, heap_setCell_at (heap_setCell_at HB.out), (((Kept.refl [B] wc).setCell (p := ⟨B, 0, none⟩) (.inl (by simp)) _).setCell (p := ⟨B, 1, none⟩) (.inl (by simp)) _).drew⟩
    case rest =>
      obtain ⟨rfl, hB2, hkd⟩ := hcut
      have HN5 := Hid.mk (And.intro (hkd.heap HN4.out.1 (by have := Hne.out.2.1; simp; omega)) (And.intro (hkd.heap HN4.out.2.1 (by have := Hne.out.2.1; simp; omega)) (And.intro (hkd.heap HN4.out.2.2.1 (by have := Hne.out.2.1; simp; omega)) (HN4.out.2.2.2.step hkd (fun x hx => by simp at hx; subst hx; exact .inr HlB.out.1)))))
      have HB2 := Hid.mk hB2
      have M0 : Hid (Mk w wc g 0 n (fun _ => 0) (pz rw rh) (cutF F W X Y rw)) := Hid.mk ⟨by rw [outC_zero]; exact hkd.heap HG.out (by have := Hne.out.1; simp; omega), fun i h => by omega, fun i h => by omega, fun i j h1 h2 => by omega, HlB.out.2, HN5.out.2.2.2⟩
      clear hB2 hkd HN4 HB HG r0 r1 r2 r3 d0 d1 d2 d3 d4 f0 f1
      obtain ⟨⟨c0, c1, c2, c3, c4⟩, _⟩ := five HN5.out.1
      go_wp2
      go_loopw [42] (fun i wr => ∃ (k : Nat) (bs : Nat → Nat), k ≤ n ∧ i = .int .i64 (k : Int) ∧ Mk w wr g k n bs (pz rw rh) (cutF F W X Y rw) ∧ Kept [g] wc wr) (fun i _ => n - (intOf i).toNat)
      case atStart => exact ⟨0, _, by omega, rfl, M0.out, Kept.refl _ _⟩
      case round =>
        obtain ⟨k, bs, hk, rfl, hM, hkr⟩ := hrel
        have HM := Hid.mk hM
        have Hkr := Hid.mk hkr
        have gN : b ≠ g ∧ b + 1 ≠ g ∧ b + 1 + 1 ≠ g ∧ B ≠ g := by have := Hne.out; omega
        have HN6 := Hid.mk (And.intro (hkr.heap HN5.out.1 (by simpa using gN.1)) (And.intro (hkr.heap HN5.out.2.1 (by simpa using gN.2.1)) (And.intro (hkr.heap HN5.out.2.2.1 (by simpa using gN.2.2.1)) (hkr.heap HB2.out (by simpa using gN.2.2.2)))))
        have GN := Hid.mk gN
        obtain ⟨⟨q0, q1, q2, q3, q4⟩, _⟩ := five HN6.out.1
        clear hM hkr c0 c1 c2 c3 c4 gN
        by_cases hlt : k < n
        · obtain ⟨g1, off, bo, cc, rfl, hc, hcc, hrd⟩ := (Hr.out.keep HM.out.kept).at hlt
          have ix : (k : Int) < (n : Int) := by omega
          have hL := Hv.out.len k hlt
          have hs1 := Hs.out.1
          have hs2 := Hs.out.2.1
          have hd1 := Hd.out
          have wlo := wp_lo (k : Int) hs1.1
          have whi := wp_hi (k : Int) hs1.1
          obtain ⟨wN, ewN⟩ : ∃ m : Nat, wp W (k : Int) = (m : Int) := ⟨(wp W (k : Int)).toNat, by omega⟩
          obtain ⟨hN, ehN⟩ : ∃ m : Nat, H = (m : Int) := ⟨H.toNat, by omega⟩
          have bnd := belongs_in (k : Int) (by omega) hd1.1 hd1.2.1
          obtain ⟨xN, exN⟩ : ∃ m : Nat, bX (k : Int) X = (m : Int) := ⟨(bX (k : Int) X).toNat, by omega⟩
          obtain ⟨rN, erN⟩ : ∃ m : Nat, bW (k : Int) rw = (m : Int) := ⟨(bW (k : Int) rw).toNat, by omega⟩
          obtain ⟨yN, eyN⟩ : ∃ m : Nat, Y = (m : Int) := ⟨Y.toNat, by omega⟩
          obtain ⟨qN, eqN⟩ : ∃ m : Nat, rh = (m : Int) := ⟨rh.toNat, by omega⟩
          have hlen : ln k = wN * hN := by rw [ewN, ehN] at hL; exact_mod_cast hL
          have hpz : pz rw rh k = rN * qN := by
            show (wp rw (k : Int) * rh).toNat = rN * qN
            rw [show wp rw (k : Int) = bW (k : Int) rw from rfl, erN, eqN, ← Int.natCast_mul, Int.toNat_natCast]
          have hcf : cutF F W X Y rw k = crp (F k) wN xN yN rN := by
            unfold cutF
            rw [ewN, exN, eyN, erN]
            simp
          have D2 : Hid (∀ u, Calls Try.prog 41 #[shv W H D A, .int .i64 (k : Int)] u fun e w' => e = .returned (.tuple #[.int .i64 (wN : Int), .int .i64 H]) ∧ Kept [] u w') := Hid.mk (fun u => by have := CS.out u k; rw [ewN] at this; exact this)
          have D3 : Hid (∀ u, Calls Try.prog 56 #[.int .i64 (k : Int), rcv X Y rw rh] u fun e w' => e = .returned (rcv (xN : Int) (yN : Int) (rN : Int) (qN : Int)) ∧ Kept [] u w') := Hid.mk (fun u => (CB.out u k).mono (fun e w' h => by rw [exN, erN] at h; rw [← eyN, ← eqN]; exact h))
          have D4 : Hid (∀ u, Kept [] wr u → Calls Try.prog 52 #[.slice bo (ln k) cc, .int .i64 (wN : Int), rcv (xN : Int) (yN : Int) (rN : Int) (qN : Int)] u fun e w' => ∃ bb, e = .returned (.slice (some ⟨bb, 0, none⟩) (pz rw rh k) (pz rw rh k)) ∧ Row w' bb (pz rw rh k) (cutF F W X Y rw k) ∧ u.heap.size ≤ bb ∧ Kept [] u w') := Hid.mk (fun u hu => by
            rw [hpz, hcf]
            exact part_any bo (ln k) cc (F k) wN hN xN yN rN qN u (hrd.keep hu) hcc hlen (by omega) (by omega) (by omega) (by omega) (by omega) (by omega))
          obtain ⟨y, ey⟩ : ∃ y, y = ln k := ⟨_, rfl⟩
          rw [← ey] at hc D4
          obtain ⟨z, ez⟩ : ∃ z, z = pz rw rh k := ⟨_, rfl⟩
          have EZ := Hid.mk ez
          clear ey hL hs1 hs2 hd1 wlo whi bnd ewN ehN exN erN eyN eqN hlen hpz hcf hrd hcc
          go_upto_region 12 with (go_at_call 41; refine (D2.out _).mono ?_; rintro e w2 ⟨rfl, hk2⟩)
          have HM2 := Hid.mk (HM.out.keep hk2)
          have HN7 := Hid.mk (And.intro (hk2.heap HN6.out.2.1 (by simp)) (And.intro (hk2.heap HN6.out.2.2.1 (by simp)) (hk2.heap HN6.out.2.2.2 (by simp))))
          obtain ⟨⟨r0, r1, r2, r3⟩, _⟩ := four HN7.out.1
          obtain ⟨⟨_, _, _, _, d4⟩, _⟩ := five HN7.out.2.2
          have Hk2 := Hid.mk hk2
          clear hk2 q0 q1 q2 q3 q4 D2
          go_region_law (first | (go_simp; go_at_call 56; refine (D3.out _).mono ?_; rintro e w4 ⟨rfl, hk4⟩; obtain ⟨⟨_, _, _, _, e4⟩, _⟩ := five (hk4.undrew.heap HN7.out.2.2 (by simp))) | (go_simp; go_at_call 52; refine (D4.out _ (Hk2.out.trans hk4.undrew)).mono ?_; rintro e w5 ⟨bb, rfl, hrow5, hb5, hk5⟩; obtain ⟨⟨_, _, _, _, h4⟩, _⟩ := five ((hk4.undrew.trans hk5).heap HN7.out.2.2 (by simp)); have hce := (HM2.out.keep (hk4.undrew.trans hk5)).nil (Nat.le_refl k) hlt; have hcf := (HM2.out.keep (hk4.undrew.trans hk5)).fz k))
          clear r0 r1 r2 r3 d4
          all_goals go_wp2
          all_goals go_roundw
          all_goals first
            | exact ⟨k + 1, _, by omega, by go_num, HM2.out.put (hk4.undrew.trans hk5) (Nat.le_trans hk4.undrew.size hb5) hrow5, (((Hkr.out.step Hk2.out (by simp)).step hk4.undrew (by simp)).step hk5 (by simp)).setCell (p := ⟨g, k, none⟩) (.inl (by simp)) _⟩
            | (simp [intOf]; omega)
        · obtain rfl : n = k := by omega
          obtain ⟨⟨d0, d1, d2, d3, d4⟩, _⟩ := five HN6.out.2.2.2
          obtain ⟨⟨z0, z1, z2, z3, z4⟩, f0, f1, f2, f3, f4⟩ := five HN6.out.2.2.1
          clear q0 q1 q2 q3 q4
          go_wp2
          have s5 := set5 (.int .i64 rw) (.int .i64 rh) (.int .i64 D) (.bool A) (.slice (some ⟨g, 0, none⟩) n n) HN6.out.2.2.1
          refine bodyPost_ret (v := .tuple #[frv rw rh D A (some ⟨g, 0, none⟩) n n, .int .i64 0]) ?_ rfl ⟨g, bs, rfl, ?_⟩
          · exact results_two rfl _ _ (b + 1 + 1) 38 _ (0, 0) _ _ rfl s5.1 Try.underlying38 Try.info38 rfl
          · have hg2 := Hne.out.2.2
            have hEB := HEB.out
            refine ⟨s5.2.heap HM.out.out (by simp; omega), fun i hi => (HM.out.row i hi).keep s5.2 (by have := HM.out.gt i hi; simp; omega), HM.out.gt, HM.out.mon, HM.out.new, HM.out.kept.step s5.2 (fun x hx => by simp at hx; subst hx; exact .inr (by omega))⟩
end Go.Proofs.Ythihennifigchaa
