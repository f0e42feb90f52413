import Derived.Test.YtiojcfffhcipnaaElZ
namespace Go.Proofs.Ytiojcfffhcipnaa
open Go.RowKit

set_option maxHeartbeats 16000000 in
set_option maxRecDepth 1000000 in
theorem step_piece_yes (W w : World) (a : Sta) (k z i : Nat) (q : Stp) (h : StA W w a k z) (hi : i < 2) (hk : k + 1 ≤ 2600000000000) (hp : a.b.p = 0) (hr : a.b.r = 0) (hq : Stp.Ok W q) (hz : z + q.mm ≤ 268435456) (kd : q.kd = 9) (hin : inB q.n q.m ((a.s (a.mu i)).b.length : Int) = true) :
    Calls Try.prog 10 #[.pointer (some ⟨a.X i, 0, none⟩), .pointer (some ⟨a.b.A, 0, none⟩), opv q] w (StepP W a k (z + q.mm)) := by
  obtain ⟨w1, ew1, k1, hb1⟩ := alloc_new w (.cells #[.int .i64 q.kd, .int .i64 q.n, .int .i64 q.m, .bool q.two, .slice q.ao q.mm q.cp] 43 (0, 0))
  obtain ⟨o0, o1, o2, o4⟩ := opb.cells hb1
  have LN := Hid.mk (lent_any q.ao q.mm q.cp q.l w1 (hq.rd.keep (h.sep.old.trans k1)) hq.len (by omega))
  have H := Hid.mk (And.intro h (And.intro hq (And.intro hb1 (And.intro hp hr))))
  clear h hq hb1 hp hr
  unfold opv
  rw [kd] at ew1 ⊢
  go_enter Try.func10, Try.ntmps10
  go_wp2_with (fail)
  with_reducible refine LN.out.mono ?_
  rintro e w2 ⟨g, f, rfl, hg, R2, f1, f2, k2⟩
  have hs1 : w.heap.size < w1.heap.size := (Array.getElem?_eq_some_iff.1 H.out.2.2.1).1
  have s2 : StA W w2 (a.tmp w.heap.size q g f (q.mm + 5)) k (z + q.mm) := ⟨Sta.tmp_sep H.out.1.sep (k1.trans k2) (Nat.le_refl _) (by omega) (by omega) (k2.heap H.out.2.2.1 (by simp)) R2, (H.out.1.ok.more (Nat.le_refl _) (by omega) (by omega) hz).of_tmp⟩
  have FF := Hid.mk (And.intro f1 f2)
  obtain ⟨ob, rg⟩ := s2.tmp_at rfl rfl
  obtain ⟨d0, d1, d2, d4⟩ := ob.cells
  have d3 := ob.cell3
  clear LN o0 o1 o2 o4 f1 f2 R2 k2 hg hs1
  obtain ⟨b, eb⟩ : ∃ b, b = (a.tmp w.heap.size q g f (q.mm + 5)) := ⟨_, rfl⟩
  rw [← eb] at s2
  have bX : b.X = a.X := by rw [eb]; rfl
  have bA : b.b.A = a.b.A := by rw [eb]; rfl
  have bN : b.ne = 2 := by rw [eb]; rfl
  have bE : b.e = (a.tmp w.heap.size q g f (q.mm + 5)).e := by rw [eb]
  have bs : b.s = a.s := by rw [eb]; rfl
  have bC : b.C = a.C := by rw [eb]; rfl
  have bm : b.mu = a.mu := by rw [eb]; rfl
  clear eb
  have hc : b.mu i < b.C := s2.ok.mu i hi
  obtain ⟨c, ec⟩ : ∃ c, b.mu i = c := ⟨_, rfl⟩
  rw [ec] at hc
  rw [← bm, ec] at hin
  clear bm
  obtain ⟨x0, x1⟩ := s2.cells hi
  rw [bX, ec] at x0 x1
  have hrg : 0 ≤ q.n ∧ q.n ≤ 268435456 ∧ 0 ≤ q.m ∧ q.m ≤ 268435456 := by
    have h1 := (s2.ok.mok c hc).n
    rw [bs] at h1
    simp only [inB, decide_eq_true_eq] at hin
    omega
  have CE : Hid (∀ u, SepI W u b.Dm b.R → u.cell? ⟨a.X i, 0, none⟩ = some (.pointer (some ⟨b.P c, 0, none⟩)) ∧ u.cell? ⟨a.X i, 1, none⟩ = some (.pointer (some ⟨b.D c, 0, none⟩)) ∧ u.cell? ⟨w.heap.size, 1, none⟩ = some (.int .i64 q.n) ∧ u.cell? ⟨w.heap.size, 2, none⟩ = some (.int .i64 q.m)) := Hid.mk (fun u hu => by
    obtain ⟨y0, y1, -, -⟩ := pair_cells hu hi
    rw [bX, ec] at y0 y1
    have h0 : (b.e 0).P u := hu.P (10, 0) (by show 0 < b.ne; omega)
    rw [bE] at h0
    obtain ⟨-, z1, z2, -⟩ := opb.cells (w := u) (B := w.heap.size) (q := q) h0
    exact ⟨y0, y1, z1, z2⟩)
  have okt : (b.t c).b.length = (b.s c).b.length := by rw [(s2.ok.alk c hc).b]
  have lb := (s2.ok.mok c hc).n
  have hqn := H.out.2.1.n.2
  have A1 : Hid (∀ u, SepI W u b.Dm b.R → Calls Try.prog 22 #[.pointer (some ⟨b.P c, 0, none⟩), .agg #[.int .i64 q.n, .int .i64 q.m]] u fun e u' => ∃ R, e = .returned (.tuple #[.iface 99 (.pointer (some ⟨R, 0, none⟩)), .int .i64 0]) ∧ Pcd W u' b c R q.n q.m) := Hid.mk (fun u hu => pic_yes hu hc lb hqn (by rw [bs]; exact hin))
  have A2 : Hid (∀ u R, Pcd W u b c R q.n q.m → Calls Try.prog 35 #[.pointer (some ⟨b.D c, 0, none⟩), .agg #[.int .i64 q.n, .int .i64 q.m]] u fun e u' => ∃ Q, e = .returned (.tuple #[.pointer (some ⟨Q, 0, none⟩), .int .i64 0]) ∧ Pcd2 W u' b c R Q q.n q.m) := Hid.mk (fun u R hu => rpic_yes hu hc (by rw [okt]; exact lb) hqn (by rw [okt, bs]; exact hin))
  have CE1 : Hid (∀ u R, Pcd W u b c R q.n q.m → SepI W u b.Dm b.R) := Hid.mk (fun u R hu => And.left hu)
  have CE2 : Hid (∀ u R Q, Pcd2 W u b c R Q q.n q.m → SepI W u b.Dm b.R) := Hid.mk (fun u R Q hu => And.left (And.left hu))
  have CE3 : Hid (∀ u R, Pcd W u b c R q.n q.m → Pcd W u.drew b c R q.n q.m) := Hid.mk (fun u R hu => And.intro ((And.left hu).keep ((Kept.refl [] u).drew)) (And.intro ((And.left (And.right hu)).kept ((Kept.refl [] u).drew) (by simp)) (And.right (And.right hu))))
  have AP : Hid (∀ u R Q, Pcd2 W u b c R Q q.n q.m → _) := Hid.mk (fun u R Q hu => piece_apps (i := i) (X := a.X i) (n := b.n i) hu s2.ok hi hc (by rw [bX]) rfl hrg hk)
  have S2 := Hid.mk (s2.sep.keep ((Kept.refl [] w2).drew))
  have EB := Hid.mk (And.intro bX (And.intro bA (And.intro bN bE)))
  rw [kd] at d0
  clear ob rg s2 bX bA bN bE bs bC ec hc okt lb hqn hin hrg
  go_wp2_with (fail)
  go_region_held_law (fun u => u.cell? ⟨a.X i, 0, none⟩ = some (.pointer (some ⟨b.P c, 0, none⟩)) ∧ u.cell? ⟨a.X i, 1, none⟩ = some (.pointer (some ⟨b.D c, 0, none⟩)) ∧ u.cell? ⟨w.heap.size, 1, none⟩ = some (.int .i64 q.n) ∧ u.cell? ⟨w.heap.size, 2, none⟩ = some (.int .i64 q.m)) (first | exact ⟨x0, x1, d1, d2⟩ | exact y5 | go_keep) ((go_at_call 22; with_reducible refine (A1.out _ S2.out).mono ?_; rintro e w5 ⟨R, rfl, s5⟩; have y5 := CE.out _ (CE1.out _ _ s5); have S5 := Hid.mk s5; clear s5))
  clear A1 S2 x0 x1 d0 d1 d2 d3 d4
  have S5 := Hid.mk (CE3.out _ _ S5.out)
  obtain ⟨x0, x1, d1, d2⟩ := y5
  go_wp2_with (fail)
  go_region_held_law (fun u => u.cell? ⟨a.X i, 0, none⟩ = some (.pointer (some ⟨b.P c, 0, none⟩)) ∧ u.cell? ⟨a.X i, 1, none⟩ = some (.pointer (some ⟨b.D c, 0, none⟩)) ∧ u.cell? ⟨w.heap.size, 1, none⟩ = some (.int .i64 q.n) ∧ u.cell? ⟨w.heap.size, 2, none⟩ = some (.int .i64 q.m)) (first | exact ⟨x0, x1, d1, d2⟩ | exact y6 | go_keep) ((go_at_call 35; with_reducible refine (A2.out _ R S5.out).mono ?_; rintro e w6 ⟨Q, rfl, s6⟩; have y6 := CE.out _ (CE2.out _ _ _ s6); have S6 := Hid.mk s6; clear s6))
  all_goals focus
    obtain ⟨so, sc, to_, tc, bo, cc, v1, v2, do_, dc, v3, wS, ⟨a1, a2, run1, a4, a5, e2⟩, ⟨a6, a7, run2, a9, a10, e4⟩, aS, sS, hX, hA, hn, he⟩ := AP.out _ R Q S6.out
    have SZ := Hid.mk (And.intro sS (And.intro hX (And.intro hA (And.intro hn he))))
    clear CE CE1 CE2 CE3 A2 AP x0 x1 d1 d2 y6 S5 S6 sS hX hA hn he
    obtain ⟨sS, e1, e3, e5, e6⟩ := SZ.out
    have hX : aS.X = a.X := e1.trans EB.out.1
    have hA : aS.b.A = a.b.A := e3.trans EB.out.2.1
    have hn : aS.ne = 2 := e5.trans EB.out.2.2.1
    have he : aS.e = (a.tmp w.heap.size q g f (q.mm + 5)).e := e6.trans EB.out.2.2.2
    clear SZ e1 e3 e5 e6 EB
    obtain ⟨ob, rg⟩ := sS.tmp_at hn he
    obtain ⟨-, -, -, d4⟩ := ob.cells
    have SP := Hid.mk (spent_any g q.ao q.mm q.cp q.l f wS rg FF.out.1 FF.out.2 (H.out.2.1.rd.keep sS.sep.old) (fun bg boff e0 e1 e2 => by
      rcases reads_old H.out.2.1.rd with e3 | e3
      · have := H.out.2.1.len; rw [e3] at this; simp at this; omega
      · have := e3 bg boff e0; have := sS.tmp_new hn he; omega) H.out.2.1.len (by omega))
    have SS := Hid.mk sS
    clear ob rg sS
    go_wp2_with (at_builtin; first | refine wpList_app_eq' rfl _ _ 38 rfl _ _ _ _ rfl rfl run1 ?_ | refine wpList_app_eq' rfl _ _ 39 rfl _ _ _ _ rfl rfl run2 ?_)
    with_reducible refine SP.out.mono ?_
    rintro e w3 ⟨rfl, k3⟩
    have s3 := SS.out.spent hn he k3
    have OW := Hid.mk (own_st s3)
    rw [show aS.bare.b.A = a.b.A from hA] at OW
    clear SP SS s3 k3 d4
    go_wp2_with (fail)
    with_reducible refine OW.out.mono ?_
    rintro e w4 ⟨rfl, a4, sm, -, -, p4, r4, s4⟩
    have sX : a4.X = a.X := sm.X.trans hX
    have sA : a4.b.A = a.b.A := sm.A.trans hA
    have sN : a4.ne = 0 := sm.ne
    obtain ⟨tn, td, TL⟩ := both_tell W a4 (k + 1) (z + q.mm) i hi
    obtain ⟨c0, c1⟩ := s4.cells hi
    rw [sX] at c0 c1
    obtain ⟨mP, emP⟩ : ∃ mP, a4.P (a4.mu i) = mP := ⟨_, rfl⟩
    obtain ⟨mD, emD⟩ : ∃ mD, a4.D (a4.mu i) = mD := ⟨_, rfl⟩
    have CE : Hid (∀ u, StA W u a4 (k + 1) (z + q.mm) → u.cell? ⟨a.X i, 0, none⟩ = some (.pointer (some ⟨mP, 0, none⟩)) ∧ u.cell? ⟨a.X i, 1, none⟩ = some (.pointer (some ⟨mD, 0, none⟩))) := Hid.mk (fun u hu => by
      obtain ⟨x0, x1⟩ := hu.cells hi
      rw [sX, emP] at x0
      rw [sX, emD] at x1
      exact ⟨x0, x1⟩)
    rw [emP] at c0
    rw [emD] at c1
    simp only [emP, emD] at TL
    have TT := Hid.mk TL
    have FN := Hid.mk (And.intro sX (And.intro sA (And.intro p4 (And.intro r4 sN))))
    have S4 := Hid.mk (s4.kept ((Kept.refl [] w4).drew))
    clear OW sm p4 r4 sN sX sA s4 TL emP emD H FF hX hA hn he
    go_wp2_with (fail)
    go_region_held_law (fun u => u.cell? ⟨a.X i, 0, none⟩ = some (.pointer (some ⟨mP, 0, none⟩)) ∧ u.cell? ⟨a.X i, 1, none⟩ = some (.pointer (some ⟨mD, 0, none⟩))) (first | exact ⟨c0, c1⟩ | exact y5 | exact y6 | exact y7 | exact y8 | go_keep) (first | (go_at_call 16; with_reducible refine (TT.out _ S4.out).1.mono ?_; rintro e w5 ⟨rfl, s5⟩; have y5 := CE.out _ s5; have S5 := Hid.mk s5; clear s5) | (go_at_call 38; with_reducible refine (TT.out _ S5.out).2.1.mono ?_; rintro e w6 ⟨rfl, s6⟩; have y6 := CE.out _ s6; have S6 := Hid.mk s6; clear s6) | (go_at_call 17; with_reducible refine (TT.out _ S6.out).2.2.1.mono ?_; rintro e w7 ⟨rfl, s7⟩; have y7 := CE.out _ s7; have S7 := Hid.mk s7; clear s7) | (go_at_call 39; with_reducible refine (TT.out _ S7.out).2.2.2.mono ?_; rintro e w8 ⟨rfl, s8⟩; have y8 := CE.out _ s8; have S8 := Hid.mk s8; clear s8))
    all_goals focus
      clear TT CE c0 c1 S4
      go_wp2_with (fail)
      go_ret
      exact ⟨by simp, a4, FN.out.1, FN.out.2.1, FN.out.2.2.1, FN.out.2.2.2.1, FN.out.2.2.2.2, S8.out⟩
end Go.Proofs.Ytiojcfffhcipnaa

namespace Go.Proofs.Ytiojcfffhcipnaa
open Go.RowKit

set_option maxHeartbeats 16000000 in
set_option maxRecDepth 1000000 in
theorem step_piece_no (W w : World) (a : Sta) (k z i : Nat) (q : Stp) (h : StA W w a k z) (hi : i < 2) (hk : k + 1 ≤ 2600000000000) (hp : a.b.p = 0) (hr : a.b.r = 0) (hq : Stp.Ok W q) (hz : z + q.mm ≤ 268435456) (kd : q.kd = 9) (hin : inB q.n q.m ((a.s (a.mu i)).b.length : Int) = false) :
    Calls Try.prog 10 #[.pointer (some ⟨a.X i, 0, none⟩), .pointer (some ⟨a.b.A, 0, none⟩), opv q] w (StepP W a k (z + q.mm)) := by
  obtain ⟨w1, ew1, k1, hb1⟩ := alloc_new w (.cells #[.int .i64 q.kd, .int .i64 q.n, .int .i64 q.m, .bool q.two, .slice q.ao q.mm q.cp] 43 (0, 0))
  obtain ⟨o0, o1, o2, o4⟩ := opb.cells hb1
  have LN := Hid.mk (lent_any q.ao q.mm q.cp q.l w1 (hq.rd.keep (h.sep.old.trans k1)) hq.len (by omega))
  have H := Hid.mk (And.intro h (And.intro hq (And.intro hb1 (And.intro hp hr))))
  clear h hq hb1 hp hr
  unfold opv
  rw [kd] at ew1 ⊢
  go_enter Try.func10, Try.ntmps10
  go_wp2_with (fail)
  with_reducible refine LN.out.mono ?_
  rintro e w2 ⟨g, f, rfl, hg, R2, f1, f2, k2⟩
  have hs1 : w.heap.size < w1.heap.size := (Array.getElem?_eq_some_iff.1 H.out.2.2.1).1
  have s2 : StA W w2 (a.tmp w.heap.size q g f (q.mm + 5)) k (z + q.mm) := ⟨Sta.tmp_sep H.out.1.sep (k1.trans k2) (Nat.le_refl _) (by omega) (by omega) (k2.heap H.out.2.2.1 (by simp)) R2, (H.out.1.ok.more (Nat.le_refl _) (by omega) (by omega) hz).of_tmp⟩
  have FF := Hid.mk (And.intro f1 f2)
  obtain ⟨ob, rg⟩ := s2.tmp_at rfl rfl
  obtain ⟨d0, d1, d2, d4⟩ := ob.cells
  have d3 := ob.cell3
  clear LN o0 o1 o2 o4 f1 f2 R2 k2 hg hs1
  obtain ⟨b, eb⟩ : ∃ b, b = (a.tmp w.heap.size q g f (q.mm + 5)) := ⟨_, rfl⟩
  rw [← eb] at s2
  have bX : b.X = a.X := by rw [eb]; rfl
  have bA : b.b.A = a.b.A := by rw [eb]; rfl
  have bN : b.ne = 2 := by rw [eb]; rfl
  have bE : b.e = (a.tmp w.heap.size q g f (q.mm + 5)).e := by rw [eb]
  have bs : b.s = a.s := by rw [eb]; rfl
  have bC : b.C = a.C := by rw [eb]; rfl
  have bm : b.mu = a.mu := by rw [eb]; rfl
  clear eb
  have hc : b.mu i < b.C := s2.ok.mu i hi
  obtain ⟨c, ec⟩ : ∃ c, b.mu i = c := ⟨_, rfl⟩
  rw [ec] at hc
  rw [← bm, ec] at hin
  clear bm
  obtain ⟨x0, x1⟩ := s2.cells hi
  rw [bX, ec] at x0 x1
  have CE : Hid (∀ u, SepI W u b.Dm b.R → u.cell? ⟨a.X i, 0, none⟩ = some (.pointer (some ⟨b.P c, 0, none⟩)) ∧ u.cell? ⟨a.X i, 1, none⟩ = some (.pointer (some ⟨b.D c, 0, none⟩)) ∧ u.cell? ⟨w.heap.size, 1, none⟩ = some (.int .i64 q.n) ∧ u.cell? ⟨w.heap.size, 2, none⟩ = some (.int .i64 q.m)) := Hid.mk (fun u hu => by
    obtain ⟨y0, y1, -, -⟩ := pair_cells hu hi
    rw [bX, ec] at y0 y1
    have h0 : (b.e 0).P u := hu.P (10, 0) (by show 0 < b.ne; omega)
    rw [bE] at h0
    obtain ⟨-, z1, z2, -⟩ := opb.cells (w := u) (B := w.heap.size) (q := q) h0
    exact ⟨y0, y1, z1, z2⟩)
  have okt : (b.t c).b.length = (b.s c).b.length := by rw [(s2.ok.alk c hc).b]
  have lb := (s2.ok.mok c hc).n
  have hqn := H.out.2.1.n.2
  have A1 : Hid (∀ u, SepI W u b.Dm b.R → Calls Try.prog 22 #[.pointer (some ⟨b.P c, 0, none⟩), .agg #[.int .i64 q.n, .int .i64 q.m]] u fun e u' => e = .returned (.tuple #[.nilIface, .int .i64 151]) ∧ SepI W u' b.Dm b.R) := Hid.mk (fun u hu => pic_no hu hc lb hqn (by rw [bs]; exact hin))
  have A2 : Hid (∀ u, SepI W u b.Dm b.R → Calls Try.prog 35 #[.pointer (some ⟨b.D c, 0, none⟩), .agg #[.int .i64 q.n, .int .i64 q.m]] u fun e u' => e = .returned (.tuple #[.pointer none, .int .i64 151]) ∧ SepI W u' b.Dm b.R) := Hid.mk (fun u hu => rpic_no hu hc (by rw [okt]; exact lb) hqn (by rw [okt, bs]; exact hin))
  have OK2 := Hid.mk (s2.ok.more (Nat.le_succ k) (Nat.le_refl _) hk hz)
  have S2 := Hid.mk (s2.sep.keep ((Kept.refl [] w2).drew))
  have EB := Hid.mk (And.intro bX (And.intro bA (And.intro bN bE)))
  rw [kd] at d0
  clear ob rg s2 bX bA bN bE bs bC ec hc okt lb hqn hin
  go_wp2_with (fail)
  go_region_held_law (fun u => u.cell? ⟨a.X i, 0, none⟩ = some (.pointer (some ⟨b.P c, 0, none⟩)) ∧ u.cell? ⟨a.X i, 1, none⟩ = some (.pointer (some ⟨b.D c, 0, none⟩)) ∧ u.cell? ⟨w.heap.size, 1, none⟩ = some (.int .i64 q.n) ∧ u.cell? ⟨w.heap.size, 2, none⟩ = some (.int .i64 q.m)) (first | exact ⟨x0, x1, d1, d2⟩ | exact y5 | go_keep) ((go_at_call 22; with_reducible refine (A1.out _ S2.out).mono ?_; rintro e w5 ⟨rfl, s5⟩; have y5 := CE.out _ s5; have S5 := Hid.mk s5; clear s5))
  clear A1 S2 x0 x1 d0 d1 d2 d3 d4
  have S5 := Hid.mk (S5.out.keep ((Kept.refl [] w5).drew))
  obtain ⟨x0, x1, d1, d2⟩ := y5
  go_wp2_with (fail)
  go_region_held_law (fun u => u.cell? ⟨a.X i, 0, none⟩ = some (.pointer (some ⟨b.P c, 0, none⟩)) ∧ u.cell? ⟨a.X i, 1, none⟩ = some (.pointer (some ⟨b.D c, 0, none⟩)) ∧ u.cell? ⟨w.heap.size, 1, none⟩ = some (.int .i64 q.n) ∧ u.cell? ⟨w.heap.size, 2, none⟩ = some (.int .i64 q.m)) (first | exact ⟨x0, x1, d1, d2⟩ | exact y6 | go_keep) ((go_at_call 35; with_reducible refine (A2.out _ S5.out).mono ?_; rintro e wS ⟨rfl, s6⟩; have y6 := CE.out _ s6; have S6 := Hid.mk s6; clear s6))
  all_goals focus
    obtain ⟨aS, sS, hX, hA, hn, he⟩ : ∃ aS : Sta, StA W wS aS (k + 1) (z + q.mm) ∧ aS.X = a.X ∧ aS.b.A = a.b.A ∧ aS.ne = 2 ∧ aS.e = (a.tmp w.heap.size q g f (q.mm + 5)).e := ⟨b, ⟨S6.out, OK2.out⟩, EB.out⟩
    clear CE A2 x0 x1 d1 d2 y6 S5 S6 EB OK2
    obtain ⟨ob, rg⟩ := sS.tmp_at hn he
    obtain ⟨-, -, -, d4⟩ := ob.cells
    have SP := Hid.mk (spent_any g q.ao q.mm q.cp q.l f wS rg FF.out.1 FF.out.2 (H.out.2.1.rd.keep sS.sep.old) (fun bg boff e0 e1 e2 => by
      rcases reads_old H.out.2.1.rd with e3 | e3
      · have := H.out.2.1.len; rw [e3] at this; simp at this; omega
      · have := e3 bg boff e0; have := sS.tmp_new hn he; omega) H.out.2.1.len (by omega))
    have SS := Hid.mk sS
    clear ob rg sS
    go_wp2_with (fail)
    with_reducible refine SP.out.mono ?_
    rintro e w3 ⟨rfl, k3⟩
    have s3 := SS.out.spent hn he k3
    have OW := Hid.mk (own_st s3)
    rw [show aS.bare.b.A = a.b.A from hA] at OW
    clear SP SS s3 k3 d4
    go_wp2_with (fail)
    with_reducible refine OW.out.mono ?_
    rintro e w4 ⟨rfl, a4, sm, -, -, p4, r4, s4⟩
    have sX : a4.X = a.X := sm.X.trans hX
    have sA : a4.b.A = a.b.A := sm.A.trans hA
    have sN : a4.ne = 0 := sm.ne
    obtain ⟨tn, td, TL⟩ := both_tell W a4 (k + 1) (z + q.mm) i hi
    obtain ⟨c0, c1⟩ := s4.cells hi
    rw [sX] at c0 c1
    obtain ⟨mP, emP⟩ : ∃ mP, a4.P (a4.mu i) = mP := ⟨_, rfl⟩
    obtain ⟨mD, emD⟩ : ∃ mD, a4.D (a4.mu i) = mD := ⟨_, rfl⟩
    have CE : Hid (∀ u, StA W u a4 (k + 1) (z + q.mm) → u.cell? ⟨a.X i, 0, none⟩ = some (.pointer (some ⟨mP, 0, none⟩)) ∧ u.cell? ⟨a.X i, 1, none⟩ = some (.pointer (some ⟨mD, 0, none⟩))) := Hid.mk (fun u hu => by
      obtain ⟨x0, x1⟩ := hu.cells hi
      rw [sX, emP] at x0
      rw [sX, emD] at x1
      exact ⟨x0, x1⟩)
    rw [emP] at c0
    rw [emD] at c1
    simp only [emP, emD] at TL
    have TT := Hid.mk TL
    have FN := Hid.mk (And.intro sX (And.intro sA (And.intro p4 (And.intro r4 sN))))
    have S4 := Hid.mk (s4.kept ((Kept.refl [] w4).drew))
    clear OW sm p4 r4 sN sX sA s4 TL emP emD H FF hX hA hn he
    go_wp2_with (fail)
    go_region_held_law (fun u => u.cell? ⟨a.X i, 0, none⟩ = some (.pointer (some ⟨mP, 0, none⟩)) ∧ u.cell? ⟨a.X i, 1, none⟩ = some (.pointer (some ⟨mD, 0, none⟩))) (first | exact ⟨c0, c1⟩ | exact y5 | exact y6 | exact y7 | exact y8 | go_keep) (first | (go_at_call 16; with_reducible refine (TT.out _ S4.out).1.mono ?_; rintro e w5 ⟨rfl, s5⟩; have y5 := CE.out _ s5; have S5 := Hid.mk s5; clear s5) | (go_at_call 38; with_reducible refine (TT.out _ S5.out).2.1.mono ?_; rintro e w6 ⟨rfl, s6⟩; have y6 := CE.out _ s6; have S6 := Hid.mk s6; clear s6) | (go_at_call 17; with_reducible refine (TT.out _ S6.out).2.2.1.mono ?_; rintro e w7 ⟨rfl, s7⟩; have y7 := CE.out _ s7; have S7 := Hid.mk s7; clear s7) | (go_at_call 39; with_reducible refine (TT.out _ S7.out).2.2.2.mono ?_; rintro e w8 ⟨rfl, s8⟩; have y8 := CE.out _ s8; have S8 := Hid.mk s8; clear s8))
    all_goals focus
      clear TT CE c0 c1 S4
      go_wp2_with (fail)
      go_ret
      exact ⟨by simp, a4, FN.out.1, FN.out.2.1, FN.out.2.2.1, FN.out.2.2.2.1, FN.out.2.2.2.2, S8.out⟩
end Go.Proofs.Ytiojcfffhcipnaa
