import Derived.Test.YtiojcfffhcipnaaEe
import Derived.Handy
namespace Go.Proofs.Ytiojcfffhcipnaa
open Go.RowKit

theorem piece_at {W w : World} {a : Sta} (h : SepI W w a.Dm a.R) {i j : Nat} (hi : i < 2) (hj : j < a.n i) : Pc w (a.rp i j) (a.P (a.pi i j)) (a.pa i j) (a.pl i j) ∧ RPc w (a.dp i j) (a.D (a.pi i j)) (a.pa i j) (a.pl i j) := by
  match i, hi, hj with
  | 0, _, hj => exact ⟨h.P (6, j) hj, h.P (8, j) hj⟩
  | 1, _, hj => exact ⟨h.P (7, j) hj, h.P (9, j) hj⟩
theorem ifs_at (rp : Nat → Nat) (n j : Nat) (h : j < n) : (ifs rp n)[j]? = some (.iface 99 (.pointer (some ⟨rp j, 0, none⟩))) := by simp [ifs, h]
theorem pts_at (dp : Nat → Nat) (n j : Nat) (h : j < n) : (pts dp n)[j]? = some (.pointer (some ⟨dp j, 0, none⟩)) := by simp [pts, h]
theorem piece_cells {W w : World} {a : Sta} (h : SepI W w a.Dm a.R) {i j : Nat} (hi : i < 2) (hj : j < a.n i) : ∃ g gc d dc, a.S i = .slice (some ⟨g, 0, none⟩) (a.n i) gc ∧ a.T i = .slice (some ⟨d, 0, none⟩) (a.n i) dc ∧ w.cell? ⟨g, j, none⟩ = some (.iface 99 (.pointer (some ⟨a.rp i j, 0, none⟩))) ∧ w.cell? ⟨d, j, none⟩ = some (.pointer (some ⟨a.dp i j, 0, none⟩)) := by
  have h3 : w.ownsRow 0 59 1 (a.S i) (a.n i) (ifs (a.rp i) (a.n i)) := h.P (3, i) hi
  have h4 : w.ownsRow 0 85 1 (a.T i) (a.n i) (pts (a.dp i) (a.n i)) := h.P (4, i) hi
  obtain ⟨so, sc, es, -, -, -, -⟩ := row_form2 h3
  obtain ⟨tt, tc, et, -, -, -, -⟩ := row_form2 h4
  rw [es] at h3
  rw [et] at h4
  obtain ⟨g, rfl, hg⟩ := own_cellsN h3 (by omega)
  obtain ⟨d, rfl, hd⟩ := own_cellsN h4 (by omega)
  exact ⟨g, sc, d, tc, es, et, hg j _ (ifs_at _ _ _ hj), hd j _ (pts_at _ _ _ hj)⟩

/-- Behind what leaves the pairs and the pieces as they were, their cells are as they were. -/
theorem behind_piece {W w : World} {a a' : Sta} (sm : Same a a') (h : SepI W w a'.Dm a'.R) {i J nn g gc d dc R Q : Nat} {pl : Int} (hi : i < 2) (en : a.n i = nn) (eS : a.S i = .slice (some ⟨g, 0, none⟩) nn gc) (eT : a.T i = .slice (some ⟨d, 0, none⟩) nn dc) (eR : a.rp i J = R) (eQ : a.dp i J = Q) (epl : a.pl i J = pl) (hJ : J < a.n i) :
    w.cell? ⟨a.X i, 2, none⟩ = some (.slice (some ⟨g, 0, none⟩) nn gc) ∧ w.cell? ⟨a.X i, 3, none⟩ = some (.slice (some ⟨d, 0, none⟩) nn dc) ∧ w.cell? ⟨g, J, none⟩ = some (.iface 99 (.pointer (some ⟨R, 0, none⟩))) ∧ w.cell? ⟨d, J, none⟩ = some (.pointer (some ⟨Q, 0, none⟩)) ∧ (∃ P pa, Pc w R P pa pl) ∧ ∃ P pa, RPc w Q P pa pl := by
  have hJ' : J < a'.n i := by rw [sm.n]; exact hJ
  obtain ⟨-, -, p2, p3⟩ := pair_cells h hi
  obtain ⟨g', gc', d', dc', e1, e2, c1, c2⟩ := piece_cells h hi hJ'
  obtain ⟨hp, hr⟩ := piece_at h hi hJ'
  rw [sm.S, eS, sm.n, en] at e1
  rw [sm.T, eT, sm.n, en] at e2
  cases e1
  cases e2
  rw [sm.rp, eR] at c1 hp
  rw [sm.dp, eQ] at c2 hr
  rw [sm.pl, epl] at hp hr
  rw [sm.X, sm.S, eS] at p2
  rw [sm.X, sm.T, eT] at p3
  exact ⟨p2, p3, c1, c2, ⟨_, _, hp⟩, _, _, hr⟩

/-- The piece that is asked. -/
def pix (nn mm : Nat) : Nat := if 2 ≤ nn ∧ 0 < mm then nn - 2 else nn - 1

set_option maxHeartbeats 16000000 in
set_option maxRecDepth 1000000 in
theorem reads_piece (W w : World) (a : Sta) (k z i : Nat) (q : Stp) (h : StA W w a k z) (hi : i < 2) (hk : k + 1 ≤ 2600000000000) (hp : a.b.p ≤ 2) (hr : a.b.r ≤ 2) (hq : q.n ≤ 9223372036854775807) (kd : q.kd = 10) :
    Calls Try.prog 11 #[.pointer (some ⟨a.X i, 0, none⟩), .pointer (some ⟨a.b.A, 0, none⟩), opv q] w (ReadsP W a k z) := by
  obtain ⟨w1, ew1, k1, hb1⟩ := alloc_new w (.cells #[.int .i64 q.kd, .int .i64 q.n, .int .i64 q.m, .bool q.two, .slice q.ao q.mm q.cp] 43 (0, 0))
  have h1 := h.sep.keep k1
  obtain ⟨-, -, p2, p3⟩ := pair_cells h1 hi
  obtain ⟨o0, o1, o2, o4⟩ := opb.cells hb1
  rw [kd] at o0
  have ok := h.ok
  obtain ⟨nn, en⟩ : ∃ nn, a.n i = nn := ⟨_, rfl⟩
  have nk : nn ≤ k := by rw [← en]; exact ok.pn i hi
  have okr : a.Ok (k + 1) z := ⟨ok.alk, ok.mok, ok.mokt, ok.len, fun d hd => by have := ok.log d hd; omega, ok.mu, ok.pi, fun j hj => by have := ok.pn j hj; omega, ok.bok, ⟨by have := ok.bn.1; omega, by have := ok.bn.2; omega⟩, ok.z, hk⟩
  by_cases h0 : nn = 0
  · have h3 : w1.ownsRow 0 59 1 (a.S i) (a.n i) (ifs (a.rp i) (a.n i)) := h1.P (3, i) hi
    obtain ⟨so, sc, es, -, -, -, -⟩ := row_form2 h3
    rw [es, en, h0] at p2
    have FN : Hid (StA W w1 a (k + 1) z) := Hid.mk ⟨h1, okr⟩
    clear h h1 ok okr h3 es
    unfold opv
    rw [kd] at ew1 ⊢
    clear kd
    go_enter Try.func11, Try.ntmps11
    go_wp2
    go_ret
    refine ⟨by simp, a, ⟨rfl, rfl, rfl, rfl, rfl, rfl, rfl, rfl, rfl, rfl, rfl, rfl, rfl, rfl, rfl, rfl⟩, by omega, by omega, FN.out⟩
  · obtain ⟨J, eJ⟩ : ∃ J, pix nn q.mm = J := ⟨_, rfl⟩
    have hJ : J < nn := by rw [← eJ]; unfold pix; split <;> omega
    have hJ' : J < a.n i := by rw [en]; exact hJ
    obtain ⟨c, ec⟩ : ∃ c, a.pi i J = c := ⟨_, rfl⟩
    obtain ⟨pa, epa⟩ : ∃ pa, a.pa i J = pa := ⟨_, rfl⟩
    obtain ⟨pl, epl⟩ : ∃ pl, a.pl i J = pl := ⟨_, rfl⟩
    obtain ⟨R, eR⟩ : ∃ R, a.rp i J = R := ⟨_, rfl⟩
    obtain ⟨Q, eQ⟩ : ∃ Q, a.dp i J = Q := ⟨_, rfl⟩
    have hpi := ok.pi i hi J hJ'
    rw [ec, epa, epl] at hpi
    obtain ⟨hc, pa0, pa1, pl0, pl1⟩ := hpi
    obtain ⟨g, gc, d, dc, eS, eT, cg, cd⟩ := piece_cells h1 hi hJ'
    obtain ⟨hPc, hRc⟩ := piece_at h1 hi hJ'
    rw [ec, epa, epl, eR] at hPc
    rw [ec, epa, epl, eQ] at hRc
    rw [eR] at cg
    rw [eQ] at cd
    rw [en] at eS eT
    rw [eS] at p2
    rw [eT] at p3
    have lz := ok.len c hc
    have lg := ok.log c hc
    have zz := ok.z
    have HM : Med w1 (a.P c) (a.V c) (a.L c) (a.s c) 0 := h1.P (0, c) hc
    have HD : Rmd w1 (a.D c) (a.U c) (a.M c) (a.t c) := h1.P (1, c) hc
    have KX : Hid (∀ (ks : List Nat) (u : World), Kept ks w1 u → (∀ x ∈ ks, ∃ j, a.Dm j ∧ j.1 < 2 ∧ x ∈ (a.R j).F) → (u.cell? ⟨a.X i, 2, none⟩ = some (.slice (some ⟨g, 0, none⟩) nn gc) ∧ u.cell? ⟨g, J, none⟩ = some (.iface 99 (.pointer (some ⟨R, 0, none⟩))) ∧ u.cell? ⟨w.heap.size, 1, none⟩ = some (.int .i64 q.n) ∧ u.cell? ⟨w.heap.size, 2, none⟩ = some (.int .i64 q.m)) ∧ (u.cell? ⟨a.X i, 3, none⟩ = some (.slice (some ⟨d, 0, none⟩) nn dc) ∧ u.cell? ⟨d, J, none⟩ = some (.pointer (some ⟨Q, 0, none⟩)) ∧ u.cell? ⟨w.heap.size, 1, none⟩ = some (.int .i64 q.n) ∧ u.cell? ⟨w.heap.size, 2, none⟩ = some (.int .i64 q.m)) ∧ Pc u R (a.P c) pa pl ∧ RPc u Q (a.D c) pa pl) := Hid.mk (fun ks u hku hks => by
      have far : ∀ nm, a.Dm nm → 2 ≤ nm.1 → ∀ x ∈ (a.R nm).F, x ∉ ks := fun nm hn h2 x hx hm => by
        obtain ⟨j, hj, hlt, hx2⟩ := hks x hm
        exact h.sep.apart nm j hn hj (fun e => by rw [e] at h2; omega) x hx hx2
      have hX : u.heap[a.X i]? = some (.cells #[.pointer (some ⟨a.P (a.mu i), 0, none⟩), .pointer (some ⟨a.D (a.mu i), 0, none⟩), a.S i, a.T i] 41 (0, 0)) := hku.heap (h1.P (2, i) hi) (far (2, i) hi (by simp) _ (by show a.X i ∈ [a.X i]; simp))
      have h3 : u.ownsRow 0 59 1 (a.S i) (a.n i) (ifs (a.rp i) (a.n i)) := (a.R (3, i)).keep (h1.P (3, i) hi) hku (far (3, i) hi (by simp))
      have h4 : u.ownsRow 0 85 1 (a.T i) (a.n i) (pts (a.dp i) (a.n i)) := (a.R (4, i)).keep (h1.P (4, i) hi) hku (far (4, i) hi (by simp))
      have hO : opb u w.heap.size q := hku.heap hb1 (fun hm => by
        obtain ⟨j, hj, -, hx⟩ := hks _ hm
        exact absurd ((a.R j).lt (h.sep.P j hj) hx) (Nat.lt_irrefl _))
      obtain ⟨-, o1, o2, -⟩ := hO.cells
      rw [eS, en] at h3
      rw [eT, en] at h4
      obtain ⟨g', eg, hg⟩ := own_cellsN h3 (by omega)
      obtain ⟨d', ed, hd⟩ := own_cellsN h4 (by omega)
      cases eg
      cases ed
      have c1 := hg J _ (ifs_at _ _ _ hJ)
      have c2 := hd J _ (pts_at _ _ _ hJ)
      rw [eR] at c1
      rw [eQ] at c2
      rw [eS, eT] at hX
      have n6 : Pc u R (a.P c) pa pl ∧ RPc u Q (a.D c) pa pl := by
        rw [← eR, ← eQ, ← ec, ← epa, ← epl]
        clear c1 c2 hX h3 h4 hg hd
        match i, hi, hJ' with
        | 0, _, hj => exact ⟨(a.R (6, J)).keep (h1.P (6, J) hj) hku (far (6, J) hj (by simp)), (a.R (8, J)).keep (h1.P (8, J) hj) hku (far (8, J) hj (by simp))⟩
        | 1, _, hj => exact ⟨(a.R (7, J)).keep (h1.P (7, J) hj) hku (far (7, J) hj (by simp)), (a.R (9, J)).keep (h1.P (9, J) hj) hku (far (9, J) hj (by simp))⟩
      exact ⟨⟨by simp [World.cell?, hX], c1, o1, o2⟩, ⟨by simp [World.cell?, hX], c2, o1, o2⟩, n6⟩)
    obtain ⟨Bt, eB⟩ : ∃ Bt, rdB (a.s c) pa pl q.n q.m = Bt := ⟨_, rfl⟩
    obtain ⟨E, eE⟩ : ∃ E, rdE (a.s c) pa pl q.n q.m = E := ⟨_, rfl⟩
    have al := (ok.alk c hc).read pa pl q.n q.m
    have tb : (a.t c).b.length ≤ 268435456 := by rw [(ok.alk c hc).b]; omega
    have et1 : rdE (a.t c) pa pl q.n q.m = E := by rw [al.1, eE]
    have et2 : rdB (a.t c) pa pl q.n q.m = Bt := by rw [al.2.1, eB]
    have lB : Bt.length ≤ 268435456 := by
      rw [← eB]
      have : (rdB (a.s c) pa pl q.n q.m).length ≤ (a.s c).b.length := by
        unfold rdB
        split
        · simp
        · split
          · simp only [List.length_take, List.length_drop]; omega
          · simp
      omega
    have C1 : Hid (Calls Try.prog 92 #[.pointer (some ⟨R, 0, none⟩), .int .i64 q.n, .int .i64 q.m] w1.drew fun e w' => ∃ bo bc L', e = .returned (.tuple #[.slice bo Bt.length bc, .int .i64 E]) ∧ (w'.cell? ⟨a.X i, 2, none⟩ = some (.slice (some ⟨g, 0, none⟩) nn gc) ∧ w'.cell? ⟨g, J, none⟩ = some (.iface 99 (.pointer (some ⟨R, 0, none⟩))) ∧ w'.cell? ⟨w.heap.size, 1, none⟩ = some (.int .i64 q.n) ∧ w'.cell? ⟨w.heap.size, 2, none⟩ = some (.int .i64 q.m)) ∧ Hid (w'.ownsRow w1.heap.size 5 1 (.slice bo Bt.length bc) Bt.length (Bt.map byt) ∧ Med w' (a.P c) (a.V c) L' (rdS (a.s c) pa pl q.n q.m) 0 ∧ Kept (a.P c :: (a.L c).ownBlock.toList) w1 w' ∧ Lies w1 (a.L c) L')) := Hid.mk (by
      refine (pread_any w1.drew R _ _ _ _ pa pl q.n q.m (hPc.kept ((Kept.refl [] w1).drew) (by simp)) HM.drew (by omega) (by omega) hq pa0 pa1 pl0 pl1).mono ?_
      rintro e w' ⟨bo, bc, L', he, g1, g2, g3, g4⟩
      rw [eB, eE] at he
      rw [eB] at g1
      have g3' : Kept (a.P c :: (a.L c).ownBlock.toList) w1 w' := ((Kept.refl _ w1).drew).trans g3
      exact ⟨bo, bc, L', he, (KX.out _ w' g3' (fun x hx => ⟨(0, c), hc, by simp, inL _ _ _ x hx⟩)).1, Hid.mk ⟨g1, g2, g3', g4⟩⟩)
    have C2 : Hid (∀ w2, Kept (a.P c :: (a.L c).ownBlock.toList) w1 w2 → Calls Try.prog 47 #[.pointer (some ⟨Q, 0, none⟩), .int .i64 q.n, .int .i64 q.m] w2.drew fun e w' => ∃ bo bc M', e = .returned (.tuple #[.slice bo Bt.length bc, .int .i64 E]) ∧ (w'.cell? ⟨a.X i, 3, none⟩ = some (.slice (some ⟨d, 0, none⟩) nn dc) ∧ w'.cell? ⟨d, J, none⟩ = some (.pointer (some ⟨Q, 0, none⟩)) ∧ w'.cell? ⟨w.heap.size, 1, none⟩ = some (.int .i64 q.n) ∧ w'.cell? ⟨w.heap.size, 2, none⟩ = some (.int .i64 q.m)) ∧ Hid (w'.ownsRow w2.heap.size 5 1 (.slice bo Bt.length bc) Bt.length (Bt.map byt) ∧ Rmd w' (a.D c) (a.U c) M' (rdS (a.t c) pa pl q.n q.m) ∧ Kept (a.D c :: (a.M c).ownBlock.toList) w2 w' ∧ Lies w2 (a.M c) M')) := Hid.mk (fun w2 k2 => by
      have hd2 : Rmd w2 (a.D c) (a.U c) (a.M c) (a.t c) := HD.kept k2 (fun x hx hm => h.sep.apart (1, c) (0, c) hc hc (by simp) x hx (inL _ _ _ x hm))
      have hr2 : RPc w2 Q (a.D c) pa pl := (KX.out _ w2 k2 (fun x hx => ⟨(0, c), hc, by simp, inL _ _ _ x hx⟩)).2.2.2
      refine (rpread_any w2.drew Q _ _ _ _ pa pl q.n q.m (hr2.kept ((Kept.refl [] w2).drew) (by simp)) hd2.drew tb (by rw [(ok.alk c hc).g]; omega) hq pa0 pa1 pl0 pl1).mono ?_
      rintro e w' ⟨bo, bc, L', he, g1, g2, g3, g4⟩
      rw [et1, et2] at he
      rw [et2] at g1
      have g3' : Kept (a.D c :: (a.M c).ownBlock.toList) w2 w' := ((Kept.refl _ w2).drew).trans g3
      have k12 : Kept ((a.P c :: (a.L c).ownBlock.toList) ++ (a.D c :: (a.M c).ownBlock.toList)) w1 w' := (k2.mono (fun x hx => .inl (List.mem_append_left _ hx))).step g3' (fun x hx => .inl (List.mem_append_right _ hx))
      refine ⟨bo, bc, L', he, (KX.out _ w' k12 (fun x hx => ?_)).2.1, Hid.mk ⟨g1, g2, g3', g4⟩⟩
      rcases List.mem_append.1 hx with hx | hx
      · exact ⟨(0, c), hc, by simp, inL _ _ _ x hx⟩
      · exact ⟨(1, c), hc, by simp, inL _ _ _ x hx⟩)
    have X1 : Hid (∀ u, Kept (a.P c :: (a.L c).ownBlock.toList) w1 u → (u.cell? ⟨a.X i, 3, none⟩ = some (.slice (some ⟨d, 0, none⟩) nn dc) ∧ u.cell? ⟨d, J, none⟩ = some (.pointer (some ⟨Q, 0, none⟩)) ∧ u.cell? ⟨w.heap.size, 1, none⟩ = some (.int .i64 q.n) ∧ u.cell? ⟨w.heap.size, 2, none⟩ = some (.int .i64 q.m))) := Hid.mk (fun u hu => (KX.out _ u hu (fun x hx => ⟨(0, c), hc, by simp, inL _ _ _ x hx⟩)).2.1)
    have HH := Hid.mk (And.intro h (And.intro h1 (And.intro hc ok)))
    have PE := Hid.mk (And.intro en (And.intro eS (And.intro eT (And.intro eR (And.intro eQ (And.intro epl hJ'))))))
    have LB := Hid.mk lB
    have iJ : (J : Int) < (nn : Int) := by omega
    have cases3 : (((nn : Int) - 1 = (J : Int)) ∧ ¬ (0 < (J : Int))) ∨ (((nn : Int) - 1 = (J : Int)) ∧ 0 < (J : Int) ∧ ¬ (0 < (q.mm : Int))) ∨ (((nn : Int) - 1 = (J : Int) + 1) ∧ 0 < (q.mm : Int)) := by
      rw [← eJ]; unfold pix; split <;> omega
    have nk2 : (nn : Int) ≤ 2600000000000 := by omega
    clear h h1 HM HD ok okr lz lg zz KX eB eE al tb et1 et2 lB hPc hRc hc pa0 pa1 pl0 pl1 eS eT cd p3 eR eQ ec epa epl eJ nk hJ' h0
    unfold opv
    rw [kd] at ew1 ⊢
    clear kd
    rcases cases3 with ⟨e1, e2⟩ | ⟨e1, e2, e3⟩ | ⟨e1, e2⟩
    all_goals
      go_enter Try.func11, Try.ntmps11
      go_wp2_with (fail)
      go_region_held_law (fun u => (u.cell? ⟨a.X i, 2, none⟩ = some (.slice (some ⟨g, 0, none⟩) nn gc) ∧ u.cell? ⟨g, J, none⟩ = some (.iface 99 (.pointer (some ⟨R, 0, none⟩))) ∧ u.cell? ⟨w.heap.size, 1, none⟩ = some (.int .i64 q.n) ∧ u.cell? ⟨w.heap.size, 2, none⟩ = some (.int .i64 q.m))) (first | exact ⟨p2, cg, o1, o2⟩ | exact y0 | go_keep) (first | (go_at_call 92; with_reducible refine C1.out.mono ?_; rintro e w2 ⟨xo, xc, L', rfl, y0, R2⟩))
      all_goals focus
        have D2 := Hid.mk (C2.out w2 R2.out.2.2.1)
        have z0 := X1.out w2 R2.out.2.2.1
        clear C1 C2 X1 y0 p2 cg o0 o1 o2
        obtain ⟨z0, z1, z2, z3⟩ := z0
        go_wp2_with (fail)
        go_region_held_law (fun u => (u.cell? ⟨a.X i, 3, none⟩ = some (.slice (some ⟨d, 0, none⟩) nn dc) ∧ u.cell? ⟨d, J, none⟩ = some (.pointer (some ⟨Q, 0, none⟩)) ∧ u.cell? ⟨w.heap.size, 1, none⟩ = some (.int .i64 q.n) ∧ u.cell? ⟨w.heap.size, 2, none⟩ = some (.int .i64 q.m))) (first | exact ⟨z0, z1, z2, z3⟩ | exact y0 | go_keep) (first | (go_at_call 47; with_reducible refine D2.out.mono ?_; rintro e w3 ⟨yo, yc, M', rfl, y0, R3⟩))
        all_goals focus
          have BR := both_read HH.out.2.1 HH.out.2.2.1 (x := .slice xo Bt.length xc) (y := .slice yo Bt.length yc) R2.out.1 R2.out.2.1 R2.out.2.2.1 R2.out.2.2.2 R3.out.1 R3.out.2.1 R3.out.2.2.1 R3.out.2.2.2
          have C3 := Hid.mk (both_held BR.1 (HH.out.2.2.2.rd c HH.out.2.2.1 L' M' pa pl q.n q.m hk) (by show a.b.p < 8; omega) (by have := HH.out.2.2.2.bn.1; show a.b.n + a.b.p + 1 ≤ 2 * (k + 1); omega) LB.out BR.2.1 BR.2.2.1 BR.2.2.2.1 BR.2.2.2.2)
          have eA : (a.rd c L' M' pa pl q.n q.m).b.A = a.b.A := rfl
          rw [eA] at C3
          clear BR R2 R3 y0 z0 z1 z2 z3 D2 eA
          go_wp2_with (fail)
          with_reducible refine C3.out.mono ?_
          rintro e w4 ⟨rfl, a', sm, hp', hr', st, rx, ry⟩
          have g1 : ∀ m, Sem.run Try.prog (convert 29 9 (.slice xo Bt.length xc)) (w4.drewN m) = .ok (.string (bstr Bt)) (w4.drewN m) := fun m => reads_str ((reads_row rx).keep ((Kept.refl _ _).drewN m)) xc
          have g2 : ∀ m, Sem.run Try.prog (convert 29 9 (.slice yo Bt.length yc)) (w4.drewN m) = .ok (.string (bstr Bt)) (w4.drewN m) := fun m => reads_str ((reads_row ry).keep ((Kept.refl _ _).drewN m)) yc
          have FN := Hid.mk (And.intro sm (And.intro hp' (And.intro hr' st)))
          have q0 := behind_piece (Same.trans (Sta.rd_same a c L' M' pa pl q.n q.m) sm) st.sep hi PE.out.1 PE.out.2.1 PE.out.2.2.1 PE.out.2.2.2.1 PE.out.2.2.2.2.1 PE.out.2.2.2.2.2.1 PE.out.2.2.2.2.2.2
          obtain ⟨q2, q3, qg, qd, ⟨xP, xpa, qP⟩, xD, xda, qD⟩ := q0
          have S1 := Hid.mk (fun m => psize_any (w4.drewN m) R _ _ pl (qP.kept ((Kept.refl [] w4).drewN m) (by simp)))
          have S2 := Hid.mk (fun m => rpsize_any (w4.drewN m) Q _ _ pl (qD.kept ((Kept.refl [] w4).drewN m) (by simp)))
          clear C3 sm hp' hr' st rx ry qP qD
          go_wp2_with (fail)
          refine wp_region_quiet_lit (by kernel_rfl) (by kernel_rfl) ?_
          repeat (quiet_step (fail))
          refine wpQuiet_step (fun K hK => ?_)
          go_simp
          refine ⟨.int .i64 pl, fun m => ?_, hK _ ?_⟩
          · go_invoke
            simp only [Result.andThen_ok]
            go_simp
            exact Calls.quiet_of_same (S1.out _)
          clear hK K
          repeat (quiet_step (fail))
          refine wpQuiet_step (fun K hK => ?_)
          go_simp
          refine ⟨.int .i64 pl, fun m => ?_, hK _ ?_⟩
          · exact Calls.quiet_of_same (S2.out _)
          clear hK K
          repeat (quiet_step (fail))
          refine wpQuiet_nil ?_
          intro _ hw'
          obtain ⟨nq, hwq⟩ := hw'
          subst hwq
          obtain ⟨w5, ew5, k5⟩ : ∃ w5, w4.drewN nq = w5 ∧ Kept [] w4 w5 := ⟨_, rfl, (Kept.refl _ _).drewN _⟩
          rw [ew5]
          have K5 := Hid.mk k5
          clear g1 g2 ew5 k5 q2 q3 qg qd
          go_wp2
          go_ret
          refine ⟨by simp, a', (Sta.rd_same a c L' M' pa pl q.n q.m).trans FN.out.1, ?_, ?_, FN.out.2.2.2.sep.keep K5.out, FN.out.2.2.2.ok⟩
          · have : a'.b.p = a.b.p + 1 := FN.out.2.1
            omega
          · have : a'.b.r = a.b.r := FN.out.2.2.1
            omega
end Go.Proofs.Ytiojcfffhcipnaa
