import Derived.Test.YtiojcfffhcipnaaEh
import Derived.Handy
namespace Go.Proofs.Ytiojcfffhcipnaa
open Go.RowKit

/-- A medium of the program's and the document's of the same number change alike. -/
theorem Sta.Ok.both {a : Sta} {k z k' : Nat} (h : a.Ok k z) (c : Nat) {V L U M : Value} {s t : Md} (al : Alk s t) (ms : Mok s) (mt : Mok t) (hl : s.b.length ≤ z) (hg : s.g.length ≤ k') (hkk : k ≤ k') (hk : k' ≤ 2600000000000) : ((a.setP c V L s).setD c U M t).Ok k' z := by
  have es : ∀ d, ((a.setP c V L s).setD c U M t).s d = if d = c then s else a.s d := fun d => by simp [Sta.setP, Sta.setD, updI]
  have et : ∀ d, ((a.setP c V L s).setD c U M t).t d = if d = c then t else a.t d := fun d => by simp [Sta.setP, Sta.setD, updI]
  refine ⟨fun d hd => ?_, fun d hd => ?_, fun d hd => ?_, fun d hd => ?_, fun d hd => ?_, h.mu, h.pi, fun i hi => by have := h.pn i hi; show a.n i ≤ k'; omega, h.bok, ⟨by have := h.bn.1; show a.b.n + a.b.p ≤ 2 * k'; omega, by have := h.bn.2; show a.b.q + a.b.r ≤ 2 * k'; omega⟩, h.z, hk⟩
  · rw [es, et]
    by_cases e : d = c
    · rw [if_pos e, if_pos e]; exact al
    · rw [if_neg e, if_neg e]; exact h.alk d hd
  · rw [es]
    by_cases e : d = c
    · rw [if_pos e]; exact ms
    · rw [if_neg e]; exact h.mok d hd
  · rw [et]
    by_cases e : d = c
    · rw [if_pos e]; exact mt
    · rw [if_neg e]; exact h.mokt d hd
  · rw [es]
    by_cases e : d = c
    · rw [if_pos e]; exact hl
    · rw [if_neg e]; exact h.len d hd
  · rw [es]
    by_cases e : d = c
    · rw [if_pos e]; exact hg
    · rw [if_neg e]; have := h.log d hd; omega

set_option maxHeartbeats 16000000 in
set_option maxRecDepth 1000000 in
theorem step_forget (W w : World) (a : Sta) (k z i : Nat) (q : Stp) (h : StA W w a k z) (hi : i < 2) (hk : k + 1 ≤ 2600000000000) (hp : a.b.p = 0) (hr : a.b.r = 0) (hq : Stp.Ok W q) (hz : z + q.mm ≤ 268435456) (kd : q.kd = 8) :
    Calls Try.prog 10 #[.pointer (some ⟨a.X i, 0, none⟩), .pointer (some ⟨a.b.A, 0, none⟩), opv q] w (StepP W a k (z + q.mm)) := by
  obtain ⟨w1, ew1, k1, hb1⟩ := alloc_new w (.cells #[.int .i64 q.kd, .int .i64 q.n, .int .i64 q.m, .bool q.two, .slice q.ao q.mm q.cp] 43 (0, 0))
  obtain ⟨o0, o1, o2, o4⟩ := opb.cells hb1
  have LN := Hid.mk (lent_any q.ao q.mm q.cp q.l w1 (hq.rd.keep (h.sep.old.trans k1)) hq.len (by omega))
  have H := Hid.mk (And.intro h (And.intro hq (And.intro hb1 (And.intro hp hr))))
  clear h hq hb1 hp hr
  unfold opv
  rw [kd] at ew1 ⊢
  go_enter Try.func10, Try.ntmps10
  go_wp2_with (fail)
  with_reducible refine LN.out.mono ?_
  rintro e w2 ⟨g, f, rfl, hg, R2, f1, f2, k2⟩
  have hs1 : w.heap.size < w1.heap.size := (Array.getElem?_eq_some_iff.1 H.out.2.2.1).1
  have s2 : StA W w2 (a.tmp w.heap.size q g f (q.mm + 5)) k (z + q.mm) := ⟨Sta.tmp_sep H.out.1.sep (k1.trans k2) (Nat.le_refl _) (by omega) (by omega) (k2.heap H.out.2.2.1 (by simp)) R2, (H.out.1.ok.more (Nat.le_refl _) (by omega) (by omega) hz).of_tmp⟩
  have FF := Hid.mk (And.intro f1 f2)
  obtain ⟨ob, rg⟩ := s2.tmp_at rfl rfl
  obtain ⟨d0, d1, d2, d4⟩ := ob.cells
  have d3 := ob.cell3
  clear LN o0 o1 o2 o4 f1 f2 R2 k2 hg hs1
  obtain ⟨b, eb⟩ : ∃ b, b = (a.tmp w.heap.size q g f (q.mm + 5)) := ⟨_, rfl⟩
  rw [← eb] at s2
  have bX : b.X = a.X := by rw [eb]; rfl
  have EB := Hid.mk eb
  clear eb
  have hc : b.mu i < b.C := s2.ok.mu i hi
  obtain ⟨c, ec⟩ : ∃ c, b.mu i = c := ⟨_, rfl⟩
  rw [ec] at hc
  have HM : Med w2 (b.P c) (b.V c) (b.L c) (b.s c) 0 := s2.sep.P (0, c) hc
  obtain ⟨x0, x1⟩ := s2.cells hi
  rw [bX, ec] at x0 x1
  have C1 := Hid.mk (forget_any w2 _ _ _ _ HM)
  have S2 := Hid.mk (And.intro s2 hc)
  rw [kd] at d0
  clear ob rg s2 HM
  go_wp2_with (fail)
  with_reducible refine C1.out.mono ?_
  rintro e w5 ⟨rfl, m5, k5⟩
  have p5 : SepI W w5 (b.setP c (b.V c) (.slice none 0 0) { b.s c with g := [] }).Dm (b.setP c (b.V c) (.slice none 0 0) { b.s c with g := [] }).R := StA.stepP S2.out.1.sep hc k5 (fun x hx => .inl (hx)) m5 (fun x hx => .inl hx) (fun x hx => by first | exact .inl hx | exact absurd hx (by simp [Value.ownBlock]))
  have HD : Rmd w5 (b.D c) (b.U c) (b.M c) (b.t c) := p5.P (1, c) hc
  obtain ⟨-, y1, -, -⟩ := pair_cells p5 hi
  have y1 : w5.cell? ⟨b.X i, 1, none⟩ = some (.pointer (some ⟨b.D (b.mu i), 0, none⟩)) := y1
  rw [bX, ec] at y1
  have C2 := Hid.mk (rforget_any w5 _ _ _ _ HD)
  have P5 := Hid.mk p5
  clear C1 x0 x1 m5 k5 p5 HD d0 d1 d2 d3 d4
  go_wp2_with (fail)
  with_reducible refine C2.out.mono ?_
  rintro e wS ⟨rfl, m6, k6⟩
  have p6 := StA.stepD P5.out (c := c) hc k6 (fun x hx => .inl (inL _ _ _ x hx)) m6 (fun x hx => .inl hx) (fun x hx => by first | exact .inl hx | exact absurd hx (by simp [Value.ownBlock]))
  have o6 : ((b.setP c (b.V c) (.slice none 0 0) { b.s c with g := [] }).setD c (b.U c) (.slice none 0 0) { b.t c with g := [] }).Ok (k + 1) (z + q.mm) := Sta.Ok.both S2.out.1.ok c (S2.out.1.ok.alk c hc).forget ⟨(S2.out.1.ok.mok c hc).n, (S2.out.1.ok.mok c hc).by_, (S2.out.1.ok.mok c hc).l0, (S2.out.1.ok.mok c hc).l1, (S2.out.1.ok.mok c hc).k0, (S2.out.1.ok.mok c hc).k1⟩ ⟨(S2.out.1.ok.mokt c hc).n, (S2.out.1.ok.mokt c hc).by_, (S2.out.1.ok.mokt c hc).l0, (S2.out.1.ok.mokt c hc).l1, (S2.out.1.ok.mokt c hc).k0, (S2.out.1.ok.mokt c hc).k1⟩ (S2.out.1.ok.len c hc) (by simp) (by omega) hk
  obtain ⟨aS, eS⟩ : ∃ aS, aS = (b.setP c (b.V c) (.slice none 0 0) { b.s c with g := [] }).setD c (b.U c) (.slice none 0 0) { b.t c with g := [] } := ⟨_, rfl⟩
  have sS : StA W wS aS (k + 1) (z + q.mm) := by rw [eS]; exact ⟨p6, o6⟩
  have hX : aS.X = a.X := by rw [eS, EB.out]; rfl
  have hA : aS.b.A = a.b.A := by rw [eS, EB.out]; rfl
  have hn : aS.ne = 2 := by rw [eS, EB.out]; rfl
  have he : aS.e = (a.tmp w.heap.size q g f (q.mm + 5)).e := by rw [eS, EB.out]; rfl
  clear C2 P5 S2 p6 o6 eS EB y1 m6 k6 bX
  obtain ⟨ob, rg⟩ := sS.tmp_at hn he
  obtain ⟨-, -, -, d4⟩ := ob.cells
  have SP := Hid.mk (spent_any g q.ao q.mm q.cp q.l f wS rg FF.out.1 FF.out.2 (H.out.2.1.rd.keep sS.sep.old) (fun bg boff e0 e1 e2 => by
    rcases reads_old H.out.2.1.rd with e3 | e3
    · have := H.out.2.1.len; rw [e3] at this; simp at this; omega
    · have := e3 bg boff e0; have := sS.tmp_new hn he; omega) H.out.2.1.len (by omega))
  have SS := Hid.mk sS
  clear ob rg sS
  go_wp2_with (fail)
  with_reducible refine SP.out.mono ?_
  rintro e w3 ⟨rfl, k3⟩
  have s3 := SS.out.spent hn he k3
  have OW := Hid.mk (own_st s3)
  rw [show aS.bare.b.A = a.b.A from hA] at OW
  clear SP SS s3 k3 d4
  go_wp2_with (fail)
  with_reducible refine OW.out.mono ?_
  rintro e w4 ⟨rfl, a4, sm, -, -, p4, r4, s4⟩
  have sX : a4.X = a.X := sm.X.trans hX
  have sA : a4.b.A = a.b.A := sm.A.trans hA
  have sN : a4.ne = 0 := sm.ne
  obtain ⟨tn, td, TL⟩ := both_tell W a4 (k + 1) (z + q.mm) i hi
  obtain ⟨c0, c1⟩ := s4.cells hi
  rw [sX] at c0 c1
  obtain ⟨mP, emP⟩ : ∃ mP, a4.P (a4.mu i) = mP := ⟨_, rfl⟩
  obtain ⟨mD, emD⟩ : ∃ mD, a4.D (a4.mu i) = mD := ⟨_, rfl⟩
  have CE : Hid (∀ u, StA W u a4 (k + 1) (z + q.mm) → u.cell? ⟨a.X i, 0, none⟩ = some (.pointer (some ⟨mP, 0, none⟩)) ∧ u.cell? ⟨a.X i, 1, none⟩ = some (.pointer (some ⟨mD, 0, none⟩))) := Hid.mk (fun u hu => by
    obtain ⟨x0, x1⟩ := hu.cells hi
    rw [sX, emP] at x0
    rw [sX, emD] at x1
    exact ⟨x0, x1⟩)
  rw [emP] at c0
  rw [emD] at c1
  simp only [emP, emD] at TL
  have TT := Hid.mk TL
  have FN := Hid.mk (And.intro sX (And.intro sA (And.intro p4 (And.intro r4 sN))))
  have S4 := Hid.mk (s4.kept ((Kept.refl [] w4).drew))
  clear OW sm p4 r4 sN sX sA s4 TL emP emD H FF hX hA hn he
  go_wp2_with (fail)
  go_region_held_law (fun u => u.cell? ⟨a.X i, 0, none⟩ = some (.pointer (some ⟨mP, 0, none⟩)) ∧ u.cell? ⟨a.X i, 1, none⟩ = some (.pointer (some ⟨mD, 0, none⟩))) (first | exact ⟨c0, c1⟩ | exact y5 | exact y6 | exact y7 | exact y8 | go_keep) (first | (go_at_call 16; with_reducible refine (TT.out _ S4.out).1.mono ?_; rintro e w5 ⟨rfl, s5⟩; have y5 := CE.out _ s5; have S5 := Hid.mk s5; clear s5) | (go_at_call 38; with_reducible refine (TT.out _ S5.out).2.1.mono ?_; rintro e w6 ⟨rfl, s6⟩; have y6 := CE.out _ s6; have S6 := Hid.mk s6; clear s6) | (go_at_call 17; with_reducible refine (TT.out _ S6.out).2.2.1.mono ?_; rintro e w7 ⟨rfl, s7⟩; have y7 := CE.out _ s7; have S7 := Hid.mk s7; clear s7) | (go_at_call 39; with_reducible refine (TT.out _ S7.out).2.2.2.mono ?_; rintro e w8 ⟨rfl, s8⟩; have y8 := CE.out _ s8; have S8 := Hid.mk s8; clear s8))
  all_goals focus
    clear TT CE c0 c1 S4
    go_wp2_with (fail)
    go_ret
    exact ⟨by simp, a4, FN.out.1, FN.out.2.1, FN.out.2.2.1, FN.out.2.2.2.1, FN.out.2.2.2.2, S8.out⟩
set_option maxHeartbeats 16000000 in
set_option maxRecDepth 1000000 in
theorem step_revive (W w : World) (a : Sta) (k z i : Nat) (q : Stp) (h : StA W w a k z) (hi : i < 2) (hk : k + 1 ≤ 2600000000000) (hp : a.b.p = 0) (hr : a.b.r = 0) (hq : Stp.Ok W q) (hz : z + q.mm ≤ 268435456) (kd : q.kd = 4) :
    Calls Try.prog 10 #[.pointer (some ⟨a.X i, 0, none⟩), .pointer (some ⟨a.b.A, 0, none⟩), opv q] w (StepP W a k (z + q.mm)) := by
  obtain ⟨w1, ew1, k1, hb1⟩ := alloc_new w (.cells #[.int .i64 q.kd, .int .i64 q.n, .int .i64 q.m, .bool q.two, .slice q.ao q.mm q.cp] 43 (0, 0))
  obtain ⟨o0, o1, o2, o4⟩ := opb.cells hb1
  have LN := Hid.mk (lent_any q.ao q.mm q.cp q.l w1 (hq.rd.keep (h.sep.old.trans k1)) hq.len (by omega))
  have H := Hid.mk (And.intro h (And.intro hq (And.intro hb1 (And.intro hp hr))))
  clear h hq hb1 hp hr
  unfold opv
  rw [kd] at ew1 ⊢
  go_enter Try.func10, Try.ntmps10
  go_wp2_with (fail)
  with_reducible refine LN.out.mono ?_
  rintro e w2 ⟨g, f, rfl, hg, R2, f1, f2, k2⟩
  have hs1 : w.heap.size < w1.heap.size := (Array.getElem?_eq_some_iff.1 H.out.2.2.1).1
  have s2 : StA W w2 (a.tmp w.heap.size q g f (q.mm + 5)) k (z + q.mm) := ⟨Sta.tmp_sep H.out.1.sep (k1.trans k2) (Nat.le_refl _) (by omega) (by omega) (k2.heap H.out.2.2.1 (by simp)) R2, (H.out.1.ok.more (Nat.le_refl _) (by omega) (by omega) hz).of_tmp⟩
  have FF := Hid.mk (And.intro f1 f2)
  obtain ⟨ob, rg⟩ := s2.tmp_at rfl rfl
  obtain ⟨d0, d1, d2, d4⟩ := ob.cells
  have d3 := ob.cell3
  clear LN o0 o1 o2 o4 f1 f2 R2 k2 hg hs1
  obtain ⟨b, eb⟩ : ∃ b, b = (a.tmp w.heap.size q g f (q.mm + 5)) := ⟨_, rfl⟩
  rw [← eb] at s2
  have bX : b.X = a.X := by rw [eb]; rfl
  have EB := Hid.mk eb
  clear eb
  have hc : b.mu i < b.C := s2.ok.mu i hi
  obtain ⟨c, ec⟩ : ∃ c, b.mu i = c := ⟨_, rfl⟩
  rw [ec] at hc
  have HM : Med w2 (b.P c) (b.V c) (b.L c) (b.s c) 0 := s2.sep.P (0, c) hc
  obtain ⟨x0, x1⟩ := s2.cells hi
  rw [bX, ec] at x0 x1
  have C1 := Hid.mk (revive_any w2 _ _ _ _ HM)
  have S2 := Hid.mk (And.intro s2 hc)
  rw [kd] at d0
  clear ob rg s2 HM
  go_wp2_with (fail)
  with_reducible refine C1.out.mono ?_
  rintro e w5 ⟨rfl, m5, k5⟩
  have p5 : SepI W w5 (b.setP c (b.V c) (b.L c) ⟨(b.s c).b, (b.s c).g, false, 0, 0⟩).Dm (b.setP c (b.V c) (b.L c) ⟨(b.s c).b, (b.s c).g, false, 0, 0⟩).R := StA.stepP S2.out.1.sep hc k5 (fun x hx => .inl (inP _ (b.V c) (b.L c) x hx)) m5 (fun x hx => .inl hx) (fun x hx => by first | exact .inl hx | exact absurd hx (by simp [Value.ownBlock]))
  have HD : Rmd w5 (b.D c) (b.U c) (b.M c) (b.t c) := p5.P (1, c) hc
  obtain ⟨-, y1, -, -⟩ := pair_cells p5 hi
  have y1 : w5.cell? ⟨b.X i, 1, none⟩ = some (.pointer (some ⟨b.D (b.mu i), 0, none⟩)) := y1
  rw [bX, ec] at y1
  have C2 := Hid.mk (rrevive_any w5 _ _ _ _ HD)
  have P5 := Hid.mk p5
  clear C1 x0 x1 m5 k5 p5 HD d0 d1 d2 d3 d4
  go_wp2_with (fail)
  with_reducible refine C2.out.mono ?_
  rintro e wS ⟨rfl, m6, k6⟩
  have p6 := StA.stepD P5.out (c := c) hc k6 (fun x hx => .inl (inP _ (b.U c) (b.M c) x hx)) m6 (fun x hx => .inl hx) (fun x hx => by first | exact .inl hx | exact absurd hx (by simp [Value.ownBlock]))
  have o6 : ((b.setP c (b.V c) (b.L c) ⟨(b.s c).b, (b.s c).g, false, 0, 0⟩).setD c (b.U c) (b.M c) ⟨(b.t c).b, (b.t c).g, false, 0, (b.t c).keep⟩).Ok (k + 1) (z + q.mm) := Sta.Ok.both S2.out.1.ok c (S2.out.1.ok.alk c hc).revive ⟨(S2.out.1.ok.mok c hc).n, (S2.out.1.ok.mok c hc).by_, by simp, by simp, by simp, by simp⟩ ⟨(S2.out.1.ok.mokt c hc).n, (S2.out.1.ok.mokt c hc).by_, by simp, by simp, (S2.out.1.ok.mokt c hc).k0, (S2.out.1.ok.mokt c hc).k1⟩ (S2.out.1.ok.len c hc) (by have := S2.out.1.ok.log c hc; show (b.s c).g.length ≤ k + 1; omega) (by omega) hk
  obtain ⟨aS, eS⟩ : ∃ aS, aS = (b.setP c (b.V c) (b.L c) ⟨(b.s c).b, (b.s c).g, false, 0, 0⟩).setD c (b.U c) (b.M c) ⟨(b.t c).b, (b.t c).g, false, 0, (b.t c).keep⟩ := ⟨_, rfl⟩
  have sS : StA W wS aS (k + 1) (z + q.mm) := by rw [eS]; exact ⟨p6, o6⟩
  have hX : aS.X = a.X := by rw [eS, EB.out]; rfl
  have hA : aS.b.A = a.b.A := by rw [eS, EB.out]; rfl
  have hn : aS.ne = 2 := by rw [eS, EB.out]; rfl
  have he : aS.e = (a.tmp w.heap.size q g f (q.mm + 5)).e := by rw [eS, EB.out]; rfl
  clear C2 P5 S2 p6 o6 eS EB y1 m6 k6 bX
  obtain ⟨ob, rg⟩ := sS.tmp_at hn he
  obtain ⟨-, -, -, d4⟩ := ob.cells
  have SP := Hid.mk (spent_any g q.ao q.mm q.cp q.l f wS rg FF.out.1 FF.out.2 (H.out.2.1.rd.keep sS.sep.old) (fun bg boff e0 e1 e2 => by
    rcases reads_old H.out.2.1.rd with e3 | e3
    · have := H.out.2.1.len; rw [e3] at this; simp at this; omega
    · have := e3 bg boff e0; have := sS.tmp_new hn he; omega) H.out.2.1.len (by omega))
  have SS := Hid.mk sS
  clear ob rg sS
  go_wp2_with (fail)
  with_reducible refine SP.out.mono ?_
  rintro e w3 ⟨rfl, k3⟩
  have s3 := SS.out.spent hn he k3
  have OW := Hid.mk (own_st s3)
  rw [show aS.bare.b.A = a.b.A from hA] at OW
  clear SP SS s3 k3 d4
  go_wp2_with (fail)
  with_reducible refine OW.out.mono ?_
  rintro e w4 ⟨rfl, a4, sm, -, -, p4, r4, s4⟩
  have sX : a4.X = a.X := sm.X.trans hX
  have sA : a4.b.A = a.b.A := sm.A.trans hA
  have sN : a4.ne = 0 := sm.ne
  obtain ⟨tn, td, TL⟩ := both_tell W a4 (k + 1) (z + q.mm) i hi
  obtain ⟨c0, c1⟩ := s4.cells hi
  rw [sX] at c0 c1
  obtain ⟨mP, emP⟩ : ∃ mP, a4.P (a4.mu i) = mP := ⟨_, rfl⟩
  obtain ⟨mD, emD⟩ : ∃ mD, a4.D (a4.mu i) = mD := ⟨_, rfl⟩
  have CE : Hid (∀ u, StA W u a4 (k + 1) (z + q.mm) → u.cell? ⟨a.X i, 0, none⟩ = some (.pointer (some ⟨mP, 0, none⟩)) ∧ u.cell? ⟨a.X i, 1, none⟩ = some (.pointer (some ⟨mD, 0, none⟩))) := Hid.mk (fun u hu => by
    obtain ⟨x0, x1⟩ := hu.cells hi
    rw [sX, emP] at x0
    rw [sX, emD] at x1
    exact ⟨x0, x1⟩)
  rw [emP] at c0
  rw [emD] at c1
  simp only [emP, emD] at TL
  have TT := Hid.mk TL
  have FN := Hid.mk (And.intro sX (And.intro sA (And.intro p4 (And.intro r4 sN))))
  have S4 := Hid.mk (s4.kept ((Kept.refl [] w4).drew))
  clear OW sm p4 r4 sN sX sA s4 TL emP emD H FF hX hA hn he
  go_wp2_with (fail)
  go_region_held_law (fun u => u.cell? ⟨a.X i, 0, none⟩ = some (.pointer (some ⟨mP, 0, none⟩)) ∧ u.cell? ⟨a.X i, 1, none⟩ = some (.pointer (some ⟨mD, 0, none⟩))) (first | exact ⟨c0, c1⟩ | exact y5 | exact y6 | exact y7 | exact y8 | go_keep) (first | (go_at_call 16; with_reducible refine (TT.out _ S4.out).1.mono ?_; rintro e w5 ⟨rfl, s5⟩; have y5 := CE.out _ s5; have S5 := Hid.mk s5; clear s5) | (go_at_call 38; with_reducible refine (TT.out _ S5.out).2.1.mono ?_; rintro e w6 ⟨rfl, s6⟩; have y6 := CE.out _ s6; have S6 := Hid.mk s6; clear s6) | (go_at_call 17; with_reducible refine (TT.out _ S6.out).2.2.1.mono ?_; rintro e w7 ⟨rfl, s7⟩; have y7 := CE.out _ s7; have S7 := Hid.mk s7; clear s7) | (go_at_call 39; with_reducible refine (TT.out _ S7.out).2.2.2.mono ?_; rintro e w8 ⟨rfl, s8⟩; have y8 := CE.out _ s8; have S8 := Hid.mk s8; clear s8))
  all_goals focus
    clear TT CE c0 c1 S4
    go_wp2_with (fail)
    go_ret
    exact ⟨by simp, a4, FN.out.1, FN.out.2.1, FN.out.2.2.1, FN.out.2.2.2.1, FN.out.2.2.2.2, S8.out⟩
end Go.Proofs.Ytiojcfffhcipnaa
