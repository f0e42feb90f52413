import Derived.Test.YtiojcfffhcipnaaEg
import Derived.Handy
namespace Go.Proofs.Ytiojcfffhcipnaa
open Go.RowKit

theorem reads_old {w : World} {so : Option Addr} {l : List Nat} (hr : Reads w so l) : l = [] ∨ ∀ g off, so = some ⟨g, off, none⟩ → g < w.heap.size := by
  rcases hr with h | ⟨g, off, h, hc⟩
  · exact .inl h
  · by_cases h0 : l = []
    · exact .inl h0
    · refine .inr (fun g' off' e => ?_)
      rw [h] at e
      cases e
      exact World.block_lt_of_cell? w _ (hc 0 (by cases l <;> simp_all))
theorem Sta.Ok.more {a : Sta} {k z k' z' : Nat} (ok : a.Ok k z) (h1 : k ≤ k') (h2 : z ≤ z') (h3 : k' ≤ 2600000000000) (h4 : z' ≤ 268435456) : a.Ok k' z' :=
  ⟨ok.alk, ok.mok, ok.mokt, fun c hc => by have := ok.len c hc; omega, fun d hd => by have := ok.log d hd; omega, ok.mu, ok.pi, fun j hj => by have := ok.pn j hj; omega, ok.bok, ⟨by have := ok.bn.1; omega, by have := ok.bn.2; omega⟩, h4, h3⟩
theorem Sta.Ok.of_tmp {a : Sta} {k z B g T : Nat} {q : Stp} {f : Nat → Nat} (ok : a.Ok k z) : (a.tmp B q g f T).Ok k z := ⟨ok.alk, ok.mok, ok.mokt, ok.len, ok.log, ok.mu, ok.pi, ok.pn, ok.bok, ok.bn, ok.z, ok.k⟩
theorem opb.cell3 {w : World} {B : Nat} {q : Stp} (h : opb w B q) : w.cell? ⟨B, 3, none⟩ = some (.bool q.two) := by
  unfold opb at h
  simp [World.cell?, h]
theorem StA.tmp_at {W w : World} {a b : Sta} {k z B g T : Nat} {q : Stp} {f : Nat → Nat} (h : StA W w b k z) (hn : b.ne = 2) (he : b.e = (a.tmp B q g f T).e) : opb w B q ∧ Rw w g f T := by
  have h0 : (b.e 0).P w := h.sep.P (10, 0) (by show 0 < b.ne; omega)
  have h1 : (b.e 1).P w := h.sep.P (10, 1) (by show 1 < b.ne; omega)
  rw [he] at h0 h1
  exact ⟨h0, h1⟩
theorem StA.tmp_new {W w : World} {a b : Sta} {k z B g T : Nat} {q : Stp} {f : Nat → Nat} (h : StA W w b k z) (hn : b.ne = 2) (he : b.e = (a.tmp B q g f T).e) : W.heap.size ≤ g :=
  h.sep.new (10, 1) (by show 1 < b.ne; omega) g (by show g ∈ (b.e 1).F; rw [he]; show g ∈ [g]; simp)
theorem StA.spent {W w w' : World} {a b : Sta} {k z B g T : Nat} {q : Stp} {f : Nat → Nat} (h : StA W w b k z) (hn : b.ne = 2) (he : b.e = (a.tmp B q g f T).e) (hk : Kept [g] w w') : StA W w' b.bare k z :=
  h.drop hk (fun x hx => ⟨1, by omega, by simp only [List.mem_singleton] at hx; rw [he, hx]; show g ∈ [g]; simp⟩)

/-- What a step leaves. -/
def StepP (W : World) (a : Sta) (k z : Nat) (e : Ending) (w' : World) : Prop := e = .returned (.bool true) ∧ ∃ a', a'.X = a.X ∧ a'.b.A = a.b.A ∧ a'.b.p = 0 ∧ a'.b.r = 0 ∧ a'.ne = 0 ∧ StA W w' a' (k + 1) z

set_option maxHeartbeats 16000000 in
set_option maxRecDepth 1000000 in
theorem step_none (W w : World) (a : Sta) (k z i : Nat) (q : Stp) (h : StA W w a k z) (hi : i < 2) (hk : k + 1 ≤ 2600000000000) (hp : a.b.p = 0) (hr : a.b.r = 0) (hq : Stp.Ok W q) (hz : z + q.mm ≤ 268435456) (kd : ¬ (q.kd = 1) ∧ ¬ (q.kd = 2) ∧ ¬ (q.kd = 3) ∧ ¬ (q.kd = 4) ∧ ¬ (q.kd = 5) ∧ ¬ (q.kd = 6) ∧ ¬ (q.kd = 7) ∧ ¬ (q.kd = 8) ∧ ¬ (q.kd = 9) ∧ ¬ (q.kd = 10) ∧ ¬ (q.kd = 11) ∧ ¬ (q.kd = 12)) :
    Calls Try.prog 10 #[.pointer (some ⟨a.X i, 0, none⟩), .pointer (some ⟨a.b.A, 0, none⟩), opv q] w (StepP W a k (z + q.mm)) := by
  obtain ⟨w1, ew1, k1, hb1⟩ := alloc_new w (.cells #[.int .i64 q.kd, .int .i64 q.n, .int .i64 q.m, .bool q.two, .slice q.ao q.mm q.cp] 43 (0, 0))
  obtain ⟨o0, o1, o2, o4⟩ := opb.cells hb1
  have LN := Hid.mk (lent_any q.ao q.mm q.cp q.l w1 (hq.rd.keep (h.sep.old.trans k1)) hq.len (by omega))
  have H := Hid.mk (And.intro h (And.intro hq (And.intro hb1 (And.intro hp hr))))
  clear h hq hb1 hp hr
  unfold opv
  obtain ⟨n1, n2, n3, n4, n5, n6, n7, n8, n9, n10, n11, n12⟩ := kd
  go_enter Try.func10, Try.ntmps10
  go_wp2_with (fail)
  with_reducible refine LN.out.mono ?_
  rintro e w2 ⟨g, f, rfl, hg, R2, f1, f2, k2⟩
  have hs1 : w.heap.size < w1.heap.size := (Array.getElem?_eq_some_iff.1 H.out.2.2.1).1
  have s2 : StA W w2 (a.tmp w.heap.size q g f (q.mm + 5)) k (z + q.mm) := ⟨Sta.tmp_sep H.out.1.sep (k1.trans k2) (Nat.le_refl _) (by omega) (by omega) (k2.heap H.out.2.2.1 (by simp)) R2, (H.out.1.ok.more (Nat.le_refl _) (by omega) (by omega) hz).of_tmp⟩
  have FF := Hid.mk (And.intro f1 f2)
  obtain ⟨ob, rg⟩ := s2.tmp_at rfl rfl
  obtain ⟨d0, d1, d2, d4⟩ := ob.cells
  have d3 := ob.cell3
  clear LN o0 o1 o2 o4 f1 f2 R2 k2 hg hs1
  obtain ⟨wS, aS, eW, sS, hX, hA, hn, he⟩ : ∃ wS aS, wS = w2 ∧ StA W wS aS (k + 1) (z + q.mm) ∧ aS.X = a.X ∧ aS.b.A = a.b.A ∧ aS.ne = 2 ∧ aS.e = (a.tmp w.heap.size q g f (q.mm + 5)).e := ⟨w2, _, rfl, ⟨s2.sep, s2.ok.more (by omega) (Nat.le_refl _) hk hz⟩, rfl, rfl, rfl, rfl⟩
  subst eW
  clear ob rg d1 d2 d3 d4 s2
  obtain ⟨ob, rg⟩ := sS.tmp_at hn he
  obtain ⟨-, -, -, d4⟩ := ob.cells
  have SP := Hid.mk (spent_any g q.ao q.mm q.cp q.l f wS rg FF.out.1 FF.out.2 (H.out.2.1.rd.keep sS.sep.old) (fun bg boff e0 e1 e2 => by
    rcases reads_old H.out.2.1.rd with e3 | e3
    · have := H.out.2.1.len; rw [e3] at this; simp at this; omega
    · have := e3 bg boff e0; have := sS.tmp_new hn he; omega) H.out.2.1.len (by omega))
  have SS := Hid.mk sS
  clear ob rg sS
  go_wp2_with (fail)
  with_reducible refine SP.out.mono ?_
  rintro e w3 ⟨rfl, k3⟩
  have s3 := SS.out.spent hn he k3
  have OW := Hid.mk (own_st s3)
  rw [show aS.bare.b.A = a.b.A from hA] at OW
  clear SP SS s3 k3 d4
  go_wp2_with (fail)
  with_reducible refine OW.out.mono ?_
  rintro e w4 ⟨rfl, a4, sm, -, -, p4, r4, s4⟩
  have sX : a4.X = a.X := sm.X.trans hX
  have sA : a4.b.A = a.b.A := sm.A.trans hA
  have sN : a4.ne = 0 := sm.ne
  obtain ⟨tn, td, TL⟩ := both_tell W a4 (k + 1) (z + q.mm) i hi
  obtain ⟨c0, c1⟩ := s4.cells hi
  rw [sX] at c0 c1
  obtain ⟨mP, emP⟩ : ∃ mP, a4.P (a4.mu i) = mP := ⟨_, rfl⟩
  obtain ⟨mD, emD⟩ : ∃ mD, a4.D (a4.mu i) = mD := ⟨_, rfl⟩
  have CE : Hid (∀ u, StA W u a4 (k + 1) (z + q.mm) → u.cell? ⟨a.X i, 0, none⟩ = some (.pointer (some ⟨mP, 0, none⟩)) ∧ u.cell? ⟨a.X i, 1, none⟩ = some (.pointer (some ⟨mD, 0, none⟩))) := Hid.mk (fun u hu => by
    obtain ⟨x0, x1⟩ := hu.cells hi
    rw [sX, emP] at x0
    rw [sX, emD] at x1
    exact ⟨x0, x1⟩)
  rw [emP] at c0
  rw [emD] at c1
  simp only [emP, emD] at TL
  have TT := Hid.mk TL
  have FN := Hid.mk (And.intro sX (And.intro sA (And.intro p4 (And.intro r4 sN))))
  have S4 := Hid.mk (s4.kept ((Kept.refl [] w4).drew))
  clear OW sm p4 r4 sN sX sA s4 TL emP emD H FF hX hA hn he
  go_wp2_with (fail)
  go_region_held_law (fun u => u.cell? ⟨a.X i, 0, none⟩ = some (.pointer (some ⟨mP, 0, none⟩)) ∧ u.cell? ⟨a.X i, 1, none⟩ = some (.pointer (some ⟨mD, 0, none⟩))) (first | exact ⟨c0, c1⟩ | exact y5 | exact y6 | exact y7 | exact y8 | go_keep) (first | (go_at_call 16; with_reducible refine (TT.out _ S4.out).1.mono ?_; rintro e w5 ⟨rfl, s5⟩; have y5 := CE.out _ s5; have S5 := Hid.mk s5; clear s5) | (go_at_call 38; with_reducible refine (TT.out _ S5.out).2.1.mono ?_; rintro e w6 ⟨rfl, s6⟩; have y6 := CE.out _ s6; have S6 := Hid.mk s6; clear s6) | (go_at_call 17; with_reducible refine (TT.out _ S6.out).2.2.1.mono ?_; rintro e w7 ⟨rfl, s7⟩; have y7 := CE.out _ s7; have S7 := Hid.mk s7; clear s7) | (go_at_call 39; with_reducible refine (TT.out _ S7.out).2.2.2.mono ?_; rintro e w8 ⟨rfl, s8⟩; have y8 := CE.out _ s8; have S8 := Hid.mk s8; clear s8))
  all_goals focus
    clear TT CE c0 c1 S4
    go_wp2_with (fail)
    go_ret
    exact ⟨by simp, a4, FN.out.1, FN.out.2.1, FN.out.2.2.1, FN.out.2.2.2.1, FN.out.2.2.2.2, S8.out⟩
end Go.Proofs.Ytiojcfffhcipnaa
