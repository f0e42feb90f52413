import Derived.Test.YthihennifigchaaKj
import Derived.Deep.RegionHeldLaw
namespace Go.Proofs.Ythihennifigchaa.Bk
open Go.RowKit
theorem Ex.own {w : World} {v : Value} {n : Nat} {mk : Int} (h : Ex w v n mk v.ownBlock.toList) (hn : 0 < n) : w.ownsRow 0 65 1 v n (List.replicate n (.int .u16 mk)) := by
  rcases h with ⟨h0, ao, rfl, h2, _⟩ | ⟨_, h⟩
  · cases ao with
    | none => have := h2 rfl; omega
    | some a => simp [Value.ownBlock] at h0
  · exact h
theorem wpList_eq {ops : Array Oper} {rest : List Oper} {o : Oper} {a : Act} {w : World} {Q : Exit → Act → World → Prop} (hg : o.guard = none) (s x : Operand) (t : Nat)
    (hop : o.op = Op.call { callee := Callee.builtin Builtin.append, args := #[s, x], argTypes := #[t, t] }) (v1 v2 v' : Value) (w' : World) (hs : a.eval s = v1) (hx : a.eval x = v2)
    (hr : Sem.run Try.prog (Builtin.append_ #[t, t] o.type #[v1, v2]) w = .ok v' w') (hK : wpList Try.prog ops Q rest (a.put o.dst v') w') : wpList Try.prog ops Q (o :: rest) a w := by
  refine wpList_plain hg fun K hK' => ?_
  unfold Oper.wp
  simp [execOp, hop, resolve, invoke, builtin, hs, hx, hr, Result.andThen]
  exact hK' _ _ hK
set_option maxHeartbeats 16000000 in
set_option maxRecDepth 100000 in
theorem own_any (W w : World) (A : Nat) (s : Bo) (h : BAt W w A s) (hR : Rk s) (hh : s.h ≤ 500000) :
    Calls Try.prog 20 #[.pointer (some ⟨A, 0, none⟩)] w fun e w' => e = .returned (.bool true) ∧ ∃ s', BAt W w' A s' ∧ Dn s s' := by
  have HH := Hid.mk h
  have HR := Hid.mk hR
  obtain ⟨⟨c0, -, -⟩, -⟩ := h.cells
  obtain ⟨aoS, cpS, eS⟩ := row_form h.held
  rw [eS] at c0
  have hn8 := hR.n8
  clear h hR eS
  go_enter Try.func20, Try.ntmps20
  go_wp2
  clear c0
  go_loopw [4] (fun i wr => ∃ k : Nat, k ≤ s.n ∧ i = .int .i64 (k : Int) ∧ ∃ s1, BAt W wr A s1 ∧ Fz s s1 k 0) (fun i _ => s.n - (intOf i).toNat)
  case atStart => exact ⟨0, by omega, rfl, s, HH.out, Fz.start HR.out⟩
  case round =>
    obtain ⟨i, hi, rfl, s1, hB, hF⟩ := hrel
    obtain ⟨wo, ewo⟩ : ∃ wo, wo = wr := ⟨_, rfl⟩
    subst ewo
    have H1 := Hid.mk hB
    have F1 := Hid.mk hF
    obtain ⟨⟨-, -, c2⟩, -⟩ := hB.cells
    obtain ⟨aoO, cpO, eO⟩ := row_form hB.out
    rw [eO, hF.r, HR.out.r] at c2
    clear hB hF eO
    by_cases hlt : i < s.n
    · have ix : (i : Int) < (s.n : Int) := by omega
      go_wp2
      clear c2
      go_loopw [5] (fun t wr => ∃ k : Nat, k ≤ s.kn i ∧ t = .int .i64 (k : Int) ∧ ∃ s1, BAt W wr A s1 ∧ Fz s s1 i k) (fun t _ => s.kn i - (intOf t).toNat)
      case atStart => exact ⟨0, by omega, rfl, s1, H1.out, F1.out⟩
      case round =>
        obtain ⟨k, hk, rfl, s2, hB, hF⟩ := hrel
        obtain ⟨wp, ewp⟩ : ∃ wp, wp = wr := ⟨_, rfl⟩
        subst ewp
        have H2 := Hid.mk hB
        have F2 := Hid.mk hF
        have hk8 := HR.out.k8 i
        have hF1 := hF.hhi
        obtain ⟨⟨c0, -, c2⟩, -⟩ := hB.cells
        obtain ⟨aoS, cpS, eS⟩ := row_form hB.held
        obtain ⟨aoO, cpO, eO⟩ := row_form hB.out
        obtain ⟨gO, cpO', eO', y0, -⟩ := own_cell hB.out i (by rw [hF.r, HR.out.r]; exact hlt)
        obtain ⟨rfl, rfl⟩ : aoO = some ⟨gO, 0, none⟩ ∧ cpO = cpO' := by have := eO.symm.trans eO'; simp at this; exact this
        obtain ⟨aoR, cpR, eR⟩ := row_form (hB.row i (by rw [hF.n]; exact hlt))
        rw [hF.OV, HR.out.ov i hlt, ← hF.RV, eR, hF.rl, HR.out.rl i hlt] at y0
        rw [eS] at c0
        rw [eO, hF.r, HR.out.r] at c2
        have HS := Hid.mk eS
        have HO := Hid.mk eO
        have HRw := Hid.mk eR
        clear hB hF eS eO eO' eR
        by_cases hkl : k < s.kn i
        · have ixk : (k : Int) < (s.kn i : Int) := by omega
          obtain ⟨gR, cpR', eR', y1, -⟩ := own_cell (H2.out.row i (by rw [F2.out.n]; exact hlt)) k (by rw [F2.out.rl, HR.out.rl i hlt]; exact hkl)
          obtain ⟨rfl, rfl⟩ : aoR = some ⟨gR, 0, none⟩ ∧ cpR = cpR' := by have := HRw.out.symm.trans eR'; simp at this; exact this
          obtain ⟨ao, m, f, q1, q2, q3⟩ := F2.out.ls i k hlt hkl
          rw [F2.out.LV, q1] at y1
          have HQ1 := Hid.mk q1
          have HQ2 := Hid.mk q2
          clear eR' q1 q2
          go_wp2
          generalize (5000 + (s2.h : Int) % 50000) = mk
          clear c0 c2 y0 y1
          go_loopw [7] (fun t wr => ∃ j : Nat, j ≤ m ∧ t = .int .i64 (j : Int) ∧ ∃ f, (∀ x, x < j → f x = mk) ∧ BAt W wr A (s2.one i k (zlf .u16 65 ao m f))) (fun t _ => m - (intOf t).toNat)
          case atStart => exact ⟨0, by omega, rfl, f, fun x hx => by omega, by rw [s2.one_self i k _ HQ2.out]; exact H2.out⟩
          case round =>
            obtain ⟨j, hj, rfl, f3, hf3, hB⟩ := hrel
            obtain ⟨wq, ewq⟩ : ∃ wq, wq = wr := ⟨_, rfl⟩
            subst ewq
            have H3 := Hid.mk hB
            have Hf3 := Hid.mk hf3
            have hi2 : i < s2.n := by rw [F2.out.n]; exact hlt
            have hk2 : k < s2.kn i := by rw [F2.out.kn]; exact hkl
            have hr2 : i < s2.r := by rw [F2.out.r, HR.out.r]; exact hlt
            have hrl2 : k < s2.rl i := by rw [F2.out.rl, HR.out.rl i hlt]; exact hkl
            obtain ⟨⟨c0, -, c2⟩, fz⟩ := hB.cells
            change wq.cell? _ = some s2.SL at c0
            change wq.cell? _ = some s2.SO at c2
            have f0 := fz 0
            have hO := hB.out
            change wq.ownsRow 0 36 1 s2.SO s2.r (vals s2.OV s2.r) at hO
            have hRr := hB.row i hi2
            change wq.ownsRow 0 52 1 (s2.RV i) (s2.rl i) (vals (s2.LV i) (s2.rl i)) at hRr
            obtain ⟨gO', cpO', eO', y0, -⟩ := own_cell hO i hr2
            obtain ⟨rfl, rfl⟩ : gO = gO' ∧ cpO = cpO' := by have := HO.out.symm.trans eO'; simp at this; exact this
            obtain ⟨gR', cpR', eR', y1, -⟩ := own_cell hRr k hrl2
            obtain ⟨rfl, rfl⟩ : gR = gR' ∧ cpR = cpR' := by have := HRw.out.symm.trans eR'; simp at this; exact this
            rw [F2.out.OV, HR.out.ov i hlt, ← F2.out.RV, HRw.out, F2.out.rl, HR.out.rl i hlt] at y0
            rw [F2.out.LV, HQ1.out] at y1
            rw [HS.out] at c0
            rw [HO.out, F2.out.r, HR.out.r] at c2
            have hL := hB.list i k hi2 hk2
            rw [show (s2.one i k (zlf .u16 65 ao m f3)).LX i k = zlf .u16 65 ao m f3 from upd2_at _ _ _ _] at hL
            have HL := Hid.mk hL
            clear hB hf3 fz hO hRr eO' eR' hL
            by_cases hjm : j < m
            · have ixj : (j : Int) < (m : Int) := by omega
              obtain ⟨G, hG, z1, cz, z2⟩ := zlf_cells HL.out j hjm
              subst hG
              go_wp2
              refine ⟨⟨j + 1, by omega, by go_num, fun t => if t = j then mk else f3 t, fun x hx => ?_, ?_⟩, by simp [intOf]; omega⟩
              · by_cases e : x = j
                · show (if x = j then mk else f3 x) = mk; rw [if_pos e]
                · show (if x = j then mk else f3 x) = mk; rw [if_neg e]; exact Hf3.out x (by omega)
              · rw [← s2.one_one i k (zlf .u16 65 (some ⟨G, 0, none⟩) m f3)]
                have e1 : (s2.one i k (zlf .u16 65 (some ⟨G, 0, none⟩) m f3)).LX i k = zlf .u16 65 (some ⟨G, 0, none⟩) m f3 := upd2_at _ _ _ _
                exact H3.out.one (ks := [G]) i k hi2 hk2 _ ((Kept.refl _ _).setCell (p := ⟨G, j, none⟩) (.inl (by simp)) _) (by rw [e1]; exact fun x hx => .inl (by simpa [zlf, ablk] using hx)) (zlf_set HL.out rfl hjm) (by rw [e1]; exact fun x hx => .inl hx)
            · have ehj : j = m := by omega
              subst ehj
              obtain ⟨wd, hwd⟩ : ∃ wd, wd = wq.drew := ⟨_, rfl⟩
              have hkd : Kept [] wq wd := by rw [hwd]; exact (Kept.refl [] wq).drew
              have H4 := Hid.mk (H3.out.keep hkd)
              obtain ⟨aoN, cpN, w7, hrun, ho7, hk7, hl7⟩ := held_app wd s2.SL s2.h (hfl s2.HV s2.HM s2.h) (.slice ao j j) mk rfl H4.out.held (by omega)
              rw [HS.out] at hrun
              have HO7 := Hid.mk ho7
              have HK7 := Hid.mk hk7
              have HL7 := Hid.mk hl7
              have b7 := H4.out.boxKept hk7
              have g7 : w7.frozen? ⟨A, 0, none⟩ = false := by simp [World.frozen?, b7]
              have g8 : ∃ c, w7.cell? ⟨A, 0, none⟩ = some c := ⟨s2.SL, by simp [World.cell?, b7]; rfl⟩
              obtain ⟨cg, g8⟩ := g8
              subst hwd
              obtain ⟨w3, hw3⟩ : ∃ w3, wq.drew.alloc (.cells #[.slice ao j j, .int .u16 mk] 79) = w3 := ⟨_, rfl⟩
              have hk3 : Kept [] wq w3 := by rw [← hw3]; exact ((Kept.refl [] wq).drew).alloc _
              rw [hw3] at hrun
              have e3 := cell_keep hk3 c0 (by simp)
              clear ho7 hk7 hl7 hkd b7 hk3
              have FN : Hid (∃ s3, BAt W (w7.setCell ⟨A, 0, none⟩ (.slice aoN (s2.h + 1) cpN)) A s3 ∧ Fz s s3 i (k + 1)) := Hid.mk (by
                refine ⟨_, H4.out.hold (fun t ht => ?_) (.slice ao j j) mk _ HK7.out HL7.out HO7.out, (F2.out.one HQ1.out q3).hold hlt hkl HQ1.out q3 ((upd2_at _ _ _ _).trans (zlf_const Hf3.out)) _⟩
                have h1 : s.J t := by rw [← F2.out.J]; exact ht
                have h2 := (HR.out.J t).1 h1
                have h3 := F2.out.hlo
                show t < s2.h
                omega)
              clear H4 HK7 HL7 HO7
              go_upto_region 13 with (fail)
              go_region_law (refine step_app rfl (.tmp 82) (.tmp 95) 32 rfl _ _ _ _ rfl rfl hrun ?_)
              all_goals
                go_wp2
                obtain ⟨s3, b3, z3⟩ := FN.out
                exact ⟨⟨k + 1, by omega, by go_num, s3, b3, z3⟩, by simp [intOf]; omega⟩
        · go_wp2
          exact ⟨⟨i + 1, by omega, by go_num, s2, H2.out, F2.out.next (by omega) (by omega)⟩, by simp [intOf]; omega⟩
    · clear c2
      obtain rfl : i = s.n := by omega
      obtain ⟨⟨c0, -, -⟩, -⟩ := H1.out.cells
      obtain ⟨aoS1, cpS1, eS1⟩ := row_form H1.out.held
      rw [eS1] at c0
      obtain ⟨⟨-, -, c2⟩, -⟩ := H1.out.cells
      obtain ⟨aoO1, cpO1, eO1⟩ := row_form H1.out.out
      rw [eO1, F1.out.r, HR.out.r] at c2
      have hlo := F1.out.hlo
      have hhi := F1.out.hhi
      clear eS1 eO1
      go_wp2
      clear c0 c2
      go_loopw [9] (fun t wr => ∃ k : Nat, s.h ≤ k ∧ k ≤ s1.h ∧ t = .int .i64 (k : Int) ∧ ∃ s2, BAt W wr A s2 ∧ Gz s s1 s2 k) (fun t _ => s1.h - (intOf t).toNat)
      case atStart => exact ⟨s.h, Nat.le_refl _, hlo, rfl, s1, H1.out, Gz.start HR.out F1.out⟩
      case round =>
        obtain ⟨t, ht0, ht1, rfl, s2, hB, hG⟩ := hrel
        obtain ⟨wp, ewp⟩ : ∃ wp, wp = wr := ⟨_, rfl⟩
        subst ewp
        have H2 := Hid.mk hB
        have G2 := Hid.mk hG
        have hh2a : s2.h ≤ s1.h + (t - s.h) := Nat.le_of_eq hG.h
        have hh2b : s1.h + (t - s.h) ≤ s2.h := Nat.le_of_eq hG.h.symm
        clear hB hG
        by_cases hlt2 : t < s1.h
        · obtain ⟨i', k', q1, q2, -, ao, m, q4, q5, q6, q7⟩ := F1.out.fresh t ht0 hlt2
          obtain ⟨mk, hmk⟩ : ∃ mk, mk = s1.HM t := ⟨_, rfl⟩
          rw [← hmk] at q7
          have HM2 : Hid (s2.HM t = mk) := Hid.mk (by rw [G2.out.HM t hlt2, hmk])
          have HV2 : Hid (s2.HV t = .slice ao m m) := Hid.mk (by rw [G2.out.HV t (Nat.le_refl _) hlt2, q5])
          have HE : Hid (Ex wp (.slice ao m m) m mk []) := Hid.mk (by
            have hL := H2.out.list i' k' (by rw [G2.out.n, F1.out.n]; exact q1) (by rw [G2.out.kn, F1.out.kn]; exact q2)
            rw [G2.out.LX, q7] at hL
            refine .inl ⟨rfl, ao, rfl, fun e => ?_, ?_⟩
            · rcases hL with ⟨_, h⟩ | ⟨G, e2, _⟩
              · exact h
              · rw [e] at e2; cases e2
            · rcases hL with ⟨_, h⟩ | ⟨G, e2, hT⟩
              · exact .inl h
              · exact .inr ⟨G, 0, e2, fun x hx => by rw [cell_of_row _ _ _ _ _ _ hT, Nat.zero_add]; simp [ints, hx]⟩)
          have HJ2 : Hid (¬ s2.J t) := Hid.mk (by rw [G2.out.J]; omega)
          clear q1 q2 q4 q5 q7 hmk
          go_wp2
          go_loopw [10] (fun c wr => ∃ x : Nat, x ≤ 20 ∧ c = .int .i64 (x : Int) ∧ ∃ v bl, Ex wr v (m + x) mk bl ∧ BAt W wr A (s2.seth t v) ∧ (0 < x → bl = v.ownBlock.toList) ∧ ∀ y ∈ bl, W.heap.size ≤ y ∧ y < wr.heap.size ∧ ∀ j, s2.D j → y ∉ (s2.R A j).F) (fun c _ => 20 - (intOf c).toNat)
          case atStart => exact ⟨0, by omega, rfl, .slice ao m m, [], HE.out, by rw [s2.seth_self t _ HV2.out]; exact H2.out, fun h => by omega, fun y hy => by simp at hy⟩
          case round =>
            obtain ⟨x, hx, rfl, v, bl, hE, hB, hx0, hbl⟩ := hrel
            obtain ⟨wq, ewq⟩ : ∃ wq, wq = wr := ⟨_, rfl⟩
            subst ewq
            obtain ⟨aoV, cpV, rfl⟩ := hE.form
            have H3 := Hid.mk hB
            have E3 := Hid.mk hE
            have HBL := Hid.mk hbl
            have hth : t < s2.h := by omega
            obtain ⟨⟨c0, -, -⟩, -⟩ := hB.cells
            obtain ⟨gH, cpH, eH, d0, d1, dz⟩ := held_cell hB.held t hth
            have HS : Hid (s2.SL = .slice (some ⟨gH, 0, none⟩) s2.h cpH) := Hid.mk eH
            change wq.cell? _ = some s2.SL at c0
            rw [HS.out] at c0
            have d0' : wq.cell? ⟨gH, t * 2, none⟩ = some (.slice aoV (m + x) cpV) := by
              rw [d0]; show some (if t = t then _ else _) = _; rw [if_pos rfl]
            have d1' : wq.cell? ⟨gH, t * 2 + 1, none⟩ = some (.int .u16 mk) := by
              rw [d1]; show some (Value.int .u16 (s2.HM t)) = _; rw [HM2.out]
            have ixt : (t : Int) < (s2.h : Int) := by omega
            clear hE hB hbl eH d0 d1
            by_cases hx20 : x < 20
            · have H4 := Hid.mk (H3.out.keep ((Kept.refl [] wq).drew))
              obtain ⟨aoN, cpN, w7, hrun, -, ho7, hk7, hn7⟩ := ex_app wq.drew _ _ mk bl (E3.out.keep ((Kept.refl [] wq).drew)) (by omega)
              have hk3 : Kept [] wq (wq.drew.alloc (.cells #[.int .u16 mk] 65)) := ((Kept.refl [] wq).drew).alloc _
              have e0 := cell_keep hk3 c0 (by simp)
              have e2 := cell_keep hk3 d1' (by simp)
              have a1 : (wq.alloc (.cells #[.int .u16 mk] 65)).cell? ⟨gH, t * 2, none⟩ = some (.slice aoV (m + x) cpV) := cell_keep ((Kept.refl [] wq).alloc _) d0' (by simp)
              have FN : Hid (BAt W (w7.setCell ⟨gH, t * 2, none⟩ (.slice aoN (m + x + 1) cpN)) A (s2.seth t (.slice aoN (m + x + 1) cpN)) ∧ _) := Hid.mk (H4.out.more hth HJ2.out hk7 ho7 hn7 (by simpa using HBL.out) gH cpH HS.out)
              have nA : A ∉ bl := fun h => (HBL.out A h).2.2 (1, 0) s2.D1 (by simp [Bo.R, obj])
              have nG : gH ∉ bl := fun h => (HBL.out gH h).2.2 (3, 0) s2.D3 (by show gH ∈ s2.SL.ownBlock.toList; rw [HS.out]; simp [Value.ownBlock])
              have g0 : w7.cell? ⟨A, 0, none⟩ = _ := cell_keep hk7 (show wq.drew.cell? _ = _ from c0) nA
              have g1 : w7.cell? ⟨gH, t * 2, none⟩ = _ := cell_keep hk7 (show wq.drew.cell? _ = _ from d0') nG
              have g2 : w7.frozen? ⟨gH, t * 2, none⟩ = false := by
                have h7 := H4.out.aside hk7 (fun y hy => (HBL.out y hy).1) (fun y hy j hj => by rw [s2.seth_F A t _ j hj]; exact (HBL.out y hy).2.2 j hj)
                obtain ⟨g', c', e', -, -, z'⟩ := held_cell h7.held t hth
                obtain ⟨rfl, rfl⟩ : gH = g' ∧ cpH = c' := by have := HS.out.symm.trans e'; simp at this; exact ⟨this.1, this.2.2⟩
                exact z'
              have g3 : w7.cell? ⟨gH, t * 2 + 1, none⟩ = _ := cell_keep hk7 (show wq.drew.cell? _ = _ from d1') nG
              have nAG : A ≠ gH := fun e => H3.out.apart (1, 0) (3, 0) s2.D1 s2.D3 (by simp) A (by simp [Bo.R, obj]) (by show A ∈ s2.SL.ownBlock.toList; rw [HS.out, e]; simp [Value.ownBlock])
              have ES : Hid ((w7.setCell ⟨gH, t * 2, none⟩ (.slice aoN (m + x + 1) cpN)).cell? ⟨A, 0, none⟩ = some (.slice (some ⟨gH, 0, none⟩) s2.h cpH) ∧ (w7.setCell ⟨gH, t * 2, none⟩ (.slice aoN (m + x + 1) cpN)).cell? ⟨gH, t * 2 + 1, none⟩ = some (.int .u16 mk)) := Hid.mk ⟨by rw [World.cell?_setCell_other _ _ _ _ (by first | (simp; done) | (intro e; cases e; exact nAG rfl) | (simp; exact fun h => absurd h.symm nAG))]; first | done | exact g0, by rw [World.cell?_setCell_other _ _ _ _ (by simp)]; first | done | exact g3⟩
              have ED : Hid (wq.drew.cell? ⟨A, 0, none⟩ = some (.slice (some ⟨gH, 0, none⟩) s2.h cpH) ∧ wq.drew.cell? ⟨gH, t * 2 + 1, none⟩ = some (.int .u16 mk)) := Hid.mk ⟨c0, d1'⟩
              have EA := Hid.mk (And.intro e0 e2)
              have E1 := Hid.mk (And.intro g0 g3)
              clear ho7 hk7 hn7 hk3 H4 nA nG
              go_wp2_with (fail)
              refine wp_region_held_drew (S := fun u => u.cell? ⟨A, 0, none⟩ = some (.slice (some ⟨gH, 0, none⟩) s2.h cpH) ∧ u.cell? ⟨gH, t * 2 + 1, none⟩ = some (.int .u16 mk)) (by kernel_rfl) ED.out (fun hHeld => ?_)
              refine wpAnyH_take (i := 0) (v := ?_) rfl (by kernel_rfl) (by kernel_rfl) (by kernel_rfl) (fun _ _ _ h => h) (Or.inl ⟨by rfl, ?_⟩) (by assumption) ?_
              rotate_left
              · intro w hSw
                try dsimp only at hSw
                go_simp
                all_goals with_reducible rfl
              simp only [Act.put, List.getElem_toArray, List.getElem_cons_zero, List.setIfInBounds_toArray, List.set_cons_zero, List.set_cons_succ]
              refine wpAnyH_take (i := 1) (v := ?_) rfl (by kernel_rfl) (by kernel_rfl) (by kernel_rfl) (fun _ _ _ h => h) (Or.inl ⟨by rfl, ?_⟩) (by assumption) ?_
              rotate_left
              · intro w hSw
                try dsimp only at hSw
                go_simp
                all_goals with_reducible rfl
              simp only [Act.put, List.getElem_toArray, List.getElem_cons_zero, List.getElem_cons_succ, List.setIfInBounds_toArray, List.set_cons_zero, List.set_cons_succ]
              refine wpAnyH_take (i := 2) (v := ?_) rfl (by kernel_rfl) (by kernel_rfl) (by kernel_rfl) (fun _ _ _ h => h) (Or.inl ⟨by rfl, ?_⟩) (by assumption) ?_
              rotate_left
              · intro w hSw
                try dsimp only at hSw
                go_simp
                all_goals with_reducible rfl
              simp only [Act.put, List.getElem_toArray, List.getElem_cons_zero, List.getElem_cons_succ, List.setIfInBounds_toArray, List.set_cons_zero, List.set_cons_succ]
              refine wpAnyH_take (i := 3) (v := ?_) rfl (by kernel_rfl) (by kernel_rfl) (by kernel_rfl) (fun _ _ _ h => h) (Or.inl ⟨by rfl, ?_⟩) (by assumption) ?_
              rotate_left
              · intro w hSw
                try dsimp only at hSw
                go_simp
                all_goals with_reducible rfl
              simp only [Act.put, List.getElem_toArray, List.getElem_cons_zero, List.getElem_cons_succ, List.setIfInBounds_toArray, List.set_cons_zero, List.set_cons_succ]
              refine wpAnyH_take (i := 4) (v := ?_) rfl (by kernel_rfl) (by kernel_rfl) (by kernel_rfl) (fun _ _ _ h => h) (Or.inl ⟨by rfl, ?_⟩) (by assumption) ?_
              rotate_left
              · intro w hSw
                try dsimp only at hSw
                go_simp
                all_goals with_reducible rfl
              simp only [Act.put, List.getElem_toArray, List.getElem_cons_zero, List.getElem_cons_succ, List.setIfInBounds_toArray, List.set_cons_zero, List.set_cons_succ]
              refine wpAnyH_take (i := 5) (v := ?_) rfl (by kernel_rfl) (by kernel_rfl) (by kernel_rfl) (fun _ _ _ h => h) (Or.inl ⟨by rfl, ?_⟩) (by assumption) ?_
              rotate_left
              · intro w hSw
                try dsimp only at hSw
                go_simp
                all_goals with_reducible rfl
              simp only [Act.put, List.getElem_toArray, List.getElem_cons_zero, List.getElem_cons_succ, List.setIfInBounds_toArray, List.set_cons_zero, List.set_cons_succ]
              refine wpAnyH_take (i := 6) (v := ?_) rfl (by kernel_rfl) (by kernel_rfl) (by kernel_rfl) (fun _ _ _ h => h) (Or.inl ⟨by rfl, ?_⟩) (by assumption) ?_
              rotate_left
              · intro w hSw
                try dsimp only at hSw
                go_simp
                all_goals with_reducible rfl
              simp only [Act.put, List.getElem_toArray, List.getElem_cons_zero, List.getElem_cons_succ, List.setIfInBounds_toArray, List.set_cons_zero, List.set_cons_succ]
              refine wpAnyH_take (i := 7) (v := ?_) rfl (by kernel_rfl) (by kernel_rfl) (by kernel_rfl) (fun _ _ _ h => h) (Or.inl ⟨by rfl, ?_⟩) (by assumption) ?_
              rotate_left
              · intro w hSw
                try dsimp only at hSw
                go_simp
                all_goals with_reducible rfl
              simp only [Act.put, List.getElem_toArray, List.getElem_cons_zero, List.getElem_cons_succ, List.setIfInBounds_toArray, List.set_cons_zero, List.set_cons_succ]
              refine wpAnyH_take (i := 8) (v := ?_) rfl (by kernel_rfl) (by kernel_rfl) (by kernel_rfl) (fun _ _ _ h => h) (Or.inl ⟨by rfl, ?_⟩) (by assumption) ?_
              rotate_left
              · intro w hSw
                try dsimp only at hSw
                go_simp
                all_goals with_reducible rfl
              simp only [Act.put, List.getElem_toArray, List.getElem_cons_zero, List.getElem_cons_succ, List.setIfInBounds_toArray, List.set_cons_zero, List.set_cons_succ]
              refine wpAnyH_take (i := 9) (v := ?_) rfl (by kernel_rfl) (by kernel_rfl) (by kernel_rfl) (fun _ _ _ h => h) (Or.inl ⟨by rfl, ?_⟩) (by assumption) ?_
              rotate_left
              · intro w hSw
                try dsimp only at hSw
                go_simp
                all_goals with_reducible rfl
              simp only [Act.put, List.getElem_toArray, List.getElem_cons_zero, List.getElem_cons_succ, List.setIfInBounds_toArray, List.set_cons_zero, List.set_cons_succ]
              refine wpAnyH_take (i := 10) (v := ?_) rfl (by kernel_rfl) (by kernel_rfl) (by kernel_rfl) (fun _ _ _ h => h) (Or.inl ⟨by rfl, ?_⟩) (by assumption) ?_
              rotate_left
              · intro w hSw
                try dsimp only at hSw
                go_simp
                all_goals with_reducible rfl
              simp only [Act.put, List.getElem_toArray, List.getElem_cons_zero, List.getElem_cons_succ, List.setIfInBounds_toArray, List.set_cons_zero, List.set_cons_succ]
              refine wpAnyH_take (i := 11) (v := ?_) rfl (by kernel_rfl) (by kernel_rfl) (by kernel_rfl) (fun _ _ _ h => h) (Or.inl ⟨by rfl, ?_⟩) (by assumption) ?_
              rotate_left
              · intro w hSw
                try dsimp only at hSw
                go_simp
                all_goals with_reducible rfl
              simp only [Act.put, List.getElem_toArray, List.getElem_cons_zero, List.getElem_cons_succ, List.setIfInBounds_toArray, List.set_cons_zero, List.set_cons_succ]
              refine wpAnyH_take (i := 13) (v := ?_) rfl (by kernel_rfl) (by kernel_rfl) (by kernel_rfl) (fun _ _ _ h => h) (Or.inl ⟨by rfl, ?_⟩) (by assumption) ?_
              rotate_left
              · intro w hSw
                try dsimp only at hSw
                go_simp
                all_goals with_reducible rfl
              simp only [Act.put, List.getElem_toArray, List.getElem_cons_zero, List.getElem_cons_succ, List.setIfInBounds_toArray, List.set_cons_zero, List.set_cons_succ]
              refine wpAnyH_take (i := 14) (v := ?_) rfl (by kernel_rfl) (by kernel_rfl) (by kernel_rfl) (fun _ _ _ h => h) (Or.inl ⟨by rfl, ?_⟩) (by assumption) ?_
              rotate_left
              · intro w hSw
                try dsimp only at hSw
                go_simp
                all_goals with_reducible rfl
              simp only [Act.put, List.getElem_toArray, List.getElem_cons_zero, List.getElem_cons_succ, List.setIfInBounds_toArray, List.set_cons_zero, List.set_cons_succ]
              refine wpAnyH_take (i := 15) (v := ?_) rfl (by kernel_rfl) (by kernel_rfl) (by kernel_rfl) (fun _ _ _ h => h) (Or.inl ⟨by rfl, ?_⟩) (by assumption) ?_
              rotate_left
              · intro w hSw
                try dsimp only at hSw
                go_simp
                all_goals with_reducible rfl
              simp only [Act.put, List.getElem_toArray, List.getElem_cons_zero, List.getElem_cons_succ, List.setIfInBounds_toArray, List.set_cons_zero, List.set_cons_succ]
              refine wpAnyH_take (i := 16) (v := ?_) rfl (by kernel_rfl) (by kernel_rfl) (by kernel_rfl) (fun _ _ _ h => h) (Or.inl ⟨by rfl, ?_⟩) (by assumption) ?_
              rotate_left
              · intro w hSw
                try dsimp only at hSw
                go_simp
                all_goals with_reducible rfl
              simp only [Act.put, List.getElem_toArray, List.getElem_cons_zero, List.getElem_cons_succ, List.setIfInBounds_toArray, List.set_cons_zero, List.set_cons_succ]
              refine wpAnyH_take (i := 17) (v := ?_) rfl (by kernel_rfl) (by kernel_rfl) (by kernel_rfl) (fun _ _ _ h => h) (Or.inl ⟨by rfl, ?_⟩) (by assumption) ?_
              rotate_left
              · intro w hSw
                try dsimp only at hSw
                go_simp
                all_goals with_reducible rfl
              simp only [Act.put, List.getElem_toArray, List.getElem_cons_zero, List.getElem_cons_succ, List.setIfInBounds_toArray, List.set_cons_zero, List.set_cons_succ]
              refine wpAnyH_take (i := 18) (v := ?_) rfl (by kernel_rfl) (by kernel_rfl) (by kernel_rfl) (fun _ _ _ h => h) (Or.inl ⟨by rfl, ?_⟩) (by assumption) ?_
              rotate_left
              · intro w hSw
                try dsimp only at hSw
                go_simp
                all_goals with_reducible rfl
              simp only [Act.put, List.getElem_toArray, List.getElem_cons_zero, List.getElem_cons_succ, List.setIfInBounds_toArray, List.set_cons_zero, List.set_cons_succ]
              refine wpAnyH_take (i := 19) (v := ?_) rfl (by kernel_rfl) (by kernel_rfl) (by kernel_rfl) (fun _ _ _ h => h) (Or.inl ⟨by rfl, ?_⟩) (by assumption) ?_
              rotate_left
              · intro w hSw
                try dsimp only at hSw
                go_simp
                all_goals with_reducible rfl
              simp only [Act.put, List.getElem_toArray, List.getElem_cons_zero, List.getElem_cons_succ, List.setIfInBounds_toArray, List.set_cons_zero, List.set_cons_succ]
              refine wpAnyH_take (i := 20) (v := ?_) rfl (by kernel_rfl) (by kernel_rfl) (by kernel_rfl) (fun _ _ _ h => h) (Or.inl ⟨by rfl, ?_⟩) (by assumption) ?_
              rotate_left
              · intro w hSw
                try dsimp only at hSw
                go_simp
                all_goals with_reducible rfl
              simp only [Act.put, List.getElem_toArray, List.getElem_cons_zero, List.getElem_cons_succ, List.setIfInBounds_toArray, List.set_cons_zero, List.set_cons_succ]
              refine wpAnyH_ready (rs := [12, 21]) (by kernel_rfl) (by simp) ?_
              refine (AllReadyH.cons rfl (fun K9 hK9 => ?_) (AllReadyH.cons rfl (fun K9 hK9 => ?_) AllReadyH.nil))
              · go_simp
                refine hK9.out _ _ ED.out (fun hHeld2 => ?_)
                clear hK9 K9
                refine wpAnyH_ready (rs := [21]) (by kernel_rfl) (by simp) ?_
                refine (AllReadyH.cons rfl (fun K9 hK9 => ?_) AllReadyH.nil)
                go_simp
                refine hK9.out _ _ EA.out (fun hHeld2 => ?_)
                clear hK9 K9
                refine wpAnyH_ready (rs := [22]) (by kernel_rfl) (by simp) ?_
                refine (AllReadyH.cons rfl (fun K9 hK9 => ?_) AllReadyH.nil)
                refine step_app rfl _ _ 52 rfl _ _ _ _ rfl rfl hrun ?_
                simp only [Act.put, List.getElem_toArray, List.getElem_cons_zero, List.getElem_cons_succ, List.setIfInBounds_toArray, List.set_cons_zero, List.set_cons_succ]
                refine hK9.out _ _ E1.out (fun hHeld2 => ?_)
                clear hK9 K9
                refine wpAnyH_take (i := 23) (v := ?_) rfl (by kernel_rfl) (by kernel_rfl) (by kernel_rfl) (fun _ _ _ h => h) (Or.inl ⟨by rfl, ?_⟩) (by assumption) ?_
                rotate_left
                · intro w hSw
                  try dsimp only at hSw
                  go_simp
                  all_goals with_reducible rfl
                simp only [Act.put, List.getElem_toArray, List.getElem_cons_zero, List.getElem_cons_succ, List.setIfInBounds_toArray, List.set_cons_zero, List.set_cons_succ]
                refine wpAnyH_take (i := 24) (v := ?_) rfl (by kernel_rfl) (by kernel_rfl) (by kernel_rfl) (fun _ _ _ h => h) (Or.inl ⟨by rfl, ?_⟩) (by assumption) ?_
                rotate_left
                · intro w hSw
                  try dsimp only at hSw
                  go_simp
                  all_goals with_reducible rfl
                simp only [Act.put, List.getElem_toArray, List.getElem_cons_zero, List.getElem_cons_succ, List.setIfInBounds_toArray, List.set_cons_zero, List.set_cons_succ]
                refine wpAnyH_ready (rs := [25]) (by kernel_rfl) (by simp) ?_
                refine (AllReadyH.cons rfl (fun K9 hK9 => ?_) AllReadyH.nil)
                go_simp
                refine hK9.out _ _ ES.out (fun hHeld2 => ?_)
                clear hK9 K9
                refine wpAnyH_done (by kernel_rfl) ?_ _
                clear hrun a1 c0 d0' d1' e0 e2 g0 g1 g2 g3 ED EA E1 ES hHeld hHeld2
                go_wp2
                obtain ⟨r1, r2, r3⟩ := FN.out
                exact ⟨⟨x + 1, by omega, by go_num, _, _, r2, r1, fun _ => rfl, r3⟩, by simp [intOf]; omega⟩
              · go_simp
                refine hK9.out _ _ EA.out (fun hHeld2 => ?_)
                clear hK9 K9
                refine wpAnyH_ready (rs := [12]) (by kernel_rfl) (by simp) ?_
                refine (AllReadyH.cons rfl (fun K9 hK9 => ?_) AllReadyH.nil)
                go_simp
                refine hK9.out _ _ EA.out (fun hHeld2 => ?_)
                clear hK9 K9
                refine wpAnyH_ready (rs := [22]) (by kernel_rfl) (by simp) ?_
                refine (AllReadyH.cons rfl (fun K9 hK9 => ?_) AllReadyH.nil)
                refine step_app rfl _ _ 52 rfl _ _ _ _ rfl rfl hrun ?_
                simp only [Act.put, List.getElem_toArray, List.getElem_cons_zero, List.getElem_cons_succ, List.setIfInBounds_toArray, List.set_cons_zero, List.set_cons_succ]
                refine hK9.out _ _ E1.out (fun hHeld2 => ?_)
                clear hK9 K9
                refine wpAnyH_take (i := 23) (v := ?_) rfl (by kernel_rfl) (by kernel_rfl) (by kernel_rfl) (fun _ _ _ h => h) (Or.inl ⟨by rfl, ?_⟩) (by assumption) ?_
                rotate_left
                · intro w hSw
                  try dsimp only at hSw
                  go_simp
                  all_goals with_reducible rfl
                simp only [Act.put, List.getElem_toArray, List.getElem_cons_zero, List.getElem_cons_succ, List.setIfInBounds_toArray, List.set_cons_zero, List.set_cons_succ]
                refine wpAnyH_take (i := 24) (v := ?_) rfl (by kernel_rfl) (by kernel_rfl) (by kernel_rfl) (fun _ _ _ h => h) (Or.inl ⟨by rfl, ?_⟩) (by assumption) ?_
                rotate_left
                · intro w hSw
                  try dsimp only at hSw
                  go_simp
                  all_goals with_reducible rfl
                simp only [Act.put, List.getElem_toArray, List.getElem_cons_zero, List.getElem_cons_succ, List.setIfInBounds_toArray, List.set_cons_zero, List.set_cons_succ]
                refine wpAnyH_ready (rs := [25]) (by kernel_rfl) (by simp) ?_
                refine (AllReadyH.cons rfl (fun K9 hK9 => ?_) AllReadyH.nil)
                go_simp
                refine hK9.out _ _ ES.out (fun hHeld2 => ?_)
                clear hK9 K9
                refine wpAnyH_done (by kernel_rfl) ?_ _
                clear hrun a1 c0 d0' d1' e0 e2 g0 g1 g2 g3 ED EA E1 ES hHeld hHeld2
                go_wp2
                obtain ⟨r1, r2, r3⟩ := FN.out
                exact ⟨⟨x + 1, by omega, by go_num, _, _, r2, r1, fun _ => rfl, r3⟩, by simp [intOf]; omega⟩
            · have hx20' : 0 < x := by omega
              go_wp2
              obtain rfl := hx0 (by omega)
              clear c0 d0' d1' dz hx0
              have HO1 := Hid.mk (E3.out.own (by omega))
              have HA1 := Hid.mk (own_al HO1.out)
              go_loopw [11, 12] (fun v2 c wr => ∃ y : Nat, y ≤ 70 ∧ c = .int .i64 (y : Int) ∧ ∃ ao2 cp2, v2 = .slice ao2 (m + x + y) cp2 ∧ wr.ownsRow 0 65 1 v2 (m + x + y) (List.replicate (m + x + y) (.int .u16 mk)) ∧ Al .u16 wr aoV (m + x) mk ∧ BAt W wr A (s2.seth t (.slice aoV (m + x) cpV)) ∧ ∀ z ∈ (Value.slice aoV (m + x) cpV).ownBlock.toList ++ v2.ownBlock.toList, W.heap.size ≤ z ∧ z < wr.heap.size ∧ ∀ j, s2.D j → z ∉ (s2.R A j).F) (fun _ c _ => 70 - (intOf c).toNat)
              case atStart => exact ⟨0, by omega, rfl, aoV, cpV, rfl, HO1.out, HA1.out, H3.out, fun z hz => HBL.out z (by rcases List.mem_append.1 hz with h | h <;> exact h)⟩
              case round =>
                obtain ⟨y, hy, rfl, ao2, cp2, rfl, ho2, ha2, hB2, hbl2⟩ := hrel
                obtain ⟨wy, ewy⟩ : ∃ wy, wy = wr := ⟨_, rfl⟩
                subst ewy
                have H5 := Hid.mk hB2
                have O2 := Hid.mk ho2
                have A2 := Hid.mk ha2
                have B2 := Hid.mk hbl2
                obtain ⟨⟨c0, -, -⟩, fz0⟩ := hB2.cells
                have f0 := fz0 0
                obtain ⟨gH', cpH', eH', d0, d1, dz⟩ := held_cell hB2.held t hth
                obtain ⟨rfl, rfl⟩ : gH = gH' ∧ cpH = cpH' := by have := HS.out.symm.trans eH'; simp at this; exact ⟨this.1, this.2.2⟩
                change wy.cell? _ = some s2.SL at c0
                rw [HS.out] at c0
                have d1' : wy.cell? ⟨gH, t * 2 + 1, none⟩ = some (.int .u16 mk) := by
                  rw [d1]; show some (Value.int .u16 (s2.HM t)) = _; rw [HM2.out]
                clear ho2 ha2 hB2 hbl2 eH' d0 d1 dz fz0
                by_cases hy70 : y < 70
                · obtain ⟨aoN, cpN, w7, hrun, -, ho7, hk7, hn7⟩ := ex_app wy _ _ mk _ (.inr ⟨rfl, O2.out⟩) (by omega)
                  have FN : Hid (Al .u16 w7 aoV (m + x) mk ∧ w7.ownsRow 0 65 1 (.slice aoN (m + x + y + 1) cpN) (m + x + y + 1) (List.replicate (m + x + y + 1) (.int .u16 mk)) ∧ BAt W w7 A (s2.seth t (.slice aoV (m + x) cpV)) ∧ ∀ z ∈ (Value.slice aoV (m + x) cpV).ownBlock.toList ++ (Value.slice aoN (m + x + y + 1) cpN).ownBlock.toList, W.heap.size ≤ z ∧ z < w7.heap.size ∧ ∀ j, s2.D j → z ∉ (s2.R A j).F) := Hid.mk (by
                    refine ⟨ex_al wy _ _ mk O2.out (by omega) hrun hk7 A2.out, ho7, H5.out.aside hk7 (fun z hz => (B2.out z (List.mem_append.2 (.inr hz))).1) (fun z hz j hj => by rw [s2.seth_F A t _ j hj]; exact (B2.out z (List.mem_append.2 (.inr hz))).2.2 j hj), fun z hz => ?_⟩
                    have hs := hk7.size
                    rcases List.mem_append.1 hz with h | h
                    · obtain ⟨a, b, c⟩ := B2.out z (List.mem_append.2 (.inl h))
                      exact ⟨a, by omega, c⟩
                    · have hlt := (ho7.lt z (mem_own.1 h)).2
                      rcases hn7 z h with h | h
                      · obtain ⟨a, b, c⟩ := B2.out z (List.mem_append.2 (.inr h))
                        exact ⟨a, by omega, c⟩
                      · have hW : W.heap.size ≤ wy.heap.size := H5.out.old.size
                        exact ⟨by omega, hlt, fun j hj hm => by have := H5.out.lt j hj z (by rw [s2.seth_F A t _ j hj]; exact hm); omega⟩)
                  clear ho7 hk7 hn7
                  go_wp2_with (at_builtin; refine wpList_eq rfl _ _ 52 rfl _ _ _ _ rfl rfl hrun ?_)
                  go_roundw
                  case rel =>
                    obtain ⟨r1, r2, r3, r4⟩ := FN.out
                    exact ⟨y + 1, by omega, by go_num, aoN, cpN, rfl, r2, r1, r3, r4⟩
                  case measure => simp [intOf]; omega
                · obtain rfl : y = 70 := by omega
                  have H6 := Hid.mk (H5.out.keep ((Kept.refl [] wy).drew))
                  obtain ⟨aoN, cpN, w7, hrun, ho7, hk7, hl7⟩ := held_app wy.drew s2.SL s2.h (hfl (s2.seth t (.slice aoV (m + x) cpV)).HV s2.HM s2.h) (.slice ao2 (m + x + 70) cp2) mk rfl H6.out.held (by omega)
                  rw [HS.out] at hrun
                  obtain ⟨w3, hw3⟩ : ∃ w3, wy.drew.alloc (.cells #[.slice ao2 (m + x + 70) cp2, .int .u16 mk] 79) = w3 := ⟨_, rfl⟩
                  have hk3 : Kept [] wy w3 := by rw [← hw3]; exact ((Kept.refl [] wy).drew).alloc _
                  rw [hw3] at hrun
                  have e0 := cell_keep hk3 c0 (by simp)
                  have b7 := H6.out.boxKept hk7
                  have g7 : w7.frozen? ⟨A, 0, none⟩ = false := by simp [World.frozen?, b7]
                  have g8 : ∃ c, w7.cell? ⟨A, 0, none⟩ = some c := ⟨s2.SL, by simp [World.cell?, b7]; rfl⟩
                  obtain ⟨cg, g8⟩ := g8
                  have FN : Hid (∃ s3, BAt W (w7.setCell ⟨A, 0, none⟩ (.slice aoN (s2.h + 1) cpN)) A s3 ∧ Gz s s1 s3 (t + 1)) := Hid.mk ⟨_, H6.out.two hth (fun j hj => by have := (G2.out.J j).1 hj; omega) HM2.out hk7 hl7 ho7 rfl rfl (by omega) (by omega) (al_keep A2.out ((Kept.refl [] wy).drew)) (al_keep (own_al O2.out) ((Kept.refl [] wy).drew)) (bl := (Value.slice aoV (m + x) cpV).ownBlock.toList ++ (Value.slice ao2 (m + x + 70) cp2).ownBlock.toList) (fun a e => by subst e; simp [Value.ownBlock]) (fun a e => by subst e; simp [Value.ownBlock]) (by simpa using B2.out), G2.out.step ht0 hlt2 _ _ _ _ _⟩
                  clear ho7 hk7 hl7 hk3 b7 H6
                  go_upto_region 27 with (fail)
                  go_region_law (refine step_app rfl (.tmp 166) (.tmp 177) 32 rfl _ _ _ _ rfl rfl hrun ?_)
                  all_goals
                    go_wp2
                    obtain ⟨s3, b3, z3⟩ := FN.out
                    exact ⟨⟨t + 1, by omega, by omega, by go_num, s3, b3, z3⟩, by simp [intOf]; omega⟩
        · obtain rfl : s1.h = t := by omega
          have P0 := Hid.mk (Pz.start HR.out F1.out G2.out)
          have en2 : s2.n = s.n := G2.out.n.trans F1.out.n
          have ek2 : s2.kn = s.kn := G2.out.kn.trans F1.out.kn
          have hn8 := HR.out.n8
          obtain ⟨⟨c0, -, c2⟩, -⟩ := H2.out.cells
          obtain ⟨aoS2, cpS2, eS2⟩ := row_form H2.out.held
          rw [eS2] at c0
          obtain ⟨aoO2, cpO2, eO2⟩ := row_form H2.out.out
          rw [eO2] at c2
          have E2 := Hid.mk (And.intro en2 ek2)
          clear eS2 eO2 en2 ek2
          go_wp2
          clear c0 c2
          go_loopw [13] (fun t wr => ∃ i : Nat, i ≤ s.n ∧ t = .int .i64 (i : Int) ∧ ∃ s3, BAt W wr A s3 ∧ Pz s2 s3 i 0) (fun t _ => s.n - (intOf t).toNat)
          case atStart => exact ⟨0, by omega, rfl, s2, H2.out, P0.out⟩
          case round =>
            obtain ⟨i3, hi3, rfl, s3, hB, hP⟩ := hrel
            obtain ⟨wo3, ewo⟩ : ∃ wo3, wo3 = wr := ⟨_, rfl⟩
            subst ewo
            have H3 := Hid.mk hB
            have P3 := Hid.mk hP
            obtain ⟨⟨-, -, c2⟩, -⟩ := hB.cells
            obtain ⟨aoO3, cpO3, eO3⟩ := row_form hB.out
            rw [eO3, hP.r, E2.out.1] at c2
            clear hB hP eO3
            by_cases hlt3 : i3 < s.n
            · have ix3 : (i3 : Int) < (s.n : Int) := by omega
              have hk8 := HR.out.k8 i3
              go_wp2
              clear c2
              go_loopw [14] (fun t wr => ∃ k : Nat, k ≤ s.kn i3 ∧ t = .int .i64 (k : Int) ∧ ∃ s4, BAt W wr A s4 ∧ Pz s2 s4 i3 k) (fun t _ => s.kn i3 - (intOf t).toNat)
              case atStart => exact ⟨0, by omega, rfl, s3, H3.out, P3.out⟩
              case round =>
                obtain ⟨k3, hk3, rfl, s4, hB, hP⟩ := hrel
                obtain ⟨wp3, ewp⟩ : ∃ wp3, wp3 = wr := ⟨_, rfl⟩
                subst ewp
                have H4 := Hid.mk hB
                have P4 := Hid.mk hP
                have hn4 : i3 < s4.n := by rw [hP.n, E2.out.1]; exact hlt3
                have hr4 : i3 < s4.r := by rw [hP.r, E2.out.1]; exact hlt3
                have ekn : s4.kn i3 = s.kn i3 := by rw [hP.kn, if_neg (Nat.lt_irrefl _), E2.out.2]
                have erl : s4.rl i3 = s.kn i3 := by rw [hP.rl i3 (by rw [E2.out.1]; exact hlt3), ekn]
                obtain ⟨⟨-, -, c2⟩, -⟩ := hB.cells
                obtain ⟨gO, cpO, eO, y0, -⟩ := own_cell hB.out i3 hr4
                rw [eO, hP.r, E2.out.1] at c2
                rw [hP.ov i3 (by rw [E2.out.1]; exact hlt3)] at y0
                obtain ⟨aoR, cpR, eR⟩ := row_form (hB.row i3 hn4)
                rw [eR, erl] at y0
                have EO := Hid.mk eO
                have ER := Hid.mk eR
                have EK := Hid.mk (And.intro ekn (And.intro erl (And.intro hn4 hr4)))
                clear hB hP eO eR ekn erl hn4 hr4
                by_cases hkl : k3 < s.kn i3
                · have ixk : (k3 : Int) < (s.kn i3 : Int) := by omega
                  obtain ⟨gR, cpR', eR', y1, y2⟩ := own_cell (H4.out.row i3 EK.out.2.2.1) k3 (by rw [EK.out.2.1]; exact hkl)
                  obtain ⟨rfl, rfl⟩ : aoR = some ⟨gR, 0, none⟩ ∧ cpR = cpR' := by have := ER.out.symm.trans eR'; simp at this; exact this
                  obtain ⟨wa, ea⟩ : ∃ wa, wp3.alloc (.cells #[.int .u16 9] 65) = wa := ⟨_, rfl⟩
                  have ka : Kept [] wp3 wa := by rw [← ea]; exact (Kept.refl [] wp3).alloc _
                  have z1 := cell_keep ka y1 (by simp)
                  have z2 : wa.frozen? ⟨gR, k3, none⟩ = false := by
                    have h9 := (H4.out.keep ka).row i3 EK.out.2.2.1
                    obtain ⟨g', c', e', -, q⟩ := own_cell h9 k3 (by rw [EK.out.2.1]; exact hkl)
                    obtain ⟨rfl, rfl⟩ : gR = g' ∧ cpR = c' := by have := ER.out.symm.trans e'; simp at this; exact this
                    exact q
                  have FN : Hid (BAt W (wa.setCell ⟨gR, k3, none⟩ (.slice (some ⟨wp3.heap.size, 0, none⟩) 1 1)) A ((s4.one i3 k3 (zlf .u16 65 (some ⟨wp3.heap.size, 0, none⟩) 1 (fun _ => 9))).setl i3 k3 (.slice (some ⟨wp3.heap.size, 0, none⟩) 1 1))) := Hid.mk (by rw [← ea]; exact H4.out.nine EK.out.2.2.1 (by rw [EK.out.1]; exact hkl) (by rw [EK.out.2.1]; exact hkl) gR cpR (by rw [EK.out.2.1]; exact ER.out.trans (by rw [EK.out.2.1])))
                  clear eR' ka
                  go_wp2
                  exact ⟨⟨k3 + 1, by omega, by go_num, _, FN.out, P4.out.nine _⟩, by simp [intOf]; omega⟩
                · have hkk : k3 = s.kn i3 := by omega
                  have P5 := Hid.mk P4.out
                  rw [hkk, ← E2.out.2] at P5
                  obtain ⟨wa, wb, wc, bo, c, w7, ea, eb, ec, hrun, g1, ⟨u7, g2⟩, g3, s5, b5, p5⟩ := H4.out.nines P5.out (by rw [E2.out.1]; exact hlt3) (by rw [E2.out.2]; omega) gO cpO EO.out EK.out.2.2.2
                  rw [ER.out, EK.out.2.1, E2.out.2] at hrun
                  rw [E2.out.2] at b5
                  rw [EO.out, P4.out.r, E2.out.1] at g1
                  have FN := Hid.mk (And.intro b5 p5)
                  have ca := cell_keep (show Kept [] wp3 wa by rw [← ea]; exact (Kept.refl [] wp3).alloc _) c2 (by simp)
                  clear b5 p5 P5 hkk
                  go_wp2_with (at_builtin; refine wpList_eq rfl _ _ 36 rfl _ _ _ _ rfl rfl hrun ?_)
                  exact ⟨⟨i3 + 1, by omega, by go_num, s5, FN.out.1, FN.out.2⟩, by simp [intOf]; omega⟩
            · obtain rfl : i3 = s.n := by omega
              have P5 := Hid.mk P3.out
              rw [← E2.out.1] at P5
              obtain ⟨D1, D2, D3, D4⟩ := Dn.of HR.out F1.out G2.out P5.out
              have hh3 := D1.h
              have LK := Hid.mk (looks_any W wo3 A s3 H3.out D2 (by omega) D1.r D1.rl D1.ov (by rw [D1.n]; omega) D3 D4)
              have DD := Hid.mk D1
              clear D1 D2 D3 D4 P5 hh3
              go_wp2_with (fail)
              refine LK.out.mono ?_
              rintro e w9 ⟨rfl, b9⟩
              have B9 := Hid.mk b9
              clear b9 LK
              go_wp2
              go_ret
              exact ⟨rfl, s3, B9.out, DD.out⟩
end Go.Proofs.Ythihennifigchaa.Bk
