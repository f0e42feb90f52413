import Derived.Test.YtiojcfffhcipnaaBh
namespace Go.Proofs.Ytiojcfffhcipnaa
open Go.RowKit

set_option maxHeartbeats 32000000 in
set_option maxRecDepth 1000000 in
theorem own_any (w : World) (A : Nat) (lo so oo tO : Option Addr) (n lc q sc p oc r tc : Nat) (k u ks us : Value) (f g fo ft : Nat → Hd)
    (h : Bx w A (.slice lo n lc) (.slice so q sc) (.slice oo p oc) (.slice tO r tc) k u ks us) (hH : Hs w (.slice lo n lc) n f) (hS : Ss w (.slice so q sc) q g)
    (hO : w.ownsRow 0 29 1 (.slice oo p oc) p (ocs fo p)) (hOr : ∀ i, i < p → ∃ xs, w.ownsRow 0 5 1 (sl (fo i)) (fo i).l xs)
    (d1 : ∀ i j, i < p → j < n → ∀ x ∈ blk (fo i), x ∉ blk (f j)) (d2 : ∀ i j, i < p → j < p → i ≠ j → ∀ x ∈ blk (fo i), x ∉ blk (fo j))
    (hT : w.ownsRow 0 30 1 (.slice tO r tc) r (ocs ft r)) (hTr : ∀ i, i < r → ∃ xs, w.ownsRow 0 63 2 (sl (ft i)) (ft i).l xs)
    (d3 : ∀ i j, i < r → j < q → ∀ x ∈ blk (ft i), x ∉ blk (g j)) (d4 : ∀ i j, i < r → j < r → i ≠ j → ∀ x ∈ blk (ft i), x ∉ blk (ft j))
    (hn : n ≤ 6000000000000) (hp : p ≤ 8) (hq : q ≤ 6000000000000) (hr : r ≤ 8) (hfo : ∀ i, i < p → (fo i).l ≤ 999999000) (hft : ∀ i, i < r → (ft i).l ≤ 6000000000000) (hf : ∀ i, i < n → (f i).l ≤ 1000000000) (hgl : ∀ i, i < q → (g i).l ≤ 6100000000000) :
    Calls Try.prog 12 #[.pointer (some ⟨A, 0, none⟩)] w (OwnP w A (.slice lo n lc) (.slice so q sc) n p q r k u ks us f fo g ft) := by
  have HB := Hid.mk h
  have HS2 : Hid (∀ w0, Mk1 w w0 A (.slice so q sc) (.slice oo p oc) (.slice tO r tc) k u ks us (.slice lo n lc) n p p f fo → ∃ lo1 lc1, Mk2 w0 w0 A (.slice lo1 (n + p) lc1) (.slice oo p oc) (.slice tO r tc) k u ks us (.slice so q sc) q r 0 (n + p) g ft (jn f fo n) ∧ Lies w (.slice lo n lc) (.slice lo1 (n + p) lc1)) := Hid.mk (fun w0 H => H.second h hH.own hOr hS hT hTr)
  have HD3 := Hid.mk (And.intro d3 d4)
  have HFT := Hid.mk hft
  have HD := Hid.mk (And.intro d1 d2)
  have DJ := Hid.mk (jn_dj d1 d2)
  have DJS := Hid.mk (jns_dj d3 d4)
  have HLN := Hid.mk (And.intro hfo (And.intro hft (And.intro hf hgl)))
  have HL0 := Hid.mk hH.own
  have HOR := Hid.mk hOr
  have HBX := Hid.mk h
  have HFO := Hid.mk hfo
  have M0 : Hid (Mk1 w w A (.slice so q sc) (.slice oo p oc) (.slice tO r tc) k u ks us (.slice lo n lc) n p 0 f fo) := Hid.mk ⟨⟨lo, lc, h, ⟨by rw [hcs_congr .u8 (jn f fo n) f (n + 0) (fun i hi => jn_old f fo n i (by omega))]; exact hH.own, fun i hi => by rw [jn_old f fo n i (by omega)]; exact hH.each i (by omega)⟩, Lies.refl _ _⟩, hO, fun j _ hj => hOr j hj, Kept.refl _ _⟩
  obtain ⟨c0, c1, -⟩ := h.cells
  clear h hH hO hOr d1 d2 hfo hS hT hTr d3 d4 hft hf hgl
  go_enter Try.func12, Try.ntmps12
  go_wp2
  clear c0 c1
  go_loopw [5] (fun i wr => ∃ x : Nat, x ≤ p ∧ i = .int .i64 (x : Int) ∧ Hid (Mk1 w wr A (.slice so q sc) (.slice oo p oc) (.slice tO r tc) k u ks us (.slice lo n lc) n p x f fo)) (fun i _ => p - (intOf i).toNat)
  case atStart => exact ⟨0, Nat.zero_le _, rfl, M0⟩
  case round =>
    obtain ⟨x, hx, rfl, HI⟩ := hrel
    obtain ⟨w0, rfl⟩ : ∃ w0, w0 = wr := ⟨_, rfl⟩
    obtain ⟨lo1, lc1, b1, hs1, li1⟩ := HI.out.bx
    obtain ⟨c0, -, c2, -⟩ := b1.cells
    by_cases hlt : x < p
    · have ix : (x : Int) < (p : Int) := by omega
      obtain ⟨NN, eN⟩ : ∃ NN, n + x = NN := ⟨_, rfl⟩
      rw [eN] at c0
      obtain ⟨r0, er⟩ : ∃ r0 : Nat, NN % 250 = r0 := ⟨_, rfl⟩
      have t1 : (NN : Int).tmod 250 = (r0 : Int) := by rw [Int.tmod_eq_emod_of_nonneg (by omega)]; omega
      have t2 : wrap64 (1 + (r0 : Int)) = ((1 + r0 : Nat) : Int) := by unfold wrap64; omega
      have t3 : IntKind.u8.wrap ((1 + r0 : Nat) : Int) = ((1 + r0 : Nat) : Int) := by rw [IntKind.wrap_u8']; omega
      have HX := Hid.mk (And.intro hs1 li1)
      have HB1 := Hid.mk b1
      have HO1 := Hid.mk HI.out.oo
      obtain ⟨⟨xa, xl, xc, xm⟩, efx⟩ : ∃ z, fo x = z := ⟨_, rfl⟩
      obtain ⟨xs0, hrow0⟩ := HI.out.rows x (Nat.le_refl _) hlt
      have hxl := HFO.out x hlt
      rw [efx] at hrow0 hxl
      simp only [sl] at hrow0 hxl
      have HR0 := Hid.mk hrow0
      have HE := Hid.mk efx
      clear hs1 li1 b1 hrow0 efx
      go_wp2
      clear c0 c2
      go_loopw [7] (fun j wr => ∃ y : Nat, y ≤ xl ∧ j = .int .i64 (y : Int) ∧ Hid ((∃ xs, wr.ownsRow 0 5 1 (.slice xa xl xc) xl xs ∧ ∀ z, z < y → xs[z]? = some (.int .u8 (1 + (r0 : Int)))) ∧ Kept (Value.slice xa xl xc).ownBlock.toList w0 wr)) (fun j _ => xl - (intOf j).toNat)
      case atStart => exact ⟨0, Nat.zero_le _, rfl, Hid.mk ⟨⟨xs0, by first | exact HR0.out | exact HR0.out.drew | exact HR0.out.drewN _, fun z hz => by omega⟩, by first | exact Kept.refl _ _ | exact (Kept.refl _ _).drew | exact (Kept.refl _ _).drewN _⟩⟩
      case round =>
        obtain ⟨y, hy, rfl, HJ⟩ := hrel
        obtain ⟨ys, hys, hyz⟩ := HJ.out.1
        have nA : A ∉ (Value.slice xa xl xc).ownBlock.toList := own_ty HB1.out (by decide) HR0.out
        obtain ⟨c0, -, c2, -⟩ := (HB1.out.kept HJ.out.2 nA).cells
        obtain ⟨og, rfl, hco⟩ := own_cellsN (HJ.out.2.row HO1.out (own_two HO1.out HR0.out (by decide))) (by omega)
        have l0 := hco x _ (ocs_at fo p x hlt)
        rw [HE.out] at l0
        simp only [sl] at l0
        by_cases hly : y < xl
        · have iy : (y : Int) < (xl : Int) := by omega
          obtain ⟨G, rfl, hca⟩ := own_cellsN hys (by omega)
          have lys : ys.length = xl := by have := hys.1; omega
          obtain ⟨u0, hcu⟩ : ∃ u, wr.cell? ⟨G, y, none⟩ = some u := ⟨_, hca y _ (List.getElem?_eq_getElem (by omega))⟩
          have hfz : wr.frozen? ⟨G, y, none⟩ = false := by
            rcases hys.2 with ⟨hx, _⟩ | ⟨G', cap, cur, hx, _, hg, _⟩
            · cases hx
            · simp only [Value.slice.injEq, Option.some.injEq, Addr.mk.injEq] at hx
              obtain ⟨⟨rfl, -, -⟩, -, -⟩ := hx
              have hg' : wr.heap[G]? = some (.cells cur 5 (0, 0)) := hg
              simp [World.frozen?, hg']
          have M5 : Hid ((∃ xs, (wr.setCell ⟨G, y, none⟩ (.int .u8 (1 + (r0 : Int)))).ownsRow 0 5 1 (.slice (some ⟨G, 0, none⟩) xl xc) xl xs ∧ ∀ z, z < y + 1 → xs[z]? = some (.int .u8 (1 + (r0 : Int)))) ∧ Kept (Value.slice (some ⟨G, 0, none⟩) xl xc).ownBlock.toList w0 (wr.setCell ⟨G, y, none⟩ (.int .u8 (1 + (r0 : Int))))) := Hid.mk (by
            have hys' : wr.ownsRow 0 5 1 (.slice (some ⟨G, 0, none⟩) xl xc) xl ys := hys
            refine ⟨⟨_, own_set hys' y (.int .u8 (1 + (r0 : Int))), fun z hz => ?_⟩, (HJ.out.2).step ((Kept.refl [G] _).setCell (.inl (by simp)) _) (fun x hx => by simp [Value.ownBlock] at hx ⊢; exact .inl hx)⟩
            rw [List.getElem?_set]
            by_cases e : y = z
            · rw [if_pos e, if_pos (by omega)]
            · rw [if_neg e]; exact hyz z (by omega))
          clear hys hyz nA hco hca lys
          go_wp2_with (fail)
          exact ⟨⟨y + 1, by omega, by go_num, M5⟩, by simp [intOf]; omega⟩
        · obtain rfl : xl = y := by omega
          have hall : ys = List.replicate xl (.int .u8 (1 + (r0 : Int))) := List.ext_getElem? (fun z => by
            have lys : ys.length = xl := by have := hys.1; omega
            by_cases hz : z < xl
            · rw [hyz z hz]; simp [hz]
            · rw [List.getElem?_eq_none (by omega), List.getElem?_eq_none (by simp; omega)])
          subst hall
          have HY := Hid.mk hys
          have hH1 := HX.out.1
          have hB1 := HB1.out
          rw [eN] at hH1 hB1 c0
          have dl : ∀ g, (Value.slice lo1 NN lc1).ownBlock = some g → g ∉ (Value.slice xa xl xc).ownBlock.toList := own_two hH1.own HR0.out (by decide)
          have hL : wr.drew.ownsRow 0 94 2 (.slice lo1 NN lc1) NN (hcs .u8 (jn f fo n) NN) := HJ.out.2.row hH1.own dl
          obtain ⟨bo, bc, w1, hrun, h1, k1, li2⟩ := app2w wr.drew 25 25 94 32 _ Try.underlying25 Try.info94 rfl (by omega) (.slice lo1 NN lc1) NN _ hL (.slice xa xl xc) (.int .u8 (1 + (r0 : Int))) rfl rfl (by omega)
          have bxr : Bx wr.drew A (.slice lo1 NN lc1) (.slice so q sc) (.slice (some ⟨og, 0, none⟩) p oc) (.slice tO r tc) k u ks us := hB1.kept HJ.out.2.drew nA
          have nL : A ∉ (Value.slice lo1 NN lc1).ownBlock.toList := own_ty bxr (by decide) hL
          have hb1 := bxr.kept k1 nL
          obtain ⟨hcA, -, hcB, -⟩ := (bxr.kept ((Kept.refl [] wr.drew).alloc (.cells #[.slice xa xl xc, .int .u8 (1 + (r0 : Int))] 94)) (by simp)).cells
          have hcC : (wr.alloc (.cells #[.slice xa xl xc, .int .u8 (1 + (r0 : Int))] 94)).cell? ⟨A, 0, none⟩ = some (.slice lo1 NN lc1) := hcA
          obtain ⟨c1, -, c3, -⟩ := hb1.cells
          have f1 := hb1.fz 0
          have FN := Hid.mk (And.intro hb1 (And.intro h1 (And.intro k1 li2)))
          have MN : Hid (Mk1 w (w1.setCell ⟨A, 0, none⟩ (.slice bo (NN + 1) bc)) A (.slice so q sc) (.slice (some ⟨og, 0, none⟩) p oc) (.slice tO r tc) k u ks us (.slice lo n lc) n p (x + 1) f fo) := Hid.mk (by
            have ef := HE.out
            have hy1 : wr.drew.ownsRow 0 5 1 (sl (fo x)) (fo x).l (List.replicate (fo x).l (.int .u8 (1 + (r0 : Int)))) := by rw [ef]; exact HY.out
            have hj1 : Kept (blk (fo x)) w0 wr.drew := by rw [ef]; exact HJ.out.2.drew
            have es : sl (fo x) = .slice xa xl xc := by rw [ef]; rfl
            rw [← es] at h1
            rw [← eN] at h1 k1 li2 er ⊢
            exact Mk1.next HI.out HB1.out HX.out.1 HX.out.2 hlt HD.out.1 HD.out.2 hj1 hy1 er h1 k1 li2)
          clear hco hyz hys hH1 hB1 dl hL bxr nL hb1 h1 k1 li2 FN
          go_wp2_with (fail)
          go_region_law (refine step_app rfl _ _ 25 rfl _ _ _ _ rfl rfl hrun ?_)
          all_goals focus
            clear hrun c0 c1 c2 c3 f1 hcA hcB hcC l0
            go_wp2
            go_roundw
            case rel => exact ⟨x + 1, by omega, by go_num, MN⟩
            case measure => simp [intOf]; omega
    · obtain rfl : p = x := by omega
      obtain ⟨lo2, lc2, m2, li2⟩ := HS2.out w0 HI.out
      have HM2 := Hid.mk m2
      have HL2 := Hid.mk li2
      have HK2 := Hid.mk HI.out.kept
      clear hlt hx b1 hs1 li1 m2 li2 HI HS2 HD HFO M0
      go_wp2
      clear c0 c2
      go_loopw [8] (fun i wr => ∃ x : Nat, x ≤ r ∧ i = .int .i64 (x : Int) ∧ Hid (Mk2 w0 wr A (.slice lo2 (n + p) lc2) (.slice oo p oc) (.slice tO r tc) k u ks us (.slice so q sc) q r x (n + p) g ft (jn f fo n))) (fun i _ => r - (intOf i).toNat)
      case atStart => exact ⟨0, Nat.zero_le _, rfl, HM2⟩
      case round =>
        obtain ⟨x, hx, rfl, HI⟩ := hrel
        obtain ⟨w2, rfl⟩ : ∃ w2, w2 = wr := ⟨_, rfl⟩
        obtain ⟨so1, sc1, b1, hs1, li1⟩ := HI.out.bx
        obtain ⟨c0, c1, c2, c3, -⟩ := b1.cells
        by_cases hlt : x < r
        · have ix : (x : Int) < (r : Int) := by omega
          obtain ⟨NN, eN⟩ : ∃ NN, q + x = NN := ⟨_, rfl⟩
          rw [eN] at c1
          have HX := Hid.mk (And.intro hs1 li1)
          have HB1 := Hid.mk b1
          have HT1 := Hid.mk HI.out.tt
          obtain ⟨⟨xa, xl, xc, xm⟩, efx⟩ : ∃ z, ft x = z := ⟨_, rfl⟩
          obtain ⟨xs0, hrow0⟩ := HI.out.rows x (Nat.le_refl _) hlt
          have hxl := HFT.out x hlt
          rw [efx] at hrow0 hxl
          simp only [sl] at hrow0 hxl
          have HR0 := Hid.mk hrow0
          have HE := Hid.mk efx
          clear hs1 li1 b1 hrow0 efx
          go_wp2
          clear c0 c1 c2 c3
          go_loopw [10] (fun j wr => ∃ y : Nat, y ≤ xl ∧ j = .int .i64 (y : Int) ∧ Hid ((∃ xs, wr.ownsRow 0 63 2 (.slice xa xl xc) xl xs ∧ ∀ z, z < y → xs[z * 2]? = some (.int .i64 (-1 - (NN : Int))) ∧ xs[z * 2 + 1]? = some (.int .i64 0)) ∧ Kept (Value.slice xa xl xc).ownBlock.toList w2 wr)) (fun j _ => xl - (intOf j).toNat)
          case atStart => exact ⟨0, Nat.zero_le _, rfl, Hid.mk ⟨⟨xs0, HR0.out, fun z hz => by omega⟩, Kept.refl _ _⟩⟩
          case round =>
            obtain ⟨y, hy, rfl, HJ⟩ := hrel
            obtain ⟨ys, hys, hyz⟩ := HJ.out.1
            have nA : A ∉ (Value.slice xa xl xc).ownBlock.toList := own_ty HB1.out (by decide) HR0.out
            obtain ⟨c0, c1, -, c3, -⟩ := (HB1.out.kept HJ.out.2 nA).cells
            obtain ⟨tg, rfl, hco⟩ := own_cellsN (HJ.out.2.row HT1.out (own_two HT1.out HR0.out (by decide))) (by omega)
            have l0 := hco x _ (ocs_at ft r x hlt)
            rw [HE.out] at l0
            simp only [sl] at l0
            by_cases hly : y < xl
            · have iy : (y : Int) < (xl : Int) := by omega
              obtain ⟨G, rfl, hca⟩ := own_cellsN hys (by omega)
              have lys : ys.length = xl * 2 := by have := hys.1; omega
              obtain ⟨u0, hcu⟩ : ∃ u, wr.cell? ⟨G, y * 2, none⟩ = some u := ⟨_, hca (y * 2) _ (List.getElem?_eq_getElem (by omega))⟩
              obtain ⟨u1, hcv⟩ : ∃ u, wr.cell? ⟨G, y * 2 + 1, none⟩ = some u := ⟨_, hca (y * 2 + 1) _ (List.getElem?_eq_getElem (by omega))⟩
              have hfz : ∀ i, wr.frozen? ⟨G, i, none⟩ = false := fun i => by
                rcases hys.2 with ⟨hx, _⟩ | ⟨G', cap, cur, hx, _, hg, _⟩
                · cases hx
                · simp only [Value.slice.injEq, Option.some.injEq, Addr.mk.injEq] at hx
                  obtain ⟨⟨rfl, -, -⟩, -, -⟩ := hx
                  have hg' : wr.heap[G]? = some (.cells cur 63 (0, 0)) := hg
                  simp [World.frozen?, hg']
              have f0 := hfz (y * 2)
              have f1 := hfz (y * 2 + 1)
              have M5 : Hid ((∃ xs, ((wr.setCell ⟨G, y * 2, none⟩ (.int .i64 (-1 - (NN : Int)))).setCell ⟨G, y * 2 + 1, none⟩ (.int .i64 0)).ownsRow 0 63 2 (.slice (some ⟨G, 0, none⟩) xl xc) xl xs ∧ ∀ z, z < y + 1 → xs[z * 2]? = some (.int .i64 (-1 - (NN : Int))) ∧ xs[z * 2 + 1]? = some (.int .i64 0)) ∧ Kept (Value.slice (some ⟨G, 0, none⟩) xl xc).ownBlock.toList w2 ((wr.setCell ⟨G, y * 2, none⟩ (.int .i64 (-1 - (NN : Int)))).setCell ⟨G, y * 2 + 1, none⟩ (.int .i64 0))) := Hid.mk (by
                refine ⟨⟨_, own_setG (own_setG hys (y * 2) (.int .i64 (-1 - (NN : Int)))) (y * 2 + 1) (.int .i64 0), fun z hz => ?_⟩, (HJ.out.2.step ((Kept.refl [G] _).setCell (.inl (by simp)) _) (fun x hx => by simp [Value.ownBlock] at hx ⊢; exact .inl hx)).step ((Kept.refl [G] _).setCell (.inl (by simp)) _) (fun x hx => by simp [Value.ownBlock] at hx ⊢; exact .inl hx)⟩
                simp only [List.getElem?_set, List.length_set]
                by_cases e : y = z
                · subst e
                  refine ⟨?_, ?_⟩
                  · rw [if_neg (by omega), if_pos rfl, if_pos (by omega)]
                  · rw [if_pos rfl, if_pos (by omega)]
                · refine ⟨?_, ?_⟩
                  · rw [if_neg (by omega), if_neg (by omega)]; exact (hyz z (by omega)).1
                  · rw [if_neg (by omega), if_neg (by omega)]; exact (hyz z (by omega)).2)
              clear hys hyz nA hco hca lys hfz
              go_wp2_with (fail)
              exact ⟨⟨y + 1, by omega, by go_num, M5⟩, by simp [intOf]; omega⟩
            · obtain rfl : xl = y := by omega
              have lys : ys.length = xl * 2 := by have := hys.1; omega
              have hall : ys = spc (List.replicate xl (-1 - (NN : Int), 0)) := spc_rep ys xl _ lys hyz
              subst hall
              have HY := Hid.mk hys
              have hH1 := HX.out.1
              have hB1 := HB1.out
              rw [eN] at hH1 hB1 c1
              have dl : ∀ g, (Value.slice so1 NN sc1).ownBlock = some g → g ∉ (Value.slice xa xl xc).ownBlock.toList := own_two hH1.own HR0.out (by decide)
              have hL : wr.drew.ownsRow 0 96 2 (.slice so1 NN sc1) NN (hcs .i64 (jns g ft q) NN) := HJ.out.2.row hH1.own dl
              obtain ⟨bo, bc, w1, hrun, h1, k1, li2⟩ := app2w wr.drew 26 26 96 32 _ Try.underlying26 Try.info96 rfl (by omega) (.slice so1 NN sc1) NN _ hL (.slice xa xl xc) (.int .i64 (-1 - (NN : Int))) rfl rfl (by omega)
              have bxr : Bx wr.drew A (.slice lo2 (n + p) lc2) (.slice so1 NN sc1) (.slice oo p oc) (.slice (some ⟨tg, 0, none⟩) r tc) k u ks us := hB1.kept HJ.out.2.drew nA
              have nL : A ∉ (Value.slice so1 NN sc1).ownBlock.toList := own_ty bxr (by decide) hL
              have hb1 := bxr.kept k1 nL
              obtain ⟨-, hcA, -, hcB, -⟩ := (bxr.kept ((Kept.refl [] wr.drew).alloc (.cells #[.slice xa xl xc, .int .i64 (-1 - (NN : Int))] 96)) (by simp)).cells
              have hcC : (wr.alloc (.cells #[.slice xa xl xc, .int .i64 (-1 - (NN : Int))] 96)).cell? ⟨A, 1, none⟩ = some (.slice so1 NN sc1) := hcA
              obtain ⟨-, c4, -, c5, -⟩ := hb1.cells
              have f1 := hb1.fz 1
              have MN : Hid (Mk2 w0 (w1.setCell ⟨A, 1, none⟩ (.slice bo (NN + 1) bc)) A (.slice lo2 (n + p) lc2) (.slice oo p oc) (.slice (some ⟨tg, 0, none⟩) r tc) k u ks us (.slice so q sc) q r (x + 1) (n + p) g ft (jn f fo n)) := Hid.mk (by
                have ef := HE.out
                have hy1 : wr.drew.ownsRow 0 63 2 (sl (ft x)) (ft x).l (spc (List.replicate (ft x).l (mkS (q + x), 0))) := by rw [ef, eN]; exact HY.out
                have hj1 : Kept (blk (ft x)) w2 wr.drew := by rw [ef]; exact HJ.out.2.drew
                have es : sl (ft x) = .slice xa xl xc := by rw [ef]; rfl
                rw [← es] at h1
                rw [← eN] at h1 k1 li2 ⊢
                exact Mk2.next HI.out HB1.out HX.out.1 HX.out.2 hlt HD3.out.1 HD3.out.2 hj1 hy1 h1 k1 li2)
              clear hco hyz hys hH1 hB1 dl hL bxr nL hb1 h1 k1 li2 lys
              go_wp2_with (fail)
              go_region_law (refine step_app rfl _ _ 26 rfl _ _ _ _ rfl rfl hrun ?_)
              all_goals focus
                clear hrun c0 c1 c3 c4 c5 f1 hcA hcB hcC l0
                go_wp2
                go_roundw
                case rel => exact ⟨x + 1, by omega, by go_num, MN⟩
                case measure => simp [intOf]; omega
        · obtain rfl : r = x := by omega
          have f2 := b1.fz 2
          have b2 := b1.so (.slice none 0 0)
          have f3 := b2.fz 3
          have b3 := b2.st (.slice none 0 0)
          have HB3 := Hid.mk b3
          have kA : Kept [A] w2 ((w2.setCell ⟨A, 2, none⟩ (.slice none 0 0)).setCell ⟨A, 3, none⟩ (.slice none 0 0)) := (setA_kept _ _ _ _).trans (setA_kept _ _ _ _)
          have far : ∀ {e s m : Nat} {V : Value} {xs : List Value}, w2.ownsRow 0 e s V m xs → e ≠ 32 → ∀ b, V.ownBlock = some b → b ∉ [A] := fun hr he b hb hm => by
            simp at hm
            subst hm
            exact own_ty b1 (fun q => he q.symm) hr (by simp [hb])
          have hsB : Rws 94 5 1 .u8 ctB ((w2.setCell ⟨A, 2, none⟩ (.slice none 0 0)).setCell ⟨A, 3, none⟩ (.slice none 0 0)) (.slice lo2 (n + p) lc2) (n + p) (jn f fo n) := HI.out.hs.rws.keep kA (far HI.out.hs.own (by decide)) (fun i hi => far (HI.out.hs.each i hi) (by decide))
          have ssB : Rws 96 63 2 .i64 ctS ((w2.setCell ⟨A, 2, none⟩ (.slice none 0 0)).setCell ⟨A, 3, none⟩ (.slice none 0 0)) (.slice so1 (q + r) sc1) (q + r) (jns g ft q) := hs1.rws.keep kA (far hs1.own (by decide)) (fun i hi => far (hs1.each i hi) (by decide))
          have HSB := Hid.mk hsB
          have SSB := Hid.mk ssB
          have KA := Hid.mk (HI.out.kept.step kA (fun b hb => by simp at hb; subst hb; simp))
          have LI1 := Hid.mk li1
          obtain ⟨w3, ew3⟩ : ∃ w3, (w2.setCell ⟨A, 2, none⟩ (.slice none 0 0)).setCell ⟨A, 3, none⟩ (.slice none 0 0) = w3 := ⟨_, rfl⟩
          rw [ew3] at HSB SSB KA HB3
          obtain ⟨N, eNN⟩ : ∃ N, n + p = N := ⟨_, rfl⟩
          obtain ⟨QQ, eQQ⟩ : ∃ QQ, q + r = QQ := ⟨_, rfl⟩
          rw [eNN, eQQ] at HB3
          rw [eNN] at HSB DJ
          rw [eQQ] at SSB DJS
          obtain ⟨c4, c5, -⟩ := HB3.out.cells
          clear hlt hx b1 hs1 li1 b2 b3 hsB ssB kA far
          go_wp2
          clear f2 f3 c0 c1 c2 c3 c4 c5 ew3
          go_loopw [12] (fun i wr => ∃ x : Nat, x ≤ p ∧ i = .int .i64 ((n + x : Nat) : Int) ∧ Hid (Gro 94 5 1 .u8 ctB w3 wr lo2 lc2 N n x 0 (jn f fo n))) (fun i _ => N - (intOf i).toNat)
          case atStart => exact ⟨0, by omega, rfl, Hid.mk (.inl ⟨rfl, rfl, rfl⟩)⟩
          case round =>
            obtain ⟨x, hx, rfl, HG⟩ := hrel
            by_cases hlt : x < p
            · obtain ⟨gg, F1, elo, hg1⟩ := HG.out.get HSB.out DJ.out (by omega)
              subst elo
              have H0 : Hid (∃ F, Grw 94 5 1 .u8 ctB w3 wr gg lc2 N n x 0 (jn f fo n) F) := Hid.mk ⟨F1, hg1⟩
              clear hg1 HG
              obtain ⟨J, eJ⟩ : ∃ J, n + x = J := ⟨_, rfl⟩
              have iJ : (J : Int) < (N : Int) := by omega
              rw [eJ]
              go_wp2
              go_loopw [13] (fun k wr => ∃ y : Nat, y ≤ 20 ∧ k = .int .i64 (y : Int) ∧ Hid (∃ F, Grw 94 5 1 .u8 ctB w3 wr gg lc2 N n x y (jn f fo n) F)) (fun k _ => 20 - (intOf k).toNat)
              case atStart => exact ⟨0, by omega, rfl, H0⟩
              case round =>
                obtain ⟨y, hy, rfl, HF⟩ := hrel
                obtain ⟨F, hF⟩ := HF.out
                by_cases hly : y < 20
                · have iy : (y : Int) < 20 := by omega
                  have hJN : J < N := by omega
                  have bxr : Bx wr A (.slice (some ⟨gg, 0, none⟩) N lc2) (.slice so1 QQ sc1) (.slice none 0 0) (.slice none 0 0) k u ks us := HB3.out.kept (Gro.kept (.inr ⟨gg, F, rfl, hF⟩)) (gks_box HSB.out HB3.out (by decide) (by decide))
                  obtain ⟨c0, -⟩ := bxr.cells
                  obtain ⟨g2, eg, hca⟩ := own_cellsN hF.rws.own (by omega)
                  cases eg
                  obtain ⟨l0, l1⟩ := hcs_cell .u8 F N J hJN
                  have c1 := hca _ _ l0
                  have c2 := hca _ _ l1
                  have hrow := hF.rws.each J hJN
                  have hln := hF.ln J hJN (by omega)
                  rw [if_neg (by omega), if_pos (by omega)] at hln
                  have hl9 : (jn f fo n J).l ≤ 999999000 := by rw [← eJ, jn_new]; exact HLN.out.1 x hlt
                  obtain ⟨⟨xa, xl, xc, xm⟩, efx⟩ : ∃ z, F J = z := ⟨_, rfl⟩
                  rw [efx] at c1 c2 hrow hln
                  simp only [sl] at c1 c2 hrow hln
                  obtain ⟨bo, bc, w1, hrun, h1, k1, li2⟩ := app1 wr.drew 29 5 1 _ Try.underlying29 Try.info5 rfl (.slice xa xl xc) xl _ (((Kept.refl [] wr).drew).row hrow (by simp)) (.int .u8 xm) rfl (by omega) (by omega)
                  have MN : Hid (∃ F, Grw 94 5 1 .u8 ctB w3 (w1.setCell ⟨gg, J * 2, none⟩ (.slice bo (xl + 1) bc)) gg lc2 N n x (y + 1) (jn f fo n) F) := Hid.mk (by
                    have hn := hF.next (w1 := w1) (by decide) (by omega) bo bc (by
                      rw [eJ, efx]
                      show w1.ownsRow 0 5 1 (.slice bo (xl + 1) bc) (xl + 1) (List.replicate (xl + 1) (.int .u8 xm))
                      rw [List.replicate_succ']
                      exact h1) (by rw [eJ, efx]; exact ((Kept.refl _ wr).drew).trans k1) (by rw [eJ, efx]; exact li2)
                    rw [eJ, efx] at hn
                    exact ⟨_, hn⟩)
                  have hL1 : w1.ownsRow 0 94 2 (.slice (some ⟨gg, 0, none⟩) N lc2) N (hcs .u8 F N) := (((Kept.refl _ wr).drew).trans k1).row hF.rws.own (own_two hF.rws.own hrow (by decide))
                  have bx1 := bxr.kept (((Kept.refl _ wr).drew).trans k1) (own_ty bxr (by decide) hrow)
                  obtain ⟨e0, -⟩ := bx1.cells
                  obtain ⟨g3, eg, hcb⟩ := own_cellsN hL1 (by omega)
                  cases eg
                  have e1 := hcb _ _ l0
                  have e2 := hcb _ _ l1
                  rw [efx] at e1 e2
                  simp only at e1 e2
                  have fz : w1.frozen? ⟨gg, J * 2, none⟩ = false := by
                    rcases hL1.2 with ⟨hz, _⟩ | ⟨G', cap, cur, hz, _, hg, _⟩
                    · cases hz
                    · simp only [Value.slice.injEq, Option.some.injEq, Addr.mk.injEq] at hz
                      obtain ⟨⟨rfl, -, -⟩, -, -⟩ := hz
                      have hg' : w1.heap[gg]? = some (.cells cur 94 (0, 0)) := hg
                      simp [World.frozen?, hg']
                  have a1 : (wr.alloc (.cells #[.int .u8 xm] 5)).cell? ⟨gg, J * 2, none⟩ = some (.slice xa xl xc) := by
                    rw [World.cell?_alloc_some _ _ _ (by rw [c1]; rfl)]; exact c1
                  have bx2 : Bx (w1.setCell ⟨gg, J * 2, none⟩ (.slice bo (xl + 1) bc)) A (.slice (some ⟨gg, 0, none⟩) N lc2) (.slice so1 QQ sc1) (.slice none 0 0) (.slice none 0 0) k u ks us := bx1.kept ((Kept.refl [gg] w1).setCell (.inl (by simp)) _) (fun hm => own_ty bx1 (by decide) hL1 (by simpa [Value.ownBlock] using hm))
                  obtain ⟨s0, -⟩ := bx2.cells
                  have s2 : (w1.setCell ⟨gg, J * 2, none⟩ (.slice bo (xl + 1) bc)).cell? ⟨gg, J * 2 + 1, none⟩ = some (.int .u8 xm) := by
                    obtain ⟨g4, eg, hcc⟩ := own_cellsN (own_setG hL1 (J * 2) (.slice bo (xl + 1) bc)) (by omega)
                    cases eg
                    refine hcc (J * 2 + 1) _ ?_
                    rw [List.getElem?_set_ne (by omega), l1, efx]
                  have nGA : gg ≠ A := fun e => own_ty bx1 (by decide) hL1 (by rw [← e]; simp [Value.ownBlock])
                  clear hca hcb hrow hln hl9 h1 k1 li2 hL1 bx1 bx2 bxr l0 l1 efx hF HF
                  have ED : Hid (wr.drew.cell? ⟨A, 0, none⟩ = some (.slice (some ⟨gg, 0, none⟩) N lc2) ∧ wr.drew.cell? ⟨gg, J * 2 + 1, none⟩ = some (.int .u8 xm)) := Hid.mk ⟨c0, c2⟩
                  have EA : Hid ((wr.drew.alloc (.cells #[.int .u8 xm] 5)).cell? ⟨A, 0, none⟩ = some (.slice (some ⟨gg, 0, none⟩) N lc2) ∧ (wr.drew.alloc (.cells #[.int .u8 xm] 5)).cell? ⟨gg, J * 2 + 1, none⟩ = some (.int .u8 xm)) := Hid.mk ⟨by rw [World.cell?_alloc_some _ _ _ (by show (wr.cell? _).isSome = true; rw [c0]; rfl)]; exact c0, by rw [World.cell?_alloc_some _ _ _ (by show (wr.cell? _).isSome = true; rw [c2]; rfl)]; exact c2⟩
                  have E1 : Hid (w1.cell? ⟨A, 0, none⟩ = some (.slice (some ⟨gg, 0, none⟩) N lc2) ∧ w1.cell? ⟨gg, J * 2 + 1, none⟩ = some (.int .u8 xm)) := Hid.mk ⟨e0, e2⟩
                  have ES : Hid ((w1.setCell ⟨gg, J * 2, none⟩ (.slice bo (xl + 1) bc)).cell? ⟨A, 0, none⟩ = some (.slice (some ⟨gg, 0, none⟩) N lc2) ∧ (w1.setCell ⟨gg, J * 2, none⟩ (.slice bo (xl + 1) bc)).cell? ⟨gg, J * 2 + 1, none⟩ = some (.int .u8 xm)) := Hid.mk ⟨s0, s2⟩
                  go_wp2_with (fail)
                  refine wp_region_held_drew (S := fun u => u.cell? ⟨A, 0, none⟩ = some (.slice (some ⟨gg, 0, none⟩) N lc2) ∧ u.cell? ⟨gg, J * 2 + 1, none⟩ = some (.int .u8 xm)) (by kernel_rfl) ED.out (fun hHeld => ?_)
                  refine wpAnyH_take (i := 0) (v := ?_) rfl (by kernel_rfl) (by kernel_rfl) (by kernel_rfl) (fun _ _ _ h => h) (Or.inl ⟨by rfl, ?_⟩) (by assumption) ?_
                  rotate_left
                  · intro w hSw
                    try dsimp only at hSw
                    go_simp
                    all_goals with_reducible rfl
                  simp only [Act.put, List.getElem_toArray, List.getElem_cons_zero, List.setIfInBounds_toArray, List.set_cons_zero, List.set_cons_succ]
                  refine wpAnyH_take (i := 1) (v := ?_) rfl (by kernel_rfl) (by kernel_rfl) (by kernel_rfl) (fun _ _ _ h => h) (Or.inl ⟨by rfl, ?_⟩) (by assumption) ?_
                  rotate_left
                  · intro w hSw
                    try dsimp only at hSw
                    go_simp
                    all_goals with_reducible rfl
                  simp only [Act.put, List.getElem_toArray, List.getElem_cons_zero, List.getElem_cons_succ, List.setIfInBounds_toArray, List.set_cons_zero, List.set_cons_succ]
                  refine wpAnyH_take (i := 2) (v := ?_) rfl (by kernel_rfl) (by kernel_rfl) (by kernel_rfl) (fun _ _ _ h => h) (Or.inl ⟨by rfl, ?_⟩) (by assumption) ?_
                  rotate_left
                  · intro w hSw
                    try dsimp only at hSw
                    go_simp
                    all_goals with_reducible rfl
                  simp only [Act.put, List.getElem_toArray, List.getElem_cons_zero, List.getElem_cons_succ, List.setIfInBounds_toArray, List.set_cons_zero, List.set_cons_succ]
                  refine wpAnyH_take (i := 3) (v := ?_) rfl (by kernel_rfl) (by kernel_rfl) (by kernel_rfl) (fun _ _ _ h => h) (Or.inl ⟨by rfl, ?_⟩) (by assumption) ?_
                  rotate_left
                  · intro w hSw
                    try dsimp only at hSw
                    go_simp
                    all_goals with_reducible rfl
                  simp only [Act.put, List.getElem_toArray, List.getElem_cons_zero, List.getElem_cons_succ, List.setIfInBounds_toArray, List.set_cons_zero, List.set_cons_succ]
                  refine wpAnyH_take (i := 4) (v := ?_) rfl (by kernel_rfl) (by kernel_rfl) (by kernel_rfl) (fun _ _ _ h => h) (Or.inl ⟨by rfl, ?_⟩) (by assumption) ?_
                  rotate_left
                  · intro w hSw
                    try dsimp only at hSw
                    go_simp
                    all_goals with_reducible rfl
                  simp only [Act.put, List.getElem_toArray, List.getElem_cons_zero, List.getElem_cons_succ, List.setIfInBounds_toArray, List.set_cons_zero, List.set_cons_succ]
                  refine wpAnyH_take (i := 5) (v := ?_) rfl (by kernel_rfl) (by kernel_rfl) (by kernel_rfl) (fun _ _ _ h => h) (Or.inl ⟨by rfl, ?_⟩) (by assumption) ?_
                  rotate_left
                  · intro w hSw
                    try dsimp only at hSw
                    go_simp
                    all_goals with_reducible rfl
                  simp only [Act.put, List.getElem_toArray, List.getElem_cons_zero, List.getElem_cons_succ, List.setIfInBounds_toArray, List.set_cons_zero, List.set_cons_succ]
                  refine wpAnyH_take (i := 6) (v := ?_) rfl (by kernel_rfl) (by kernel_rfl) (by kernel_rfl) (fun _ _ _ h => h) (Or.inl ⟨by rfl, ?_⟩) (by assumption) ?_
                  rotate_left
                  · intro w hSw
                    try dsimp only at hSw
                    go_simp
                    all_goals with_reducible rfl
                  simp only [Act.put, List.getElem_toArray, List.getElem_cons_zero, List.getElem_cons_succ, List.setIfInBounds_toArray, List.set_cons_zero, List.set_cons_succ]
                  refine wpAnyH_take (i := 7) (v := ?_) rfl (by kernel_rfl) (by kernel_rfl) (by kernel_rfl) (fun _ _ _ h => h) (Or.inl ⟨by rfl, ?_⟩) (by assumption) ?_
                  rotate_left
                  · intro w hSw
                    try dsimp only at hSw
                    go_simp
                    all_goals with_reducible rfl
                  simp only [Act.put, List.getElem_toArray, List.getElem_cons_zero, List.getElem_cons_succ, List.setIfInBounds_toArray, List.set_cons_zero, List.set_cons_succ]
                  refine wpAnyH_take (i := 8) (v := ?_) rfl (by kernel_rfl) (by kernel_rfl) (by kernel_rfl) (fun _ _ _ h => h) (Or.inl ⟨by rfl, ?_⟩) (by assumption) ?_
                  rotate_left
                  · intro w hSw
                    try dsimp only at hSw
                    go_simp
                    all_goals with_reducible rfl
                  simp only [Act.put, List.getElem_toArray, List.getElem_cons_zero, List.getElem_cons_succ, List.setIfInBounds_toArray, List.set_cons_zero, List.set_cons_succ]
                  refine wpAnyH_take (i := 9) (v := ?_) rfl (by kernel_rfl) (by kernel_rfl) (by kernel_rfl) (fun _ _ _ h => h) (Or.inl ⟨by rfl, ?_⟩) (by assumption) ?_
                  rotate_left
                  · intro w hSw
                    try dsimp only at hSw
                    go_simp
                    all_goals with_reducible rfl
                  simp only [Act.put, List.getElem_toArray, List.getElem_cons_zero, List.getElem_cons_succ, List.setIfInBounds_toArray, List.set_cons_zero, List.set_cons_succ]
                  refine wpAnyH_take (i := 10) (v := ?_) rfl (by kernel_rfl) (by kernel_rfl) (by kernel_rfl) (fun _ _ _ h => h) (Or.inl ⟨by rfl, ?_⟩) (by assumption) ?_
                  rotate_left
                  · intro w hSw
                    try dsimp only at hSw
                    go_simp
                    all_goals with_reducible rfl
                  simp only [Act.put, List.getElem_toArray, List.getElem_cons_zero, List.getElem_cons_succ, List.setIfInBounds_toArray, List.set_cons_zero, List.set_cons_succ]
                  refine wpAnyH_take (i := 11) (v := ?_) rfl (by kernel_rfl) (by kernel_rfl) (by kernel_rfl) (fun _ _ _ h => h) (Or.inl ⟨by rfl, ?_⟩) (by assumption) ?_
                  rotate_left
                  · intro w hSw
                    try dsimp only at hSw
                    go_simp
                    all_goals with_reducible rfl
                  simp only [Act.put, List.getElem_toArray, List.getElem_cons_zero, List.getElem_cons_succ, List.setIfInBounds_toArray, List.set_cons_zero, List.set_cons_succ]
                  refine wpAnyH_take (i := 13) (v := ?_) rfl (by kernel_rfl) (by kernel_rfl) (by kernel_rfl) (fun _ _ _ h => h) (Or.inl ⟨by rfl, ?_⟩) (by assumption) ?_
                  rotate_left
                  · intro w hSw
                    try dsimp only at hSw
                    go_simp
                    all_goals with_reducible rfl
                  simp only [Act.put, List.getElem_toArray, List.getElem_cons_zero, List.getElem_cons_succ, List.setIfInBounds_toArray, List.set_cons_zero, List.set_cons_succ]
                  refine wpAnyH_take (i := 14) (v := ?_) rfl (by kernel_rfl) (by kernel_rfl) (by kernel_rfl) (fun _ _ _ h => h) (Or.inl ⟨by rfl, ?_⟩) (by assumption) ?_
                  rotate_left
                  · intro w hSw
                    try dsimp only at hSw
                    go_simp
                    all_goals with_reducible rfl
                  simp only [Act.put, List.getElem_toArray, List.getElem_cons_zero, List.getElem_cons_succ, List.setIfInBounds_toArray, List.set_cons_zero, List.set_cons_succ]
                  refine wpAnyH_take (i := 15) (v := ?_) rfl (by kernel_rfl) (by kernel_rfl) (by kernel_rfl) (fun _ _ _ h => h) (Or.inl ⟨by rfl, ?_⟩) (by assumption) ?_
                  rotate_left
                  · intro w hSw
                    try dsimp only at hSw
                    go_simp
                    all_goals with_reducible rfl
                  simp only [Act.put, List.getElem_toArray, List.getElem_cons_zero, List.getElem_cons_succ, List.setIfInBounds_toArray, List.set_cons_zero, List.set_cons_succ]
                  refine wpAnyH_take (i := 16) (v := ?_) rfl (by kernel_rfl) (by kernel_rfl) (by kernel_rfl) (fun _ _ _ h => h) (Or.inl ⟨by rfl, ?_⟩) (by assumption) ?_
                  rotate_left
                  · intro w hSw
                    try dsimp only at hSw
                    go_simp
                    all_goals with_reducible rfl
                  simp only [Act.put, List.getElem_toArray, List.getElem_cons_zero, List.getElem_cons_succ, List.setIfInBounds_toArray, List.set_cons_zero, List.set_cons_succ]
                  refine wpAnyH_take (i := 17) (v := ?_) rfl (by kernel_rfl) (by kernel_rfl) (by kernel_rfl) (fun _ _ _ h => h) (Or.inl ⟨by rfl, ?_⟩) (by assumption) ?_
                  rotate_left
                  · intro w hSw
                    try dsimp only at hSw
                    go_simp
                    all_goals with_reducible rfl
                  simp only [Act.put, List.getElem_toArray, List.getElem_cons_zero, List.getElem_cons_succ, List.setIfInBounds_toArray, List.set_cons_zero, List.set_cons_succ]
                  refine wpAnyH_take (i := 18) (v := ?_) rfl (by kernel_rfl) (by kernel_rfl) (by kernel_rfl) (fun _ _ _ h => h) (Or.inl ⟨by rfl, ?_⟩) (by assumption) ?_
                  rotate_left
                  · intro w hSw
                    try dsimp only at hSw
                    go_simp
                    all_goals with_reducible rfl
                  simp only [Act.put, List.getElem_toArray, List.getElem_cons_zero, List.getElem_cons_succ, List.setIfInBounds_toArray, List.set_cons_zero, List.set_cons_succ]
                  refine wpAnyH_take (i := 19) (v := ?_) rfl (by kernel_rfl) (by kernel_rfl) (by kernel_rfl) (fun _ _ _ h => h) (Or.inl ⟨by rfl, ?_⟩) (by assumption) ?_
                  rotate_left
                  · intro w hSw
                    try dsimp only at hSw
                    go_simp
                    all_goals with_reducible rfl
                  simp only [Act.put, List.getElem_toArray, List.getElem_cons_zero, List.getElem_cons_succ, List.setIfInBounds_toArray, List.set_cons_zero, List.set_cons_succ]
                  refine wpAnyH_take (i := 20) (v := ?_) rfl (by kernel_rfl) (by kernel_rfl) (by kernel_rfl) (fun _ _ _ h => h) (Or.inl ⟨by rfl, ?_⟩) (by assumption) ?_
                  rotate_left
                  · intro w hSw
                    try dsimp only at hSw
                    go_simp
                    all_goals with_reducible rfl
                  simp only [Act.put, List.getElem_toArray, List.getElem_cons_zero, List.getElem_cons_succ, List.setIfInBounds_toArray, List.set_cons_zero, List.set_cons_succ]
                  refine wpAnyH_ready (rs := [12, 21]) (by kernel_rfl) (by simp) ?_
                  refine (AllReadyH.cons rfl (fun K9 hK9 => ?_) (AllReadyH.cons rfl (fun K9 hK9 => ?_) AllReadyH.nil))
                  · go_simp
                    refine hK9.out _ _ ED.out (fun hHeld2 => ?_)
                    clear hK9 K9
                    refine wpAnyH_ready (rs := [21]) (by kernel_rfl) (by simp) ?_
                    refine (AllReadyH.cons rfl (fun K9 hK9 => ?_) AllReadyH.nil)
                    go_simp
                    refine hK9.out _ _ EA.out (fun hHeld2 => ?_)
                    clear hK9 K9
                    refine wpAnyH_ready (rs := [22]) (by kernel_rfl) (by simp) ?_
                    refine (AllReadyH.cons rfl (fun K9 hK9 => ?_) AllReadyH.nil)
                    refine step_app rfl _ _ 29 rfl _ _ _ _ rfl rfl hrun ?_
                    simp only [Act.put, List.getElem_toArray, List.getElem_cons_zero, List.getElem_cons_succ, List.setIfInBounds_toArray, List.set_cons_zero, List.set_cons_succ]
                    refine hK9.out _ _ E1.out (fun hHeld2 => ?_)
                    clear hK9 K9
                    refine wpAnyH_take (i := 23) (v := ?_) rfl (by kernel_rfl) (by kernel_rfl) (by kernel_rfl) (fun _ _ _ h => h) (Or.inl ⟨by rfl, ?_⟩) (by assumption) ?_
                    rotate_left
                    · intro w hSw
                      try dsimp only at hSw
                      go_simp
                      all_goals with_reducible rfl
                    simp only [Act.put, List.getElem_toArray, List.getElem_cons_zero, List.getElem_cons_succ, List.setIfInBounds_toArray, List.set_cons_zero, List.set_cons_succ]
                    refine wpAnyH_take (i := 24) (v := ?_) rfl (by kernel_rfl) (by kernel_rfl) (by kernel_rfl) (fun _ _ _ h => h) (Or.inl ⟨by rfl, ?_⟩) (by assumption) ?_
                    rotate_left
                    · intro w hSw
                      try dsimp only at hSw
                      go_simp
                      all_goals with_reducible rfl
                    simp only [Act.put, List.getElem_toArray, List.getElem_cons_zero, List.getElem_cons_succ, List.setIfInBounds_toArray, List.set_cons_zero, List.set_cons_succ]
                    refine wpAnyH_ready (rs := [25]) (by kernel_rfl) (by simp) ?_
                    refine (AllReadyH.cons rfl (fun K9 hK9 => ?_) AllReadyH.nil)
                    go_simp
                    refine hK9.out _ _ ES.out (fun hHeld2 => ?_)
                    clear hK9 K9
                    refine wpAnyH_done (by kernel_rfl) ?_ _
                    clear hrun a1 c0 c1 c2 e0 e1 e2 s0 s2 fz ED EA E1 ES hHeld hHeld2
                    go_wp2
                    exact ⟨⟨y + 1, by omega, by go_num, MN⟩, by simp [intOf]; omega⟩
                  · go_simp
                    refine hK9.out _ _ EA.out (fun hHeld2 => ?_)
                    clear hK9 K9
                    refine wpAnyH_ready (rs := [12]) (by kernel_rfl) (by simp) ?_
                    refine (AllReadyH.cons rfl (fun K9 hK9 => ?_) AllReadyH.nil)
                    go_simp
                    refine hK9.out _ _ EA.out (fun hHeld2 => ?_)
                    clear hK9 K9
                    refine wpAnyH_ready (rs := [22]) (by kernel_rfl) (by simp) ?_
                    refine (AllReadyH.cons rfl (fun K9 hK9 => ?_) AllReadyH.nil)
                    refine step_app rfl _ _ 29 rfl _ _ _ _ rfl rfl hrun ?_
                    simp only [Act.put, List.getElem_toArray, List.getElem_cons_zero, List.getElem_cons_succ, List.setIfInBounds_toArray, List.set_cons_zero, List.set_cons_succ]
                    refine hK9.out _ _ E1.out (fun hHeld2 => ?_)
                    clear hK9 K9
                    refine wpAnyH_take (i := 23) (v := ?_) rfl (by kernel_rfl) (by kernel_rfl) (by kernel_rfl) (fun _ _ _ h => h) (Or.inl ⟨by rfl, ?_⟩) (by assumption) ?_
                    rotate_left
                    · intro w hSw
                      try dsimp only at hSw
                      go_simp
                      all_goals with_reducible rfl
                    simp only [Act.put, List.getElem_toArray, List.getElem_cons_zero, List.getElem_cons_succ, List.setIfInBounds_toArray, List.set_cons_zero, List.set_cons_succ]
                    refine wpAnyH_take (i := 24) (v := ?_) rfl (by kernel_rfl) (by kernel_rfl) (by kernel_rfl) (fun _ _ _ h => h) (Or.inl ⟨by rfl, ?_⟩) (by assumption) ?_
                    rotate_left
                    · intro w hSw
                      try dsimp only at hSw
                      go_simp
                      all_goals with_reducible rfl
                    simp only [Act.put, List.getElem_toArray, List.getElem_cons_zero, List.getElem_cons_succ, List.setIfInBounds_toArray, List.set_cons_zero, List.set_cons_succ]
                    refine wpAnyH_ready (rs := [25]) (by kernel_rfl) (by simp) ?_
                    refine (AllReadyH.cons rfl (fun K9 hK9 => ?_) AllReadyH.nil)
                    go_simp
                    refine hK9.out _ _ ES.out (fun hHeld2 => ?_)
                    clear hK9 K9
                    refine wpAnyH_done (by kernel_rfl) ?_ _
                    clear hrun a1 c0 c1 c2 e0 e1 e2 s0 s2 fz ED EA E1 ES hHeld hHeld2
                    go_wp2
                    exact ⟨⟨y + 1, by omega, by go_num, MN⟩, by simp [intOf]; omega⟩
                · obtain rfl : y = 20 := by omega
                  have HN : Hid (Gro 94 5 1 .u8 ctB w3 wr (some ⟨gg, 0, none⟩) lc2 N n (x + 1) 0 (jn f fo n)) := Hid.mk (.inr ⟨gg, F, rfl, hF.step⟩)
                  clear hF HF
                  go_wp2
                  go_roundw
                  case rel => exact ⟨x + 1, by omega, by first | go_num | (rw [← eJ]; go_num) | (congr 1; omega), HN⟩
                  case measure => simp [intOf]; omega
            · obtain rfl : p = x := by omega
              obtain ⟨F3, hF3, of3, lf3⟩ := Gro.done (n := n) (N := N) (wr := wr) (by omega) (by rw [show N - n = p by omega]; exact HG.out) HSB.out
              have kG := HG.out.kept
              have HB4 : Hid (Bx wr A (.slice lo2 N lc2) (.slice so1 QQ sc1) (.slice none 0 0) (.slice none 0 0) k u ks us) := Hid.mk (HB3.out.kept kG (gks_box HSB.out HB3.out (by decide) (by decide)))
              have SSB4 : Hid (Rws 96 63 2 .i64 ctS wr (.slice so1 QQ sc1) QQ (jns g ft q)) := Hid.mk (SSB.out.keep kG (gks_row HSB.out SSB.out.own (by decide) (by decide)) (fun i hi => gks_row HSB.out (SSB.out.each i hi) (by decide) (by decide)))
              have HSB4 := Hid.mk hF3
              have HF3 := Hid.mk (And.intro of3 lf3)
              have KG := Hid.mk kG
              obtain ⟨w4, rfl⟩ : ∃ w4, w4 = wr := ⟨_, rfl⟩
              obtain ⟨-, c5, -⟩ := HB4.out.cells
              have iN : ¬ (((n + p : Nat) : Int) < (N : Int)) := by omega
              clear hlt hx hF3 of3 lf3 kG HG
              go_wp2
              clear c5 iN
              go_loopw [14] (fun i wr => ∃ x : Nat, x ≤ r ∧ i = .int .i64 ((q + x : Nat) : Int) ∧ Hid (Gro 96 63 2 .i64 ctS w4 wr so1 sc1 QQ q x 0 (jns g ft q))) (fun i _ => QQ - (intOf i).toNat)
              case atStart => exact ⟨0, by omega, rfl, Hid.mk (.inl ⟨rfl, rfl, rfl⟩)⟩
              case round =>
                obtain ⟨x, hx, rfl, HG⟩ := hrel
                by_cases hlt : x < r
                · obtain ⟨gg, F1, elo, hg1⟩ := HG.out.get SSB4.out DJS.out (by omega)
                  subst elo
                  have H0 : Hid (∃ F, Grw 96 63 2 .i64 ctS w4 wr gg sc1 QQ q x 0 (jns g ft q) F) := Hid.mk ⟨F1, hg1⟩
                  clear hg1 HG
                  obtain ⟨J, eJ⟩ : ∃ J, q + x = J := ⟨_, rfl⟩
                  have iJ : (J : Int) < (QQ : Int) := by omega
                  rw [eJ]
                  go_wp2
                  go_loopw [15] (fun k wr => ∃ y : Nat, y ≤ 20 ∧ k = .int .i64 (y : Int) ∧ Hid (∃ F, Grw 96 63 2 .i64 ctS w4 wr gg sc1 QQ q x y (jns g ft q) F)) (fun k _ => 20 - (intOf k).toNat)
                  case atStart => exact ⟨0, by omega, rfl, H0⟩
                  case round =>
                    obtain ⟨y, hy, rfl, HF⟩ := hrel
                    obtain ⟨F, hF⟩ := HF.out
                    by_cases hly : y < 20
                    · have iy : (y : Int) < 20 := by omega
                      have hJN : J < QQ := by omega
                      have bxr : Bx wr A (.slice lo2 N lc2) (.slice (some ⟨gg, 0, none⟩) QQ sc1) (.slice none 0 0) (.slice none 0 0) k u ks us := HB4.out.kept (Gro.kept (.inr ⟨gg, F, rfl, hF⟩)) (gks_box SSB4.out HB4.out (by decide) (by decide))
                      obtain ⟨-, c0, -⟩ := bxr.cells
                      obtain ⟨g2, eg, hca⟩ := own_cellsN hF.rws.own (by omega)
                      cases eg
                      obtain ⟨l0, l1⟩ := hcs_cell .i64 F QQ J hJN
                      have c1 := hca _ _ l0
                      have c2 := hca _ _ l1
                      have hrow := hF.rws.each J hJN
                      have hln := hF.ln J hJN (by omega)
                      rw [if_neg (by omega), if_pos (by omega)] at hln
                      have hl9 : (jns g ft q J).l ≤ 6000000000000 := by rw [← eJ, jns_new]; exact HLN.out.2.1 x hlt
                      obtain ⟨⟨xa, xl, xc, xm⟩, efx⟩ : ∃ z, F J = z := ⟨_, rfl⟩
                      rw [efx] at c1 c2 hrow hln
                      simp only [sl] at c1 c2 hrow hln
                      obtain ⟨bo, bc, w1, hrun, h1, k1, li2⟩ := app2w wr.drew 30 30 63 16 _ Try.underlying30 Try.info63 rfl (by omega) (.slice xa xl xc) xl _ (((Kept.refl [] wr).drew).row hrow (by simp)) (.int .i64 xm) (.int .i64 0) rfl rfl (by omega)
                      have MN : Hid (∃ F, Grw 96 63 2 .i64 ctS w4 (w1.setCell ⟨gg, J * 2, none⟩ (.slice bo (xl + 1) bc)) gg sc1 QQ q x (y + 1) (jns g ft q) F) := Hid.mk (by
                        have hn := hF.next (w1 := w1) (by decide) (by omega) bo bc (by
                          rw [eJ, efx]
                          show w1.ownsRow 0 63 2 (.slice bo (xl + 1) bc) (xl + 1) (spc (List.replicate (xl + 1) (xm, 0)))
                          rw [List.replicate_succ', spc_append, spc_one]
                          exact h1) (by rw [eJ, efx]; exact ((Kept.refl _ wr).drew).trans k1) (by rw [eJ, efx]; exact li2)
                        rw [eJ, efx] at hn
                        exact ⟨_, hn⟩)
                      have hL1 : w1.ownsRow 0 96 2 (.slice (some ⟨gg, 0, none⟩) QQ sc1) QQ (hcs .i64 F QQ) := (((Kept.refl _ wr).drew).trans k1).row hF.rws.own (own_two hF.rws.own hrow (by decide))
                      have bx1 := bxr.kept (((Kept.refl _ wr).drew).trans k1) (own_ty bxr (by decide) hrow)
                      obtain ⟨-, e0, -⟩ := bx1.cells
                      obtain ⟨g3, eg, hcb⟩ := own_cellsN hL1 (by omega)
                      cases eg
                      have e1 := hcb _ _ l0
                      have e2 := hcb _ _ l1
                      rw [efx] at e1 e2
                      simp only at e1 e2
                      have fz : w1.frozen? ⟨gg, J * 2, none⟩ = false := by
                        rcases hL1.2 with ⟨hz, _⟩ | ⟨G', cap, cur, hz, _, hg, _⟩
                        · cases hz
                        · simp only [Value.slice.injEq, Option.some.injEq, Addr.mk.injEq] at hz
                          obtain ⟨⟨rfl, -, -⟩, -, -⟩ := hz
                          have hg' : w1.heap[gg]? = some (.cells cur 96 (0, 0)) := hg
                          simp [World.frozen?, hg']
                      have a1 : (wr.alloc (.cells #[.int .i64 xm, .int .i64 0] 63)).cell? ⟨gg, J * 2, none⟩ = some (.slice xa xl xc) := by
                        rw [World.cell?_alloc_some _ _ _ (by rw [c1]; rfl)]; exact c1
                      have bx2 : Bx (w1.setCell ⟨gg, J * 2, none⟩ (.slice bo (xl + 1) bc)) A (.slice lo2 N lc2) (.slice (some ⟨gg, 0, none⟩) QQ sc1) (.slice none 0 0) (.slice none 0 0) k u ks us := bx1.kept ((Kept.refl [gg] w1).setCell (.inl (by simp)) _) (fun hm => own_ty bx1 (by decide) hL1 (by simpa [Value.ownBlock] using hm))
                      obtain ⟨-, s0, -⟩ := bx2.cells
                      have s2 : (w1.setCell ⟨gg, J * 2, none⟩ (.slice bo (xl + 1) bc)).cell? ⟨gg, J * 2 + 1, none⟩ = some (.int .i64 xm) := by
                        obtain ⟨g4, eg, hcc⟩ := own_cellsN (own_setG hL1 (J * 2) (.slice bo (xl + 1) bc)) (by omega)
                        cases eg
                        refine hcc (J * 2 + 1) _ ?_
                        rw [List.getElem?_set_ne (by omega), l1, efx]
                      have nGA : gg ≠ A := fun e => own_ty bx1 (by decide) hL1 (by rw [← e]; simp [Value.ownBlock])
                      clear hca hcb hrow hln hl9 h1 k1 li2 hL1 bx1 bx2 bxr l0 l1 efx hF HF
                      have ED : Hid (wr.drew.cell? ⟨A, 1, none⟩ = some (.slice (some ⟨gg, 0, none⟩) QQ sc1) ∧ wr.drew.cell? ⟨gg, J * 2 + 1, none⟩ = some (.int .i64 xm)) := Hid.mk ⟨c0, c2⟩
                      have EA : Hid ((wr.drew.alloc (.cells #[.int .i64 xm, .int .i64 0] 63)).cell? ⟨A, 1, none⟩ = some (.slice (some ⟨gg, 0, none⟩) QQ sc1) ∧ (wr.drew.alloc (.cells #[.int .i64 xm, .int .i64 0] 63)).cell? ⟨gg, J * 2 + 1, none⟩ = some (.int .i64 xm)) := Hid.mk ⟨by rw [World.cell?_alloc_some _ _ _ (by show (wr.cell? _).isSome = true; rw [c0]; rfl)]; exact c0, by rw [World.cell?_alloc_some _ _ _ (by show (wr.cell? _).isSome = true; rw [c2]; rfl)]; exact c2⟩
                      have E1 : Hid (w1.cell? ⟨A, 1, none⟩ = some (.slice (some ⟨gg, 0, none⟩) QQ sc1) ∧ w1.cell? ⟨gg, J * 2 + 1, none⟩ = some (.int .i64 xm)) := Hid.mk ⟨e0, e2⟩
                      have ES : Hid ((w1.setCell ⟨gg, J * 2, none⟩ (.slice bo (xl + 1) bc)).cell? ⟨A, 1, none⟩ = some (.slice (some ⟨gg, 0, none⟩) QQ sc1) ∧ (w1.setCell ⟨gg, J * 2, none⟩ (.slice bo (xl + 1) bc)).cell? ⟨gg, J * 2 + 1, none⟩ = some (.int .i64 xm)) := Hid.mk ⟨s0, s2⟩
                      go_wp2_with (fail)
                      refine wp_region_held_drew (S := fun u => u.cell? ⟨A, 1, none⟩ = some (.slice (some ⟨gg, 0, none⟩) QQ sc1) ∧ u.cell? ⟨gg, J * 2 + 1, none⟩ = some (.int .i64 xm)) (by kernel_rfl) ED.out (fun hHeld => ?_)
                      refine wpAnyH_take (i := 0) (v := ?_) rfl (by kernel_rfl) (by kernel_rfl) (by kernel_rfl) (fun _ _ _ h => h) (Or.inl ⟨by rfl, ?_⟩) (by assumption) ?_
                      rotate_left
                      · intro w hSw
                        try dsimp only at hSw
                        go_simp
                        all_goals with_reducible rfl
                      simp only [Act.put, List.getElem_toArray, List.getElem_cons_zero, List.setIfInBounds_toArray, List.set_cons_zero, List.set_cons_succ]
                      refine wpAnyH_take (i := 1) (v := ?_) rfl (by kernel_rfl) (by kernel_rfl) (by kernel_rfl) (fun _ _ _ h => h) (Or.inl ⟨by rfl, ?_⟩) (by assumption) ?_
                      rotate_left
                      · intro w hSw
                        try dsimp only at hSw
                        go_simp
                        all_goals with_reducible rfl
                      simp only [Act.put, List.getElem_toArray, List.getElem_cons_zero, List.getElem_cons_succ, List.setIfInBounds_toArray, List.set_cons_zero, List.set_cons_succ]
                      refine wpAnyH_take (i := 2) (v := ?_) rfl (by kernel_rfl) (by kernel_rfl) (by kernel_rfl) (fun _ _ _ h => h) (Or.inl ⟨by rfl, ?_⟩) (by assumption) ?_
                      rotate_left
                      · intro w hSw
                        try dsimp only at hSw
                        go_simp
                        all_goals with_reducible rfl
                      simp only [Act.put, List.getElem_toArray, List.getElem_cons_zero, List.getElem_cons_succ, List.setIfInBounds_toArray, List.set_cons_zero, List.set_cons_succ]
                      refine wpAnyH_take (i := 3) (v := ?_) rfl (by kernel_rfl) (by kernel_rfl) (by kernel_rfl) (fun _ _ _ h => h) (Or.inl ⟨by rfl, ?_⟩) (by assumption) ?_
                      rotate_left
                      · intro w hSw
                        try dsimp only at hSw
                        go_simp
                        all_goals with_reducible rfl
                      simp only [Act.put, List.getElem_toArray, List.getElem_cons_zero, List.getElem_cons_succ, List.setIfInBounds_toArray, List.set_cons_zero, List.set_cons_succ]
                      refine wpAnyH_take (i := 4) (v := ?_) rfl (by kernel_rfl) (by kernel_rfl) (by kernel_rfl) (fun _ _ _ h => h) (Or.inl ⟨by rfl, ?_⟩) (by assumption) ?_
                      rotate_left
                      · intro w hSw
                        try dsimp only at hSw
                        go_simp
                        all_goals with_reducible rfl
                      simp only [Act.put, List.getElem_toArray, List.getElem_cons_zero, List.getElem_cons_succ, List.setIfInBounds_toArray, List.set_cons_zero, List.set_cons_succ]
                      refine wpAnyH_take (i := 5) (v := ?_) rfl (by kernel_rfl) (by kernel_rfl) (by kernel_rfl) (fun _ _ _ h => h) (Or.inl ⟨by rfl, ?_⟩) (by assumption) ?_
                      rotate_left
                      · intro w hSw
                        try dsimp only at hSw
                        go_simp
                        all_goals with_reducible rfl
                      simp only [Act.put, List.getElem_toArray, List.getElem_cons_zero, List.getElem_cons_succ, List.setIfInBounds_toArray, List.set_cons_zero, List.set_cons_succ]
                      refine wpAnyH_take (i := 6) (v := ?_) rfl (by kernel_rfl) (by kernel_rfl) (by kernel_rfl) (fun _ _ _ h => h) (Or.inl ⟨by rfl, ?_⟩) (by assumption) ?_
                      rotate_left
                      · intro w hSw
                        try dsimp only at hSw
                        go_simp
                        all_goals with_reducible rfl
                      simp only [Act.put, List.getElem_toArray, List.getElem_cons_zero, List.getElem_cons_succ, List.setIfInBounds_toArray, List.set_cons_zero, List.set_cons_succ]
                      refine wpAnyH_take (i := 7) (v := ?_) rfl (by kernel_rfl) (by kernel_rfl) (by kernel_rfl) (fun _ _ _ h => h) (Or.inl ⟨by rfl, ?_⟩) (by assumption) ?_
                      rotate_left
                      · intro w hSw
                        try dsimp only at hSw
                        go_simp
                        all_goals with_reducible rfl
                      simp only [Act.put, List.getElem_toArray, List.getElem_cons_zero, List.getElem_cons_succ, List.setIfInBounds_toArray, List.set_cons_zero, List.set_cons_succ]
                      refine wpAnyH_take (i := 8) (v := ?_) rfl (by kernel_rfl) (by kernel_rfl) (by kernel_rfl) (fun _ _ _ h => h) (Or.inl ⟨by rfl, ?_⟩) (by assumption) ?_
                      rotate_left
                      · intro w hSw
                        try dsimp only at hSw
                        go_simp
                        all_goals with_reducible rfl
                      simp only [Act.put, List.getElem_toArray, List.getElem_cons_zero, List.getElem_cons_succ, List.setIfInBounds_toArray, List.set_cons_zero, List.set_cons_succ]
                      refine wpAnyH_take (i := 9) (v := ?_) rfl (by kernel_rfl) (by kernel_rfl) (by kernel_rfl) (fun _ _ _ h => h) (Or.inl ⟨by rfl, ?_⟩) (by assumption) ?_
                      rotate_left
                      · intro w hSw
                        try dsimp only at hSw
                        go_simp
                        all_goals with_reducible rfl
                      simp only [Act.put, List.getElem_toArray, List.getElem_cons_zero, List.getElem_cons_succ, List.setIfInBounds_toArray, List.set_cons_zero, List.set_cons_succ]
                      refine wpAnyH_take (i := 10) (v := ?_) rfl (by kernel_rfl) (by kernel_rfl) (by kernel_rfl) (fun _ _ _ h => h) (Or.inl ⟨by rfl, ?_⟩) (by assumption) ?_
                      rotate_left
                      · intro w hSw
                        try dsimp only at hSw
                        go_simp
                        all_goals with_reducible rfl
                      simp only [Act.put, List.getElem_toArray, List.getElem_cons_zero, List.getElem_cons_succ, List.setIfInBounds_toArray, List.set_cons_zero, List.set_cons_succ]
                      refine wpAnyH_take (i := 11) (v := ?_) rfl (by kernel_rfl) (by kernel_rfl) (by kernel_rfl) (fun _ _ _ h => h) (Or.inl ⟨by rfl, ?_⟩) (by assumption) ?_
                      rotate_left
                      · intro w hSw
                        try dsimp only at hSw
                        go_simp
                        all_goals with_reducible rfl
                      simp only [Act.put, List.getElem_toArray, List.getElem_cons_zero, List.getElem_cons_succ, List.setIfInBounds_toArray, List.set_cons_zero, List.set_cons_succ]
                      refine wpAnyH_take (i := 13) (v := ?_) rfl (by kernel_rfl) (by kernel_rfl) (by kernel_rfl) (fun _ _ _ h => h) (Or.inl ⟨by rfl, ?_⟩) (by assumption) ?_
                      rotate_left
                      · intro w hSw
                        try dsimp only at hSw
                        go_simp
                        all_goals with_reducible rfl
                      simp only [Act.put, List.getElem_toArray, List.getElem_cons_zero, List.getElem_cons_succ, List.setIfInBounds_toArray, List.set_cons_zero, List.set_cons_succ]
                      refine wpAnyH_take (i := 14) (v := ?_) rfl (by kernel_rfl) (by kernel_rfl) (by kernel_rfl) (fun _ _ _ h => h) (Or.inl ⟨by rfl, ?_⟩) (by assumption) ?_
                      rotate_left
                      · intro w hSw
                        try dsimp only at hSw
                        go_simp
                        all_goals with_reducible rfl
                      simp only [Act.put, List.getElem_toArray, List.getElem_cons_zero, List.getElem_cons_succ, List.setIfInBounds_toArray, List.set_cons_zero, List.set_cons_succ]
                      refine wpAnyH_take (i := 15) (v := ?_) rfl (by kernel_rfl) (by kernel_rfl) (by kernel_rfl) (fun _ _ _ h => h) (Or.inl ⟨by rfl, ?_⟩) (by assumption) ?_
                      rotate_left
                      · intro w hSw
                        try dsimp only at hSw
                        go_simp
                        all_goals with_reducible rfl
                      simp only [Act.put, List.getElem_toArray, List.getElem_cons_zero, List.getElem_cons_succ, List.setIfInBounds_toArray, List.set_cons_zero, List.set_cons_succ]
                      refine wpAnyH_take (i := 16) (v := ?_) rfl (by kernel_rfl) (by kernel_rfl) (by kernel_rfl) (fun _ _ _ h => h) (Or.inl ⟨by rfl, ?_⟩) (by assumption) ?_
                      rotate_left
                      · intro w hSw
                        try dsimp only at hSw
                        go_simp
                        all_goals with_reducible rfl
                      simp only [Act.put, List.getElem_toArray, List.getElem_cons_zero, List.getElem_cons_succ, List.setIfInBounds_toArray, List.set_cons_zero, List.set_cons_succ]
                      refine wpAnyH_take (i := 17) (v := ?_) rfl (by kernel_rfl) (by kernel_rfl) (by kernel_rfl) (fun _ _ _ h => h) (Or.inl ⟨by rfl, ?_⟩) (by assumption) ?_
                      rotate_left
                      · intro w hSw
                        try dsimp only at hSw
                        go_simp
                        all_goals with_reducible rfl
                      simp only [Act.put, List.getElem_toArray, List.getElem_cons_zero, List.getElem_cons_succ, List.setIfInBounds_toArray, List.set_cons_zero, List.set_cons_succ]
                      refine wpAnyH_take (i := 18) (v := ?_) rfl (by kernel_rfl) (by kernel_rfl) (by kernel_rfl) (fun _ _ _ h => h) (Or.inl ⟨by rfl, ?_⟩) (by assumption) ?_
                      rotate_left
                      · intro w hSw
                        try dsimp only at hSw
                        go_simp
                        all_goals with_reducible rfl
                      simp only [Act.put, List.getElem_toArray, List.getElem_cons_zero, List.getElem_cons_succ, List.setIfInBounds_toArray, List.set_cons_zero, List.set_cons_succ]
                      refine wpAnyH_take (i := 19) (v := ?_) rfl (by kernel_rfl) (by kernel_rfl) (by kernel_rfl) (fun _ _ _ h => h) (Or.inl ⟨by rfl, ?_⟩) (by assumption) ?_
                      rotate_left
                      · intro w hSw
                        try dsimp only at hSw
                        go_simp
                        all_goals with_reducible rfl
                      simp only [Act.put, List.getElem_toArray, List.getElem_cons_zero, List.getElem_cons_succ, List.setIfInBounds_toArray, List.set_cons_zero, List.set_cons_succ]
                      refine wpAnyH_take (i := 20) (v := ?_) rfl (by kernel_rfl) (by kernel_rfl) (by kernel_rfl) (fun _ _ _ h => h) (Or.inl ⟨by rfl, ?_⟩) (by assumption) ?_
                      rotate_left
                      · intro w hSw
                        try dsimp only at hSw
                        go_simp
                        all_goals with_reducible rfl
                      simp only [Act.put, List.getElem_toArray, List.getElem_cons_zero, List.getElem_cons_succ, List.setIfInBounds_toArray, List.set_cons_zero, List.set_cons_succ]
                      refine wpAnyH_take (i := 21) (v := ?_) rfl (by kernel_rfl) (by kernel_rfl) (by kernel_rfl) (fun _ _ _ h => h) (Or.inl ⟨by rfl, ?_⟩) (by assumption) ?_
                      rotate_left
                      · intro w hSw
                        try dsimp only at hSw
                        go_simp
                        all_goals with_reducible rfl
                      simp only [Act.put, List.getElem_toArray, List.getElem_cons_zero, List.getElem_cons_succ, List.setIfInBounds_toArray, List.set_cons_zero, List.set_cons_succ]
                      refine wpAnyH_ready (rs := [12, 22]) (by kernel_rfl) (by simp) ?_
                      refine (AllReadyH.cons rfl (fun K9 hK9 => ?_) (AllReadyH.cons rfl (fun K9 hK9 => ?_) AllReadyH.nil))
                      · go_simp
                        refine hK9.out _ _ ED.out (fun hHeld2 => ?_)
                        clear hK9 K9
                        refine wpAnyH_ready (rs := [22]) (by kernel_rfl) (by simp) ?_
                        refine (AllReadyH.cons rfl (fun K9 hK9 => ?_) AllReadyH.nil)
                        go_simp
                        refine hK9.out _ _ EA.out (fun hHeld2 => ?_)
                        clear hK9 K9
                        refine wpAnyH_ready (rs := [23]) (by kernel_rfl) (by simp) ?_
                        refine (AllReadyH.cons rfl (fun K9 hK9 => ?_) AllReadyH.nil)
                        refine step_app rfl _ _ 30 rfl _ _ _ _ rfl rfl hrun ?_
                        simp only [Act.put, List.getElem_toArray, List.getElem_cons_zero, List.getElem_cons_succ, List.setIfInBounds_toArray, List.set_cons_zero, List.set_cons_succ]
                        refine hK9.out _ _ E1.out (fun hHeld2 => ?_)
                        clear hK9 K9
                        refine wpAnyH_take (i := 24) (v := ?_) rfl (by kernel_rfl) (by kernel_rfl) (by kernel_rfl) (fun _ _ _ h => h) (Or.inl ⟨by rfl, ?_⟩) (by assumption) ?_
                        rotate_left
                        · intro w hSw
                          try dsimp only at hSw
                          go_simp
                          all_goals with_reducible rfl
                        simp only [Act.put, List.getElem_toArray, List.getElem_cons_zero, List.getElem_cons_succ, List.setIfInBounds_toArray, List.set_cons_zero, List.set_cons_succ]
                        refine wpAnyH_take (i := 25) (v := ?_) rfl (by kernel_rfl) (by kernel_rfl) (by kernel_rfl) (fun _ _ _ h => h) (Or.inl ⟨by rfl, ?_⟩) (by assumption) ?_
                        rotate_left
                        · intro w hSw
                          try dsimp only at hSw
                          go_simp
                          all_goals with_reducible rfl
                        simp only [Act.put, List.getElem_toArray, List.getElem_cons_zero, List.getElem_cons_succ, List.setIfInBounds_toArray, List.set_cons_zero, List.set_cons_succ]
                        refine wpAnyH_ready (rs := [26]) (by kernel_rfl) (by simp) ?_
                        refine (AllReadyH.cons rfl (fun K9 hK9 => ?_) AllReadyH.nil)
                        go_simp
                        refine hK9.out _ _ ES.out (fun hHeld2 => ?_)
                        clear hK9 K9
                        refine wpAnyH_done (by kernel_rfl) ?_ _
                        clear hrun a1 c0 c1 c2 e0 e1 e2 s0 s2 fz ED EA E1 ES hHeld hHeld2
                        go_wp2
                        exact ⟨⟨y + 1, by omega, by go_num, MN⟩, by simp [intOf]; omega⟩
                      · go_simp
                        refine hK9.out _ _ EA.out (fun hHeld2 => ?_)
                        clear hK9 K9
                        refine wpAnyH_ready (rs := [12]) (by kernel_rfl) (by simp) ?_
                        refine (AllReadyH.cons rfl (fun K9 hK9 => ?_) AllReadyH.nil)
                        go_simp
                        refine hK9.out _ _ EA.out (fun hHeld2 => ?_)
                        clear hK9 K9
                        refine wpAnyH_ready (rs := [23]) (by kernel_rfl) (by simp) ?_
                        refine (AllReadyH.cons rfl (fun K9 hK9 => ?_) AllReadyH.nil)
                        refine step_app rfl _ _ 30 rfl _ _ _ _ rfl rfl hrun ?_
                        simp only [Act.put, List.getElem_toArray, List.getElem_cons_zero, List.getElem_cons_succ, List.setIfInBounds_toArray, List.set_cons_zero, List.set_cons_succ]
                        refine hK9.out _ _ E1.out (fun hHeld2 => ?_)
                        clear hK9 K9
                        refine wpAnyH_take (i := 24) (v := ?_) rfl (by kernel_rfl) (by kernel_rfl) (by kernel_rfl) (fun _ _ _ h => h) (Or.inl ⟨by rfl, ?_⟩) (by assumption) ?_
                        rotate_left
                        · intro w hSw
                          try dsimp only at hSw
                          go_simp
                          all_goals with_reducible rfl
                        simp only [Act.put, List.getElem_toArray, List.getElem_cons_zero, List.getElem_cons_succ, List.setIfInBounds_toArray, List.set_cons_zero, List.set_cons_succ]
                        refine wpAnyH_take (i := 25) (v := ?_) rfl (by kernel_rfl) (by kernel_rfl) (by kernel_rfl) (fun _ _ _ h => h) (Or.inl ⟨by rfl, ?_⟩) (by assumption) ?_
                        rotate_left
                        · intro w hSw
                          try dsimp only at hSw
                          go_simp
                          all_goals with_reducible rfl
                        simp only [Act.put, List.getElem_toArray, List.getElem_cons_zero, List.getElem_cons_succ, List.setIfInBounds_toArray, List.set_cons_zero, List.set_cons_succ]
                        refine wpAnyH_ready (rs := [26]) (by kernel_rfl) (by simp) ?_
                        refine (AllReadyH.cons rfl (fun K9 hK9 => ?_) AllReadyH.nil)
                        go_simp
                        refine hK9.out _ _ ES.out (fun hHeld2 => ?_)
                        clear hK9 K9
                        refine wpAnyH_done (by kernel_rfl) ?_ _
                        clear hrun a1 c0 c1 c2 e0 e1 e2 s0 s2 fz ED EA E1 ES hHeld hHeld2
                        go_wp2
                        exact ⟨⟨y + 1, by omega, by go_num, MN⟩, by simp [intOf]; omega⟩
                    · obtain rfl : y = 20 := by omega
                      have HN : Hid (Gro 96 63 2 .i64 ctS w4 wr (some ⟨gg, 0, none⟩) sc1 QQ q (x + 1) 0 (jns g ft q)) := Hid.mk (.inr ⟨gg, F, rfl, hF.step⟩)
                      clear hF HF
                      go_wp2
                      go_roundw
                      case rel => exact ⟨x + 1, by omega, by first | go_num | (rw [← eJ]; go_num) | (congr 1; omega), HN⟩
                      case measure => simp [intOf]; omega
                · obtain rfl : r = x := by omega
                  obtain ⟨G4, hG4, og4, lg4⟩ := Gro.done (n := q) (N := QQ) (wr := wr) (by omega) (by rw [show QQ - q = r by omega]; exact HG.out) SSB4.out
                  have kS := HG.out.kept
                  have b5 : Bx wr A (.slice lo2 N lc2) (.slice so1 QQ sc1) (.slice none 0 0) (.slice none 0 0) k u ks us := HB4.out.kept kS (gks_box SSB4.out HB4.out (by decide) (by decide))
                  have h5 : Rws 94 5 1 .u8 ctB wr (.slice lo2 N lc2) N F3 := HSB4.out.keep kS (gks_row SSB4.out HSB4.out.own (by decide) (by decide)) (fun i hi => gks_row SSB4.out (HSB4.out.each i hi) (by decide) (by decide))
                  have C9 := Hid.mk (looks_any wr A lo2 so1 N lc2 QQ sc1 _ _ k u ks us F3 G4 b5 h5.hs hG4.ss (by omega) (by omega) (fun i hi => by
                    by_cases h : i < n
                    · rw [HF3.out.1 i h, jn_old f fo n i h]; exact HLN.out.2.2.1 i h
                    · obtain ⟨j, rfl⟩ : ∃ j, i = n + j := ⟨i - n, by omega⟩
                      rw [(HF3.out.2 (n + j) (by omega) hi).2, jn_new]
                      have := HLN.out.1 j (by omega)
                      simp only
                      omega) (fun i hi => by
                    by_cases h : i < q
                    · rw [og4 i h, jns_old g ft q i h]; have := HLN.out.2.2.2 i h; omega
                    · obtain ⟨j, rfl⟩ : ∃ j, i = q + j := ⟨i - q, by omega⟩
                      rw [(lg4 (q + j) (by omega) hi).2, jns_new]
                      have := HLN.out.2.1 j (by omega)
                      simp only
                      omega))
                  have s03 : w0.heap.size ≤ w3.heap.size := KA.out.size
                  have s0 : w.heap.size ≤ w0.heap.size := HK2.out.size
                  have s34 : w3.heap.size ≤ w4.heap.size := KG.out.size
                  have hgk : ∀ b ∈ gks lo2 lc2 N n (jn f fo n), b ∈ A :: ((Value.slice lo n lc).ownBlock.toList ++ blks fo p ++ (Value.slice so q sc).ownBlock.toList ++ blks ft r) ∨ w.heap.size ≤ b := fun b hb => by
                    rcases List.mem_append.1 hb with h | h
                    · rcases Lies.mem (show Lies w (.slice lo n lc) (.slice lo2 N lc2) from by rw [← eNN]; exact HL2.out) b h with h | h
                      · exact .inl (by simp only [List.mem_cons, List.mem_append]; exact .inr (.inl (.inl (.inl h))))
                      · exact .inr h
                    · obtain ⟨j, hj, hx⟩ := List.mem_flatMap.1 h
                      have := List.mem_range.1 hj
                      rw [jn_new] at hx
                      exact .inl (by simp only [List.mem_cons, List.mem_append]; exact .inr (.inl (.inl (.inr (mem_blks (by omega) hx)))))
                  have hgs : ∀ b ∈ gks so1 sc1 QQ q (jns g ft q), b ∈ A :: ((Value.slice lo n lc).ownBlock.toList ++ blks fo p ++ (Value.slice so q sc).ownBlock.toList ++ blks ft r) ∨ w.heap.size ≤ b := fun b hb => by
                    rcases List.mem_append.1 hb with h | h
                    · rcases Lies.mem (show Lies w0 (.slice so q sc) (.slice so1 QQ sc1) from by rw [← eQQ]; exact LI1.out) b h with h | h
                      · exact .inl (by simp only [List.mem_cons, List.mem_append]; exact .inr (.inl (.inr h)))
                      · exact .inr (by omega)
                    · obtain ⟨j, hj, hx⟩ := List.mem_flatMap.1 h
                      have := List.mem_range.1 hj
                      rw [jns_new] at hx
                      exact .inl (by simp only [List.mem_cons, List.mem_append]; exact .inr (.inr (mem_blks (by omega) hx)))
                  have kAll : Kept (A :: ((Value.slice lo n lc).ownBlock.toList ++ blks fo p ++ (Value.slice so q sc).ownBlock.toList ++ blks ft r)) w wr := by
                    have q0 : Kept (A :: ((Value.slice lo n lc).ownBlock.toList ++ blks fo p ++ (Value.slice so q sc).ownBlock.toList ++ blks ft r)) w w0 := HK2.out.mono (fun b hb => .inl (by
                      simp only [List.mem_cons, List.mem_append] at hb ⊢
                      rcases hb with h | h | h
                      · exact .inl h
                      · exact .inr (.inl (.inl (.inl h)))
                      · exact .inr (.inl (.inl (.inr h)))))
                    have q1 := q0.step KA.out (fun b hb => .inl (by
                      simp only [List.mem_cons, List.mem_append] at hb ⊢
                      rcases hb with h | h | h
                      · exact .inl h
                      · exact .inr (.inl (.inr h))
                      · exact .inr (.inr h)))
                    exact (q1.step KG.out hgk).step kS hgs
                  have FN := Hid.mk (And.intro b5 (And.intro h5 (And.intro hG4 (And.intro kAll (And.intro og4 lg4)))))
                  have iQ : ¬ (((q + r : Nat) : Int) < (QQ : Int)) := by omega
                  clear b5 h5 hG4 kAll og4 lg4 kS HG hgk hgs hlt hx
                  go_wp2_with (fail)
                  with_reducible refine C9.out.mono ?_
                  rintro e w9 ⟨rfl, k9⟩
                  have K9 := Hid.mk k9
                  clear k9 C9
                  go_wp2
                  go_ret
                  refine ⟨rfl, .slice lo2 N lc2, .slice so1 QQ sc1, F3, G4, FN.out.1.kept K9.out (by simp), by rw [eNN]; exact FN.out.2.1.hs.keep K9.out, by rw [eQQ]; exact FN.out.2.2.1.ss.keep K9.out, by rw [← eNN]; exact HL2.out, by rw [← eQQ]; exact LI1.out.of_kept HK2.out, FN.out.2.2.2.1.step K9.out (by simp), fun j hj => (HF3.out.1 j hj).trans (jn_old f fo n j hj), fun j hj => ?_, fun j hj => (FN.out.2.2.2.2.1 j hj).trans (jns_old g ft q j hj), fun j hj => ?_⟩
                  · have h9 := HF3.out.2 (n + j) (by omega) (by omega)
                    rw [jn_new] at h9
                    refine ⟨fun b hb => ?_, h9.2⟩
                    rcases Lies.mem h9.1 b hb with h | h
                    · exact .inl h
                    · exact .inr (by omega)
                  · have h9 := FN.out.2.2.2.2.2 (q + j) (by omega) (by omega)
                    rw [jns_new] at h9
                    refine ⟨fun b hb => ?_, h9.2⟩
                    rcases Lies.mem h9.1 b hb with h | h
                    · exact .inl h
                    · exact .inr (by omega)
end Go.Proofs.Ytiojcfffhcipnaa
