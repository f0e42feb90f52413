import Derived.Test.YtjnmnkheichflabRS2
namespace Go.Proofs.Ytjnmnkheichflab
open Go.RowKit

/-- What the document's Solve comes to. -/
def RSol (w : World) (n wd : Nat) (o : Option ((Nat → Nat → Nat) × (Nat → Nat → Nat))) (e : Ending) (w' : World) : Prop :=
  match o with
  | none => e = .returned (.tuple #[.slice none 0 0, .int .i64 43]) ∧ Kept [] w w'
  | some (_, Y) => ∃ a cap, e = .returned (.tuple #[.slice a n cap, .int .i64 0]) ∧ MR w' a (mf Y n wd) ∧ Kept [] w w'

set_option maxHeartbeats 8000000 in
set_option maxRecDepth 1000000 in
theorem refSolve_ok (ao bo : Option Addr) (ca cb n : Nat) (L K : List (List Nat)) (w : World) (hL : MR w ao L) (hK : MR w bo K) (bL : Bm L) (bK : Bm K) (hl : L.length = n) (hk : K.length = n) (hrl : rl K ≤ 140737488355328) (hs : ssh L K = true) :
    Calls Try.prog 10 #[.slice ao n ca, .slice bo n cb] w fun e w' => RSol w n (rl K) (gt n (fn L) (fn K) n) e w' := by
  unfold ssh at hs
  rw [hl, hk] at hs
  simp only [Bool.and_eq_true, decide_eq_true_eq] at hs
  obtain ⟨⟨⟨h1, h3⟩, _⟩, h4⟩ := hs
  have C1 := Hid.mk (fits_any ao ca n n L w hL hl (by omega))
  have C2 := Hid.mk (alike_any bo cb n K w hK hk (by omega))
  rw [h3] at C1
  rw [h4] at C2
  have D1 := Hid.mk (fun w2 (hk2 : Kept [] w w2) => refCopied_any ao ca n n L w2 (hL.keep hk2) hl h1 (by omega) h3)
  have D2 := Hid.mk (fun w2 (hk2 : Kept [] w w2) => refCopied_any bo cb n (rl K) K w2 (hK.keep hk2) hk h1 hrl h4)
  have lL : Hid (Lo (fn L)) := Hid.mk (fn_lt bL)
  have lK : Hid (Lo (fn K)) := Hid.mk (fn_lt bK)
  obtain ⟨A, eA⟩ : ∃ A, A = fn L := ⟨_, rfl⟩
  obtain ⟨Bf, eB⟩ : ∃ Bf, Bf = fn K := ⟨_, rfl⟩
  rw [← eA] at D1 lL ⊢
  rw [← eB] at D2 lK ⊢
  obtain ⟨r, er⟩ : ∃ r, r = rl K := ⟨_, rfl⟩
  rw [← er] at hrl D2 ⊢
  clear er eA eB hL hK hl hk h3 h4 bL bK
  have d1 : decide ((256 : Int) < (n : Int)) = false := by simp; omega
  go_enter Try.func10, Try.ntmps10
  go_wp2_with (first | (go_at_call 31; refine C1.out.mono ?_; rintro e w' ⟨rfl, hw⟩; obtain rfl := hw.symm) | (go_at_call 32; refine C2.out.mono ?_; rintro e w1 ⟨rfl, hq1⟩; have K1 := Hid.mk (Qt.kept hq1 []); clear hq1))
  clear C1 C2
  refine (D1.out w1 K1.out).mono ?_
  rintro e w2 ⟨V1, bl, rfl, hg1, hk2⟩
  have SZ : Hid (w.heap.size ≤ w1.heap.size) := Hid.mk K1.out.size
  obtain ⟨B, eB⟩ : ∃ B, B = w1.heap.size := ⟨_, rfl⟩
  rw [← eB] at hg1 SZ
  have GA := Hid.mk hg1
  have K2 := Hid.mk (K1.out.trans hk2)
  have KK2 := Hid.mk hk2
  have EB := Hid.mk eB
  clear hg1 hk2 eB D1
  go_wp2_with (fail)
  refine (D2.out w2 K2.out).mono ?_
  rintro e w3 ⟨V2, br, rfl, hg2, hk3⟩
  have GB := Hid.mk hg2
  have GA3 := Hid.mk (GA.out.keep0 hk3)
  have HK := Hid.mk (K2.out.trans hk3)
  have BS : Hid (B ≤ w2.heap.size) := Hid.mk (by rw [EB.out]; exact KK2.out.size)
  have BS3 : Hid (w2.heap.size ≤ w3.heap.size) := Hid.mk hk3.size
  clear hg2 hk3 D2
  by_cases hn0 : n = 0
  · subst hn0
    obtain ⟨a2, c2, rfl, mr⟩ := GB.out.val
    have MM := Hid.mk mr
    clear mr
    go_wp2
    refine wp_loop_rounds 1 ?_
    rw [rounds_succ]
    go_wp2
    go_ret2
    exact ⟨a2, c2, rfl, MM.out, HK.out⟩
  · obtain ⟨gl, cl, rfl, ml, hgl⟩ := GA3.out.mt (by omega)
    obtain ⟨gr, cr, rfl, mr, hgr⟩ := GB.out.mt (by omega)
    have hlt : ∀ i, i < n → bl i < w2.heap.size := fun i hi => (GA.out.row i hi).lt
    have hgl2 : gl < w2.heap.size := by
      obtain ⟨g9, c9, e9, m9, _⟩ := GA.out.mt (by omega)
      cases e9
      exact m9.glt (by omega)
    have HT : Hid (Tw B w3 gl gr n bl br n r A Bf) := Hid.mk ⟨ml, mr, by omega, fun i hi => by have := hlt i hi; omega, fun i hi => by have := GB.out.lo i hi; omega, fun i j hi hj => by have := hlt i hi; have := GB.out.lo j hj; omega, hgl, by have := BS.out; omega, fun i hi => GA.out.lo i hi, fun i hi => by have := GB.out.lo i hi; have := BS.out; omega⟩
    have sz : B ≤ w3.heap.size := by have := BS.out; have := BS3.out; omega
    have HB : Hid (Below w.heap.size w w3) := Hid.mk (HK.out.below (Nat.le_refl _) (by simp))
    clear ml mr hgl hgr hlt hgl2 sz GA GB GA3 HK BS BS3 K2 KK2 K1
    go_wp2
    go_loopw [11] (fun s wx => ∃ (c : Nat) (bl br : Nat → Nat) (X Y : Nat → Nat → Nat), c ≤ n ∧ s = .int .i64 (c : Int) ∧ Hid (gt n A Bf c = some (X, Y)) ∧ Tw B wx gl gr n bl br n r X Y ∧ Below w.heap.size w wx) (fun s _ => n - (intOf s).toNat)
    case atStart => exact ⟨0, bl, br, A, Bf, by omega, rfl, Hid.mk rfl, HT.out, HB.out⟩
    case round =>
      obtain ⟨c, bl2, br2, X, Y, hcn, rfl, hgt, ht, hb⟩ := hrel
      clear HT HB
      have T := Hid.mk ht
      have HB := Hid.mk hb
      clear ht hb
      by_cases hlt : c < n
      · have ic : (c : Int) < (n : Int) := by omega
        go_wp2
        go_loopw [12] (fun s wx => ∃ row : Nat, row ≤ n ∧ c ≤ row ∧ s = .int .i64 (row : Int) ∧ Hid (∀ i, c ≤ i → i < row → X i c = 0) ∧ Tw B wx gl gr n bl2 br2 n r X Y ∧ Below w.heap.size w wx) (fun s _ => n - (intOf s).toNat)
        case atStart => exact ⟨c, by omega, by omega, rfl, Hid.mk (fun i h1 h2 => by omega), T.out, HB.out⟩
        case round =>
          obtain ⟨row, hrg, hcr, rfl, hz, ht, hb⟩ := hrel
          clear T HB
          have T := Hid.mk ht
          have HB := Hid.mk hb
          have lo := gt_lo lL.out lK.out c hgt.out
          by_cases hrn : row < n
          · have e1 := ht.l.out row hrn
            have e2 := (ht.l.row row hrn).at (j := c) (by rw [rg_length]; exact hlt)
            rw [rg_getD _ _ _ hlt] at e2
            have hrow : ((row : Int) == (n : Int)) = false := by simp; omega
            have ir : (row : Int) < (n : Int) := by omega
            by_cases hx : X row c = 0
            · rw [hx] at e2
              have Hx := Hid.mk hx
              clear hx ht hb lo
              go_wp2
              go_roundw
              case measure => simp [intOf]; omega
              case rel =>
                refine ⟨row + 1, by omega, by omega, by go_num, Hid.mk (fun i h1 h2 => ?_), T.out, HB.out⟩
                by_cases e : i = row
                · subst e; exact Hx.out
                · exact hz.out i h1 (by omega)
            · have HN := Hid.mk (gt_step hgt.out (pv_of (A := X) (c := c) (n - c) c row hcr (by omega) hx (fun i h1 h2 => hz.out i h1 h2)))
              have e3 := ht.l.out c hlt
              have e4 := ht.r.out row hrn
              have e5 := ht.r.out c hlt
              have f1 := ht.l.fz row hrn
              have f2 := ht.l.fz c hlt
              have f3 := ht.r.fz row hrn
              have f4 := ht.r.fz c hlt
              have t1 := set_there (r := row) ht.l hlt
              have t2 := set_there (r := row) (ht.r.keep ((Kept.refl [gl] wr).setCell (p := ⟨gl, row, none⟩) (.inl (by simp)) (.slice (some ⟨bl2 c, 0, none⟩) n n)) (fun _ => by simpa using Ne.symm ht.g) (fun i hi => by simpa using ht.rg i hi)) hlt
              have g1 : ¬ gl = gr := ht.g
              have g2 : ¬ gr = gl := fun e => g1 e.symm
              have q1 : ¬ bl2 row = gl := ht.l.ne row hrn
              have q2 : ¬ bl2 row = gr := ht.lg row hrn
              have q3 : ¬ gl = bl2 row := fun e => q1 e.symm
              have q4 : ¬ gr = bl2 row := fun e => q2 e.symm
              have hx0 : ((X row c : Int) == 0) = false := by simp; omega
              have CI := Hid.mk (fun w => refInv_any (X row c) (lo.1 row c) w)
              have T2 := Hid.mk (ht.set2 hlt hrn)
              obtain ⟨x, ex⟩ : ∃ x, x = X row c := ⟨_, rfl⟩
              rw [← ex] at e2 hx0 CI
              have EX := Hid.mk ex
              have K4 : Hid (Kept [gl, gr] wr ((((wr.setCell ⟨gl, row, none⟩ (.slice (some ⟨bl2 c, 0, none⟩) n n)).setCell ⟨gr, row, none⟩ (.slice (some ⟨br2 c, 0, none⟩) r r)).setCell ⟨gl, c, none⟩ (.slice (some ⟨bl2 row, 0, none⟩) n n)).setCell ⟨gr, c, none⟩ (.slice (some ⟨br2 row, 0, none⟩) r r))) := Hid.mk (((((Kept.refl _ _).setCell (p := ⟨gl, row, none⟩) (.inl (by simp)) _).setCell (p := ⟨gr, row, none⟩) (.inl (by simp)) _).setCell (p := ⟨gl, c, none⟩) (.inl (by simp)) _).setCell (p := ⟨gr, c, none⟩) (.inl (by simp)) _)
              have LX : Hid (Lo (fun i => X (sw c row i))) := Hid.mk (fun i j => lo.1 _ _)
              have LY : Hid (Lo (fun i => Y (sw c row i))) := Hid.mk (fun i j => lo.2 _ _)
              have sv0 := iv_lt x
              have ES : Hid (iv x = iv ((fun i => X (sw c row i)) c c)) := Hid.mk (by show iv x = iv (X (sw c row c) c); rw [sw_left, EX.out])
              clear ex hx ht hb lo
              go_wp2_with (fail)
              obtain ⟨w4, ew4⟩ : ∃ w4, w4 = ((((wr.setCell ⟨gl, row, none⟩ (.slice (some ⟨bl2 c, 0, none⟩) n n)).setCell ⟨gr, row, none⟩ (.slice (some ⟨br2 c, 0, none⟩) r r)).setCell ⟨gl, c, none⟩ (.slice (some ⟨bl2 row, 0, none⟩) n n)).setCell ⟨gr, c, none⟩ (.slice (some ⟨br2 row, 0, none⟩) r r)) := ⟨_, rfl⟩
              rw [← ew4] at T2 K4 ⊢
              have HB4 : Hid (Below w.heap.size w w4) := Hid.mk (HB.out.trans (K4.out.below (Nat.le_trans SZ.out (Nat.le_trans T.out.b1 (Nat.le_of_lt (T.out.l.glt (by omega))))) (fun y hy => by
                have := SZ.out
                have := T.out.b1
                have := T.out.b2
                simp at hy
                rcases hy with rfl | rfl <;> omega)))
              clear ew4 K4 e1 e2 e3 e4 e5 f1 f2 f3 f4 t1 t2 g1 g2 q1 q2 q3 q4 hx0 T HB EX hz
              obtain ⟨sv, es⟩ : ∃ sv, sv = iv x := ⟨_, rfl⟩
              rw [← es] at CI sv0 ES
              obtain ⟨dv, ed⟩ : ∃ dv, dv = dvE x := ⟨_, rfl⟩
              rw [← ed] at CI
              obtain ⟨X2, eX⟩ : ∃ X2 : Nat → Nat → Nat, X2 = fun i => X (sw c row i) := ⟨_, rfl⟩
              obtain ⟨Y2, eY⟩ : ∃ Y2 : Nat → Nat → Nat, Y2 = fun i => Y (sw c row i) := ⟨_, rfl⟩
              have CK : Hid (∀ i, i < n → ∀ j, st X c row X i j = ck X2 c X2 n i j ∧ st X c row Y i j = ck X2 c Y2 n i j) := Hid.mk (fun i hi j => by rw [eX, eY]; exact ⟨ck_st X c row X n i j hi, ck_st X c row Y n i j hi⟩)
              obtain ⟨b3, eb3⟩ : ∃ b3 : Nat → Nat, b3 = fun i => bl2 (sw c row i) := ⟨_, rfl⟩
              obtain ⟨b4, eb4⟩ : ∃ b4 : Nat → Nat, b4 = fun i => br2 (sw c row i) := ⟨_, rfl⟩
              rw [← eX, ← eY, ← eb3, ← eb4] at T2
              rw [← eX] at LX
              replace ES : Hid (sv = iv (X2 c c)) := Hid.mk (by rw [eX]; exact ES.out)
              rw [← eY] at LY
              clear es ed eX eY eb3 eb4
              refine (CI.out w4).mono ?_
              rintro e w5 ⟨rfl, hw5⟩
              obtain rfl := hw5.symm
              clear hw5 CI
              go_wp2
              go_loopw [17] (fun s wx => ∃ k : Nat, k ≤ n ∧ s = .int .i64 (k : Int) ∧ Tw B wx gl gr n b3 b4 n r (zk sv c k X2) Y2 ∧ Below w.heap.size w wx) (fun s _ => n - (intOf s).toNat)
              case atStart => exact ⟨0, by omega, rfl, T2.out.congr (fun i _ j _ => zk_zero _ _ _ _ _) (fun i _ j _ => rfl), HB4.out⟩
              case round =>
                obtain ⟨k, hkn, rfl, ht, hb⟩ := hrel
                clear T2 HB4
                by_cases hkt : k < n
                · have e1 := ht.l.out c hlt
                  have e2 := (ht.l.row c hlt).at (j := k) (by rw [rg_length]; exact hkt)
                  rw [rg_getD _ _ _ hkt, zk_c, upt_at] at e2
                  have f1 := (ht.l.row c hlt).fz k
                  have CM := Hid.mk (fun w => refMul_any sv (X2 c k) sv0 (LX.out c k) w)
                  have ik : (k : Int) < (n : Int) := by omega
                  have FT : Hid (Tw B (wr.setCell ⟨b3 c, k, none⟩ (byt (mu sv (X2 c k)))).drew gl gr n b3 b4 n r (zk sv c (k + 1) X2) Y2 ∧ Below w.heap.size w (wr.setCell ⟨b3 c, k, none⟩ (byt (mu sv (X2 c k)))).drew) := Hid.mk (by
                    have hk5 : Kept [b3 c] wr (wr.setCell ⟨b3 c, k, none⟩ (byt (mu sv (X2 c k)))) := (Kept.refl [b3 c] wr).setCell (p := ⟨b3 c, k, none⟩) (.inl (by simp)) _
                    have hr5 := ht.l.row c hlt
                    rw [zk_c] at hr5
                    refine ⟨(ht.updL hlt hk5 (by rw [zk_c]; exact hr5.set rfl) (fun i _ hn j _ => by rw [zk_ne hn, zk_ne hn])).keep0 ((Kept.refl [] _).drew), hb.trans (hk5.drew.below hb.size (fun y hy => ?_))⟩
                    simp at hy
                    have := ht.b3 c hlt
                    have := SZ.out
                    omega)
                  obtain ⟨y, ey⟩ : ∃ y, y = X2 c k := ⟨_, rfl⟩
                  rw [← ey] at e2 CM FT
                  obtain ⟨z, ez⟩ : ∃ z, z = mu sv y := ⟨_, rfl⟩
                  rw [← ez] at CM FT
                  clear ey ez ht hb
                  go_wp2
                  go_region_law (first | (go_simp; go_at_call 35; refine (CM.out _).mono ?_; rintro e w6 ⟨rfl, hw6⟩; obtain rfl := hw6.symm))
                  all_goals go_wp2
                  all_goals go_roundw
                  all_goals first
                    | exact ⟨k + 1, by omega, by go_num, FT.out.1, FT.out.2⟩
                    | (simp [intOf]; omega)
                · obtain rfl : n = k := by omega
                  have T3 := Hid.mk (ht.congr (Z := ck X2 c X2 0) (V := Y2) (fun i _ j hj => by rw [zk_full X2 n i j hj, ES.out]) (fun i _ j _ => rfl))
                  have HB3 := Hid.mk hb
                  clear ht hb
                  go_wp2
                  go_loopw [18] (fun s wx => ∃ j : Nat, j ≤ r ∧ s = .int .i64 (j : Int) ∧ Tw B wx gl gr n b3 b4 n r (ck X2 c X2 0) (zk sv c j Y2) ∧ Below w.heap.size w wx) (fun s _ => r - (intOf s).toNat)
                  case atStart => exact ⟨0, by omega, rfl, T3.out.congr (fun i _ j _ => rfl) (fun i _ j _ => zk_zero _ _ _ _ _), HB3.out⟩
                  case round =>
                    obtain ⟨j, hjn, rfl, ht, hb⟩ := hrel
                    clear T3 HB3
                    have e1 := ht.r.out c hlt
                    by_cases hkt : j < r
                    · have e2 := (ht.r.row c hlt).at (j := j) (by rw [rg_length]; exact hkt)
                      rw [rg_getD _ _ _ hkt, zk_c, upt_at] at e2
                      have f1 := (ht.r.row c hlt).fz j
                      have CM := Hid.mk (fun w => refMul_any sv (Y2 c j) sv0 (LY.out c j) w)
                      have ik : (j : Int) < (r : Int) := by omega
                      have FT : Hid (Tw B (wr.setCell ⟨b4 c, j, none⟩ (byt (mu sv (Y2 c j)))).drew gl gr n b3 b4 n r (ck X2 c X2 0) (zk sv c (j + 1) Y2) ∧ Below w.heap.size w (wr.setCell ⟨b4 c, j, none⟩ (byt (mu sv (Y2 c j)))).drew) := Hid.mk (by
                        have hk5 : Kept [b4 c] wr (wr.setCell ⟨b4 c, j, none⟩ (byt (mu sv (Y2 c j)))) := (Kept.refl [b4 c] wr).setCell (p := ⟨b4 c, j, none⟩) (.inl (by simp)) _
                        have hr5 := ht.r.row c hlt
                        rw [zk_c] at hr5
                        refine ⟨(ht.updR hlt hk5 (by rw [zk_c]; exact hr5.set rfl) (fun i _ hn j _ => by rw [zk_ne hn, zk_ne hn])).keep0 ((Kept.refl [] _).drew), hb.trans (hk5.drew.below hb.size (fun y hy => ?_))⟩
                        simp at hy
                        have := ht.b4 c hlt
                        have := SZ.out
                        omega)
                      obtain ⟨y, ey⟩ : ∃ y, y = Y2 c j := ⟨_, rfl⟩
                      rw [← ey] at e2 CM FT
                      obtain ⟨z, ez⟩ : ∃ z, z = mu sv y := ⟨_, rfl⟩
                      rw [← ez] at CM FT
                      clear ey ez ht hb
                      go_wp2
                      go_region_law (first | (go_simp; go_at_call 35; refine (CM.out _).mono ?_; rintro e w6 ⟨rfl, hw6⟩; obtain rfl := hw6.symm))
                      all_goals go_wp2
                      all_goals go_roundw
                      all_goals first
                        | exact ⟨j + 1, by omega, by go_num, FT.out.1, FT.out.2⟩
                        | (simp [intOf]; omega)
                    · obtain rfl : r = j := by omega
                      have T3 := Hid.mk (ht.congr (Z := ck X2 c X2 0) (V := ck X2 c Y2 0) (fun i _ j _ => rfl) (fun i _ m hm => by rw [zk_full Y2 r i m hm, ES.out]))
                      have HB3 := Hid.mk hb
                      clear ht hb
                      go_wp2
                      go_loopw [19] (fun s wx => ∃ k : Nat, k ≤ n ∧ s = .int .i64 (k : Int) ∧ Tw B wx gl gr n b3 b4 n r (ck X2 c X2 k) (ck X2 c Y2 k) ∧ Below w.heap.size w wx) (fun s _ => n - (intOf s).toNat)
                      case atStart => exact ⟨0, by omega, rfl, T3.out, HB3.out⟩
                      case round =>
                        obtain ⟨k, hkn2, rfl, ht, hb⟩ := hrel
                        clear T3 HB3
                        by_cases hkt2 : k < n
                        · by_cases hkc : k = c
                          · subst hkc
                            have T := Hid.mk ht
                            have HB := Hid.mk hb
                            clear ht hb
                            go_wp2
                            go_roundw
                            case rel => exact ⟨k + 1, by omega, by go_num, by rw [ck_skip, ck_skip]; exact T.out, HB.out⟩
                            case measure => simp [intOf]; omega
                          · have e1 := ht.l.out k hkt2
                            have e2 := ht.l.out c hlt
                            have e3 := (ht.l.row k hkt2).at (j := c) (by rw [rg_length]; exact hlt)
                            rw [rg_getD _ _ _ hlt, ck_at _ _ _ _ _ hkc] at e3
                            have hf := LX.out k c
                            have D1 : Hid (∀ w4, Tw B w4 gl gr n b3 b4 n r (ck X2 c X2 k) (ck X2 c Y2 k) → Calls Try.prog 36 #[.slice (some ⟨b3 k, 0, none⟩) n n, .int .u8 (X2 k c : Int), .slice (some ⟨b3 c, 0, none⟩) n n] w4 fun e w' => e = .returned (.tuple #[]) ∧ Row w' (b3 k) (rg (ck X2 c X2 (k + 1) k) n) ∧ Kept [b3 k] w4 w') := Hid.mk (fun w4 t4 => by
                              have := refAdd_any (b3 k) n n (X2 k c) n (some ⟨b3 c, 0, none⟩) (ck X2 c X2 k k) (ck X2 c X2 k c) hf w4 (t4.l.row k hkt2) (fun j _ => ck_lo LX.out c k k j) (fun j _ => ck_lo LX.out c k c j) (t4.l.row c hlt).reads (fun _ g off e => by cases e; exact fun e2 => hkc (t4.l.inj c k hlt hkt2 e2).symm) (by omega)
                              rwa [ck_new _ _ _ _ _ hkc] at this)
                            have D2 : Hid (∀ w4, Tw B w4 gl gr n b3 b4 n r (ck X2 c X2 (k + 1)) (ck X2 c Y2 k) → Calls Try.prog 36 #[.slice (some ⟨b4 k, 0, none⟩) r r, .int .u8 (X2 k c : Int), .slice (some ⟨b4 c, 0, none⟩) r r] w4 fun e w' => e = .returned (.tuple #[]) ∧ Row w' (b4 k) (rg (ck X2 c Y2 (k + 1) k) r) ∧ Kept [b4 k] w4 w') := Hid.mk (fun w4 t4 => by
                              have := refAdd_any (b4 k) r r (X2 k c) r (some ⟨b4 c, 0, none⟩) (ck X2 c Y2 k k) (ck X2 c Y2 k c) hf w4 (t4.r.row k hkt2) (fun j _ => ck_lo LY.out c k k j) (fun j _ => ck_lo LY.out c k c j) (t4.r.row c hlt).reads (fun _ g off e => by cases e; exact fun e2 => hkc (t4.r.inj c k hlt hkt2 e2).symm) hrl
                              rwa [ck_new _ _ _ _ _ hkc] at this)
                            have T := Hid.mk ht
                            have HB := Hid.mk hb
                            have hkc2 : ((k : Int) == (c : Int)) = false := by simp; omega
                            have ik : (k : Int) < (n : Int) := by omega
                            obtain ⟨f, ef⟩ : ∃ f, f = X2 k c := ⟨_, rfl⟩
                            rw [← ef] at e3 hf D1 D2
                            clear ef ht hb
                            go_wp2
                            go_region_law (first | (go_simp; go_at_call 36; refine (D1.out _ (T.out.keep0 ((Kept.refl [] _).drew))).mono ?_; rintro e w4 ⟨rfl, hr4, hk4⟩))
                            all_goals (have T4 := Hid.mk ((T.out.keep0 ((Kept.refl [] _).drew)).updL hkt2 hk4 hr4 (fun i _ hn j _ => ck_rest X2 c X2 k i j hn)))
                            all_goals (have g1 := T4.out.r.out k hkt2)
                            all_goals (have g2 := T4.out.r.out c hlt)
                            all_goals (have HB4 : Hid (Below w.heap.size w _) := Hid.mk (HB.out.trans ((((Kept.refl [] wr).drew).below HB.out.size (by simp)).trans (hk4.below (Nat.le_trans HB.out.size ((Kept.refl [] wr).drew).size) (fun x hx => by simp at hx; subst hx; have := T.out.b3 k hkt2; have := SZ.out; omega)))))
                            all_goals clear hr4 hk4 D1 e1 e2 e3 T HB
                            all_goals go_wp2
                            all_goals go_region_law (first | (go_simp; go_at_call 36; refine (D2.out _ (T4.out.keep0 ((Kept.refl [] _).drew))).mono ?_; rintro e w5 ⟨rfl, hr5, hk5⟩))
                            all_goals (have T5 := Hid.mk ((T4.out.keep0 ((Kept.refl [] _).drew)).updR hkt2 hk5 hr5 (fun i _ hn j _ => ck_rest X2 c Y2 k i j hn)))
                            all_goals (have HB5 : Hid (Below w.heap.size w _) := Hid.mk (HB4.out.trans ((((Kept.refl [] _).drew).below HB4.out.size (by simp)).trans (hk5.below (Nat.le_trans HB4.out.size ((Kept.refl [] _).drew).size) (fun x hx => by simp at hx; subst hx; have := T4.out.b4 k hkt2; have := SZ.out; omega)))))
                            all_goals clear hr5 hk5 D2 g1 g2 T4 HB4
                            all_goals go_wp2
                            all_goals go_roundw
                            all_goals first
                              | exact ⟨k + 1, by omega, by go_num, T5.out, HB5.out⟩
                              | (simp [intOf]; omega)
                        · obtain rfl : n = k := by omega
                          have T := Hid.mk (ht.congr (Z := st X c row X) (V := st X c row Y) (fun i hi j _ => (CK.out i hi j).1) (fun i hi j _ => (CK.out i hi j).2))
                          have HB := Hid.mk hb
                          clear ht hb
                          go_wp2
                          go_roundw
                          case rel => exact ⟨c + 1, b3, b4, _, _, by omega, by go_num, HN, T.out, HB.out⟩
                          case measure => simp [intOf]; omega
          · obtain rfl : row = n := by omega
            have hno := gt_fail hgt.out (pv_no (row - c) c (fun i h1 h2 => hz.out i h1 (by omega)))
            have hst := gt_stop (c + 1) (row - (c + 1)) hno
            rw [show c + 1 + (row - (c + 1)) = row from by omega] at hst
            have HS := Hid.mk hst
            clear hno hst ht hb lo
            go_wp2
            go_ret2
            show RSol _ _ _ _ _ _
            rw [HS.out]
            exact ⟨rfl, Kept.of_below HB.out⟩
      · obtain rfl : c = n := by omega
        go_wp2
        go_ret2
        show RSol _ _ _ _ _ _
        rw [hgt.out]
        exact ⟨_, cr, rfl, T.out.r.reads, Kept.of_below HB.out⟩
end Go.Proofs.Ytjnmnkheichflab
