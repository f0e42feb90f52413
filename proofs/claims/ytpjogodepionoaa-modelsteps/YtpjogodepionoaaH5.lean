import Derived.Test.YtpjogodepionoaaH4
namespace Go.Proofs.Ytpjogodepionoaa
open Go.RowKit

set_option maxHeartbeats 16000000 in
set_option maxRecDepth 1000000 in
theorem learnD_yes (R g cap n : Nat) (T d q : Int) (L : Nat → Sx) (w : World) (M : Rd w R g cap T d L) (hn : n < 365) :
    Calls Try.prog 32 #[.pointer (some ⟨R, 0, none⟩), .int .i64 (n : Int), .int .i64 q] w fun e w' => e = .returned (.tuple #[]) ∧ Rd w' R g cap T d (upd L n ((L n).learn T d q)) ∧ Kept [g] w w' := by
  have KN := Hid.mk (fun w => knownD_any (n : Int) w)
  have hd : decide (0 ≤ (n : Int) ∧ (n : Int) < 365) = true := by simp; omega
  rw [hd] at KN
  clear hd
  have F := M.fit n
  have FF : Hid ((L n).learn T d q).Fit := Hid.mk (learn_fit T d q M.good _ F).1
  have G := M.good
  have d0 := G.lo
  have d1 := G.hi
  have CR := Hid.mk (fun u (hu : Rh u R T d) => rangeD_any R T d u hu G)
  have CS := Hid.mk (fun u (hu : Rh u R T d) => stepD_any R T d u hu d0 d1)
  have ⟨a0, a1⟩ := add_a T d q G (L n)
  have ⟨x0, x1⟩ := qs_in T d q G
  have HL : Hid ((L n).learn T d q = ((((L n).add T d q).age)).follow) := Hid.mk rfl
  have ea : (L n).add T d q = ⟨(L n).A + mg (ct q (-rg T d) (rg T d)), (L n).B + ct q (-rg T d) (rg T d) * (2 * d + 1), (L n).S, (L n).N⟩ := rfl
  have ⟨g0, g1⟩ := rg_pos T d G
  have CQ := Hid.mk (fun w => cutD_any q (-rg T d) (rg T d) w (by omega))
  have CV := Hid.mk (fun v w => cutD_any v (-128) 127 w (by omega))
  have y0 := ct_lo (n := q) (l := -rg T d) (h := rg T d) (by omega)
  have y1 := ct_hi (n := q) (l := -rg T d) (h := rg T d)
  have A4 := M.ctx n hn
  have HM := Hid.mk M
  rw [ea] at HL a0 a1
  clear ea
  obtain ⟨u0, u1, v0, v1, s0, s1, n0, n1⟩ := F
  generalize (L n).learn T d q = res at *
  generalize L n = s at *
  obtain ⟨A, B, S, N⟩ := s
  dsimp only at *
  have CM := Hid.mk (fun w => sizeD_any (ct q (-rg T d) (rg T d)) w (by omega) (by omega))
  generalize mg (ct q (-rg T d) (rg T d)) = m at *
  generalize ct q (-rg T d) (rg T d) = c at *
  generalize rg T d = K at *
  have qx : IntKind.i64.wrap (c * (2 * d + 1)) = c * (2 * d + 1) := wrap_i (by omega) (by omega)
  obtain ⟨X, hX⟩ : ∃ X, c * (2 * d + 1) = X := ⟨_, rfl⟩
  rw [hX] at x0 x1 HL
  replace qx := qx.trans hX
  clear hX M G
  have qa : IntKind.i64.wrap (A + m) = A + m := wrap_i (by omega) (by omega)
  have qb : IntKind.i64.wrap (B + X) = B + X := wrap_i (by omega) (by omega)
  have HA4 := Hid.mk A4
  have ix : (n : Int) < 365 := by omega
  clear A4
  go_enter Try.func32, Try.ntmps32
  go_wp2_with (go_at_call 54; refine (KN.out _).mono ?_; rintro e w' ⟨rfl, rfl⟩)
  refine (CR.out _ HM.out.hd).mono ?_
  rintro e w1 ⟨rfl, m1, rfl⟩
  go_wp2_with (fail)
  refine (CR.out _ (HM.out.hd.drewN _)).mono ?_
  rintro e w1 ⟨rfl, m2, rfl⟩
  rw [World.drewN_drewN]
  go_wp2_with (fail)
  refine (CQ.out _).mono ?_
  rintro e w1 ⟨rfl, rfl⟩
  obtain ⟨w1, hw1, HM1, HK1⟩ : ∃ w1, w'.drewN (m1 + m2) = w1 ∧ Hid (Rd w1 R g cap T d L) ∧ Hid (Kept [] w' w1) := ⟨_, rfl, Hid.mk (HM.out.drewN _), Hid.mk ((Kept.refl _ _).drewN _)⟩
  rw [hw1]
  clear hw1
  obtain ⟨p1, p2, p3, p4⟩ := HA4.out.keep HK1.out (by simp)
  have p5 := HM1.out.sl
  dsimp only at p1 p2 p3 p4
  go_wp2
  obtain ⟨w2, hw2, HK2, HZ2⟩ : ∃ w2, w1.alloc (.cells #[.int .i64 A, .int .i64 B, .int .i64 S, .int .i64 N] 77 (0, 0)) = w2 ∧ Hid (Kept [] w1 w2) ∧ Hid (Lc w2 w1.heap.size A B S N) := ⟨_, rfl, Hid.mk (alloc_kept _ _), Hid.mk ⟨heap_alloc_new _ _⟩⟩
  rw [hw2]
  clear hw2
  have HQ : Hid (w'.heap.size ≤ w1.heap.size) := Hid.mk HK1.out.size
  have HM2 := Hid.mk (HM1.out.keep HK2.out (by simp) (by simp))
  have HQ2 : Hid (w1.heap.size ≠ g ∧ w1.heap.size ≠ R) := Hid.mk (by
    obtain ⟨cs, hb, _⟩ := HM1.out.blk
    have h1 := lt_of_block hb
    have h2 := lt_of_cell HM1.out.sl
    omega)
  have HK := Hid.mk (HK1.out.trans HK2.out)
  clear p1 p2 p3 p4 p5 HK1 HK2 HM1
  generalize w1.heap.size = Q at *
  obtain ⟨z0, z1, z2, z3⟩ := HZ2.out.cells
  have f0 := HZ2.out.fz 0
  go_region_with (go_at_call 51; refine (CM.out _).mono ?_; rintro e w3 ⟨rfl, rfl⟩)
  all_goals
    obtain ⟨w3, hw3, HKw3, HZw3, HMw3⟩ : ∃ w3, (w2.setCell ⟨Q, 0, none⟩ (.int .i64 (A + m))).drew = w3 ∧ Hid (Kept [] w' w3) ∧ Hid (Lc w3 Q (A + m) B S N) ∧ Hid (Rd w3 R g cap T d L) :=
      ⟨_, rfl, Hid.mk (HK.out.setCell (p := ⟨Q, 0, none⟩) (.inr HQ.out) _).drew, Hid.mk (HZ2.out.a _).drew, Hid.mk (HM2.out.keep (((Kept.refl [Q] w2).setCell (p := ⟨Q, 0, none⟩) (.inl (by simp)) _).drew) (by simp; exact Ne.symm HQ2.out.2) (by simp; exact Ne.symm HQ2.out.1))⟩
    rw [hw3]
    clear hw3 z0 z1 z2 z3 f0
    obtain ⟨z0, z1, z2, z3⟩ := HZw3.out.cells
    have f1 := HZw3.out.fz 1
    have HS3 := Hid.mk (CS.out w3 HMw3.out.hd)
    go_wp2
    go_region_with (go_at_call 52; refine (CS.out w3.drew (HMw3.out.hd.drewN 1)).mono ?_; rintro e w4 ⟨rfl, rfl⟩)
    all_goals
      obtain ⟨w4, hw4, HKw4, HZw4, HMw4⟩ : ∃ w4, (w3.setCell ⟨Q, 1, none⟩ (.int .i64 (B + X))).drew = w4 ∧ Hid (Kept [] w' w4) ∧ Hid (Lc w4 Q (A + m) (B + X) S N) ∧ Hid (Rd w4 R g cap T d L) :=
        ⟨_, rfl, Hid.mk (((HKw3.out.setCell (p := ⟨Q, 1, none⟩) (.inr HQ.out) _)).drew), Hid.mk (((HZw3.out.b (B + X))).drew), Hid.mk (HMw3.out.keep (((Kept.refl [Q] w3).setCell (p := ⟨Q, 1, none⟩) (.inl (by simp)) _).drew) (by simp; exact Ne.symm HQ2.out.2) (by simp; exact Ne.symm HQ2.out.1))⟩
      rw [hw4]
      clear hw4 z0 z1 z2 z3
      obtain ⟨z0, z1, z2, z3⟩ := HZw4.out.cells
      have f0 := HZw4.out.fz 0
      have f1 := HZw4.out.fz 1
      have f2 := HZw4.out.fz 2
      have f3 := HZw4.out.fz 3

      have hA0 : 0 ≤ A + m := by omega
      have hA1 : A + m ≤ 300000 := by omega
      have hB0 : -5000 ≤ B + X := by omega
      have hB1 : B + X ≤ 5000 := by omega
      have HL2 := HL
      clear HL qa qb qx CM CS CR CQ HS3 HKw3 HZw3 HMw3 HK HZ2 HM2 u0 u1 v0 v1 a0 a1 x0 x1 y0 y1 g0 g1
      generalize A + m = A1 at *
      generalize B + X = B1 at *
      by_cases hN : N = 64
      · obtain rfl := hN
        have hage : (Sx.mk A1 B1 S 64).age = ⟨A1 / 2, B1 / 2, S, 33⟩ := by simp [Sx.age]
        go_wp2_with (fail)
        refine (downD_any A1 w4 (by omega) (by omega)).mono ?_
        rintro e w5 ⟨rfl, hw⟩; obtain rfl := hw.symm
        go_wp2_with (fail)

        obtain ⟨w6, hw6, HKw6, HZw6, HMw6⟩ : ∃ w6, (w4.setCell ⟨Q, 0, none⟩ (.int .i64 (A1 / 2))) = w6 ∧ Hid (Kept [] w' w6) ∧ Hid (Lc w6 Q (A1 / 2) B1 S 64) ∧ Hid (Rd w6 R g cap T d L) :=
          ⟨_, rfl, Hid.mk ((HKw4.out.setCell (p := ⟨Q, 0, none⟩) (.inr HQ.out) _)), Hid.mk ((HZw4.out.a (A1 / 2))), Hid.mk (HMw4.out.keep ((Kept.refl [Q] w4).setCell (p := ⟨Q, 0, none⟩) (.inl (by simp)) _) (by simp; exact Ne.symm HQ2.out.2) (by simp; exact Ne.symm HQ2.out.1))⟩
        rw [hw6]
        clear hw6 z0 z1 z2 z3
        obtain ⟨z0, z1, z2, z3⟩ := HZw6.out.cells
        have f0 := HZw6.out.fz 0
        have f1 := HZw6.out.fz 1
        have f2 := HZw6.out.fz 2
        have f3 := HZw6.out.fz 3
        refine (downD_any B1 w6 (by omega) (by omega)).mono ?_
        rintro e w5 ⟨rfl, hw⟩; obtain rfl := hw.symm
        have hb0 : -5000 ≤ B1 / 2 := by omega
        have hb1 : B1 / 2 ≤ 5000 := by omega
        generalize B1 / 2 = B2 at *
        generalize A1 / 2 = A2 at *
        have hx := ((HZw6.out.b B2).n 32).cells.2.2.2
        have hy := (((HZw6.out.b B2).n 32).n 33).cells.2.2.2
        by_cases hl : B2 ≤ -33
        · go_wp2_with (fail)

          obtain ⟨w7, hw7, HKw7, HZw7, HMw7⟩ : ∃ w7, (((w6.setCell ⟨Q, 1, none⟩ (.int .i64 B2)).setCell ⟨Q, 3, none⟩ (.int .i64 32)).setCell ⟨Q, 3, none⟩ (.int .i64 33)) = w7 ∧ Hid (Kept [] w' w7) ∧ Hid (Lc w7 Q A2 B2 S 33) ∧ Hid (Rd w7 R g cap T d L) :=
            ⟨_, rfl, Hid.mk ((((HKw6.out.setCell (p := ⟨Q, 1, none⟩) (.inr HQ.out) _).setCell (p := ⟨Q, 3, none⟩) (.inr HQ.out) _).setCell (p := ⟨Q, 3, none⟩) (.inr HQ.out) _)), Hid.mk ((((HZw6.out.b B2).n 32).n 33)), Hid.mk (HMw6.out.keep ((((Kept.refl [Q] w6).setCell (p := ⟨Q, 1, none⟩) (.inl (by simp)) _).setCell (p := ⟨Q, 3, none⟩) (.inl (by simp)) _).setCell (p := ⟨Q, 3, none⟩) (.inl (by simp)) _) (by simp; exact Ne.symm HQ2.out.2) (by simp; exact Ne.symm HQ2.out.1))⟩
          rw [hw7]
          clear hw7 z0 z1 z2 z3
          obtain ⟨z0, z1, z2, z3⟩ := HZw7.out.cells
          have f0 := HZw7.out.fz 0
          have f1 := HZw7.out.fz 1
          have f2 := HZw7.out.fz 2
          have f3 := HZw7.out.fz 3
          refine (CV.out _ _).mono ?_
          rintro e w8 ⟨rfl, hw⟩; obtain rfl := hw.symm
          have hS : ct (S - 1) (-128) 127 = max (S - 1) (-128) := by unfold ct; omega
          rw [hS]
          clear hS
          have t0 : -128 ≤ max (S - 1) (-128) := by omega
          have t1 : max (S - 1) (-128) ≤ 127 := by omega
          have hfo : (Sx.mk A2 B2 S 33).follow = ⟨A2, max (B2 + 33) (-32), max (S - 1) (-128), 33⟩ := by unfold Sx.follow; rw [if_pos (by dsimp only; omega)] <;> rfl
          generalize max (S - 1) (-128) = S2 at *
          by_cases hl2 : B2 + 33 ≤ -33
          · have hres : res = ⟨A2, -32, S2, 33⟩ := by rw [HL2.out, hage, hfo, show max (B2 + 33) (-32) = -32 by omega]
            clear hfo
            go_wp2

            obtain ⟨wF, hwF, HKwF, HZwF, HMwF⟩ : ∃ wF, (((w7.setCell ⟨Q, 2, none⟩ (.int .i64 S2)).setCell ⟨Q, 1, none⟩ (.int .i64 (B2 + 33))).setCell ⟨Q, 1, none⟩ (.int .i64 (-32))) = wF ∧ Hid (Kept [] w' wF) ∧ Hid (Lc wF Q A2 (-32) S2 33) ∧ Hid (Rd wF R g cap T d L) :=
              ⟨_, rfl, Hid.mk ((((HKw7.out.setCell (p := ⟨Q, 2, none⟩) (.inr HQ.out) _).setCell (p := ⟨Q, 1, none⟩) (.inr HQ.out) _).setCell (p := ⟨Q, 1, none⟩) (.inr HQ.out) _)), Hid.mk ((((HZw7.out.s S2).b (B2 + 33)).b (-32))), Hid.mk (HMw7.out.keep ((((Kept.refl [Q] w7).setCell (p := ⟨Q, 2, none⟩) (.inl (by simp)) _).setCell (p := ⟨Q, 1, none⟩) (.inl (by simp)) _).setCell (p := ⟨Q, 1, none⟩) (.inl (by simp)) _) (by simp; exact Ne.symm HQ2.out.2) (by simp; exact Ne.symm HQ2.out.1))⟩
            rw [hwF]
            clear hwF z0 z1 z2 z3
            obtain ⟨z0, z1, z2, z3⟩ := HZwF.out.cells
            have f0 := HZwF.out.fz 0
            have f1 := HZwF.out.fz 1
            have f2 := HZwF.out.fz 2
            have f3 := HZwF.out.fz 3

            have HMf := Hid.mk (HMwF.out.put hn FF.out)
            have HKf := Hid.mk (HKwF.out)
            obtain ⟨a1, a2, a3, a4⟩ := HMwF.out.ctx n hn
            have b5 := HMwF.out.sl
            obtain ⟨cs, hcs, hsz⟩ := HMwF.out.blk
            have e0 := frozen_of_row wF g (n * 4) cs 77 hcs
            have e1 := frozen_of_row wF g (n * 4 + 1) cs 77 hcs
            have e2 := frozen_of_row wF g (n * 4 + 2) cs 77 hcs
            have e3 := frozen_of_row wF g (n * 4 + 3) cs 77 hcs
            clear hcs hsz
            go_region_law (fail)
            all_goals
              go_wp2
              go_end0
              refine ⟨rfl, ?_, ?_⟩
              · have := HMf.out.drewN 1
                rw [hres] at this ⊢
                exact this
              · have := (((Kept.refl [] w').trans HKf.out).mono (l2 := [g]) (fun x hx => by simp at hx)).trans (pt4_kept wF g (n * 4) res)
                rw [hres] at this
                exact this.drew
          · have hres : res = ⟨A2, B2 + 33, S2, 33⟩ := by rw [HL2.out, hage, hfo, show max (B2 + 33) (-32) = B2 + 33 by omega]
            clear hfo
            go_wp2

            obtain ⟨wF, hwF, HKwF, HZwF, HMwF⟩ : ∃ wF, ((w7.setCell ⟨Q, 2, none⟩ (.int .i64 S2)).setCell ⟨Q, 1, none⟩ (.int .i64 (B2 + 33))) = wF ∧ Hid (Kept [] w' wF) ∧ Hid (Lc wF Q A2 (B2 + 33) S2 33) ∧ Hid (Rd wF R g cap T d L) :=
              ⟨_, rfl, Hid.mk (((HKw7.out.setCell (p := ⟨Q, 2, none⟩) (.inr HQ.out) _).setCell (p := ⟨Q, 1, none⟩) (.inr HQ.out) _)), Hid.mk (((HZw7.out.s S2).b (B2 + 33))), Hid.mk (HMw7.out.keep (((Kept.refl [Q] w7).setCell (p := ⟨Q, 2, none⟩) (.inl (by simp)) _).setCell (p := ⟨Q, 1, none⟩) (.inl (by simp)) _) (by simp; exact Ne.symm HQ2.out.2) (by simp; exact Ne.symm HQ2.out.1))⟩
            rw [hwF]
            clear hwF z0 z1 z2 z3
            obtain ⟨z0, z1, z2, z3⟩ := HZwF.out.cells
            have f0 := HZwF.out.fz 0
            have f1 := HZwF.out.fz 1
            have f2 := HZwF.out.fz 2
            have f3 := HZwF.out.fz 3

            have HMf := Hid.mk (HMwF.out.put hn FF.out)
            have HKf := Hid.mk (HKwF.out)
            obtain ⟨a1, a2, a3, a4⟩ := HMwF.out.ctx n hn
            have b5 := HMwF.out.sl
            obtain ⟨cs, hcs, hsz⟩ := HMwF.out.blk
            have e0 := frozen_of_row wF g (n * 4) cs 77 hcs
            have e1 := frozen_of_row wF g (n * 4 + 1) cs 77 hcs
            have e2 := frozen_of_row wF g (n * 4 + 2) cs 77 hcs
            have e3 := frozen_of_row wF g (n * 4 + 3) cs 77 hcs
            clear hcs hsz
            go_region_law (fail)
            all_goals
              go_wp2
              go_end0
              refine ⟨rfl, ?_, ?_⟩
              · have := HMf.out.drewN 1
                rw [hres] at this ⊢
                exact this
              · have := (((Kept.refl [] w').trans HKf.out).mono (l2 := [g]) (fun x hx => by simp at hx)).trans (pt4_kept wF g (n * 4) res)
                rw [hres] at this
                exact this.drew
        · by_cases hh : 0 < B2
          · go_wp2_with (fail)

            obtain ⟨w7, hw7, HKw7, HZw7, HMw7⟩ : ∃ w7, (((w6.setCell ⟨Q, 1, none⟩ (.int .i64 B2)).setCell ⟨Q, 3, none⟩ (.int .i64 32)).setCell ⟨Q, 3, none⟩ (.int .i64 33)) = w7 ∧ Hid (Kept [] w' w7) ∧ Hid (Lc w7 Q A2 B2 S 33) ∧ Hid (Rd w7 R g cap T d L) :=
              ⟨_, rfl, Hid.mk ((((HKw6.out.setCell (p := ⟨Q, 1, none⟩) (.inr HQ.out) _).setCell (p := ⟨Q, 3, none⟩) (.inr HQ.out) _).setCell (p := ⟨Q, 3, none⟩) (.inr HQ.out) _)), Hid.mk ((((HZw6.out.b B2).n 32).n 33)), Hid.mk (HMw6.out.keep ((((Kept.refl [Q] w6).setCell (p := ⟨Q, 1, none⟩) (.inl (by simp)) _).setCell (p := ⟨Q, 3, none⟩) (.inl (by simp)) _).setCell (p := ⟨Q, 3, none⟩) (.inl (by simp)) _) (by simp; exact Ne.symm HQ2.out.2) (by simp; exact Ne.symm HQ2.out.1))⟩
            rw [hw7]
            clear hw7 z0 z1 z2 z3
            obtain ⟨z0, z1, z2, z3⟩ := HZw7.out.cells
            have f0 := HZw7.out.fz 0
            have f1 := HZw7.out.fz 1
            have f2 := HZw7.out.fz 2
            have f3 := HZw7.out.fz 3
            refine (CV.out _ _).mono ?_
            rintro e w8 ⟨rfl, hw⟩; obtain rfl := hw.symm
            have hS : ct (S + 1) (-128) 127 = min (S + 1) 127 := by unfold ct; omega
            rw [hS]
            clear hS
            have hfo : (Sx.mk A2 B2 S 33).follow = ⟨A2, min (B2 - 33) 0, min (S + 1) 127, 33⟩ := by unfold Sx.follow; rw [if_neg (by dsimp only; omega), if_pos (by dsimp only; omega)]
            generalize min (S + 1) 127 = S2 at *
            by_cases hl2 : 0 < B2 - 33
            · have hres : res = ⟨A2, 0, S2, 33⟩ := by rw [HL2.out, hage, hfo, show min (B2 - 33) 0 = 0 by omega]
              clear hfo
              go_wp2

              obtain ⟨wF, hwF, HKwF, HZwF, HMwF⟩ : ∃ wF, (((w7.setCell ⟨Q, 2, none⟩ (.int .i64 S2)).setCell ⟨Q, 1, none⟩ (.int .i64 (B2 - 33))).setCell ⟨Q, 1, none⟩ (.int .i64 0)) = wF ∧ Hid (Kept [] w' wF) ∧ Hid (Lc wF Q A2 0 S2 33) ∧ Hid (Rd wF R g cap T d L) :=
                ⟨_, rfl, Hid.mk ((((HKw7.out.setCell (p := ⟨Q, 2, none⟩) (.inr HQ.out) _).setCell (p := ⟨Q, 1, none⟩) (.inr HQ.out) _).setCell (p := ⟨Q, 1, none⟩) (.inr HQ.out) _)), Hid.mk ((((HZw7.out.s S2).b (B2 - 33)).b 0)), Hid.mk (HMw7.out.keep ((((Kept.refl [Q] w7).setCell (p := ⟨Q, 2, none⟩) (.inl (by simp)) _).setCell (p := ⟨Q, 1, none⟩) (.inl (by simp)) _).setCell (p := ⟨Q, 1, none⟩) (.inl (by simp)) _) (by simp; exact Ne.symm HQ2.out.2) (by simp; exact Ne.symm HQ2.out.1))⟩
              rw [hwF]
              clear hwF z0 z1 z2 z3
              obtain ⟨z0, z1, z2, z3⟩ := HZwF.out.cells
              have f0 := HZwF.out.fz 0
              have f1 := HZwF.out.fz 1
              have f2 := HZwF.out.fz 2
              have f3 := HZwF.out.fz 3

              have HMf := Hid.mk (HMwF.out.put hn FF.out)
              have HKf := Hid.mk (HKwF.out)
              obtain ⟨a1, a2, a3, a4⟩ := HMwF.out.ctx n hn
              have b5 := HMwF.out.sl
              obtain ⟨cs, hcs, hsz⟩ := HMwF.out.blk
              have e0 := frozen_of_row wF g (n * 4) cs 77 hcs
              have e1 := frozen_of_row wF g (n * 4 + 1) cs 77 hcs
              have e2 := frozen_of_row wF g (n * 4 + 2) cs 77 hcs
              have e3 := frozen_of_row wF g (n * 4 + 3) cs 77 hcs
              clear hcs hsz
              go_region_law (fail)
              all_goals
                go_wp2
                go_end0
                refine ⟨rfl, ?_, ?_⟩
                · have := HMf.out.drewN 1
                  rw [hres] at this ⊢
                  exact this
                · have := (((Kept.refl [] w').trans HKf.out).mono (l2 := [g]) (fun x hx => by simp at hx)).trans (pt4_kept wF g (n * 4) res)
                  rw [hres] at this
                  exact this.drew
            · have hres : res = ⟨A2, B2 - 33, S2, 33⟩ := by rw [HL2.out, hage, hfo, show min (B2 - 33) 0 = B2 - 33 by omega]
              clear hfo
              go_wp2

              obtain ⟨wF, hwF, HKwF, HZwF, HMwF⟩ : ∃ wF, ((w7.setCell ⟨Q, 2, none⟩ (.int .i64 S2)).setCell ⟨Q, 1, none⟩ (.int .i64 (B2 - 33))) = wF ∧ Hid (Kept [] w' wF) ∧ Hid (Lc wF Q A2 (B2 - 33) S2 33) ∧ Hid (Rd wF R g cap T d L) :=
                ⟨_, rfl, Hid.mk (((HKw7.out.setCell (p := ⟨Q, 2, none⟩) (.inr HQ.out) _).setCell (p := ⟨Q, 1, none⟩) (.inr HQ.out) _)), Hid.mk (((HZw7.out.s S2).b (B2 - 33))), Hid.mk (HMw7.out.keep (((Kept.refl [Q] w7).setCell (p := ⟨Q, 2, none⟩) (.inl (by simp)) _).setCell (p := ⟨Q, 1, none⟩) (.inl (by simp)) _) (by simp; exact Ne.symm HQ2.out.2) (by simp; exact Ne.symm HQ2.out.1))⟩
              rw [hwF]
              clear hwF z0 z1 z2 z3
              obtain ⟨z0, z1, z2, z3⟩ := HZwF.out.cells
              have f0 := HZwF.out.fz 0
              have f1 := HZwF.out.fz 1
              have f2 := HZwF.out.fz 2
              have f3 := HZwF.out.fz 3

              have HMf := Hid.mk (HMwF.out.put hn FF.out)
              have HKf := Hid.mk (HKwF.out)
              obtain ⟨a1, a2, a3, a4⟩ := HMwF.out.ctx n hn
              have b5 := HMwF.out.sl
              obtain ⟨cs, hcs, hsz⟩ := HMwF.out.blk
              have e0 := frozen_of_row wF g (n * 4) cs 77 hcs
              have e1 := frozen_of_row wF g (n * 4 + 1) cs 77 hcs
              have e2 := frozen_of_row wF g (n * 4 + 2) cs 77 hcs
              have e3 := frozen_of_row wF g (n * 4 + 3) cs 77 hcs
              clear hcs hsz
              go_region_law (fail)
              all_goals
                go_wp2
                go_end0
                refine ⟨rfl, ?_, ?_⟩
                · have := HMf.out.drewN 1
                  rw [hres] at this ⊢
                  exact this
                · have := (((Kept.refl [] w').trans HKf.out).mono (l2 := [g]) (fun x hx => by simp at hx)).trans (pt4_kept wF g (n * 4) res)
                  rw [hres] at this
                  exact this.drew
          · have hres : res = ⟨A2, B2, S, 33⟩ := by rw [HL2.out, hage]; unfold Sx.follow; rw [if_neg (by dsimp only; omega), if_neg (by dsimp only; omega)]
            go_wp2

            obtain ⟨wF, hwF, HKwF, HZwF, HMwF⟩ : ∃ wF, (((w6.setCell ⟨Q, 1, none⟩ (.int .i64 B2)).setCell ⟨Q, 3, none⟩ (.int .i64 32)).setCell ⟨Q, 3, none⟩ (.int .i64 33)) = wF ∧ Hid (Kept [] w' wF) ∧ Hid (Lc wF Q A2 B2 S 33) ∧ Hid (Rd wF R g cap T d L) :=
              ⟨_, rfl, Hid.mk ((((HKw6.out.setCell (p := ⟨Q, 1, none⟩) (.inr HQ.out) _).setCell (p := ⟨Q, 3, none⟩) (.inr HQ.out) _).setCell (p := ⟨Q, 3, none⟩) (.inr HQ.out) _)), Hid.mk ((((HZw6.out.b B2).n 32).n 33)), Hid.mk (HMw6.out.keep ((((Kept.refl [Q] w6).setCell (p := ⟨Q, 1, none⟩) (.inl (by simp)) _).setCell (p := ⟨Q, 3, none⟩) (.inl (by simp)) _).setCell (p := ⟨Q, 3, none⟩) (.inl (by simp)) _) (by simp; exact Ne.symm HQ2.out.2) (by simp; exact Ne.symm HQ2.out.1))⟩
            rw [hwF]
            clear hwF z0 z1 z2 z3
            obtain ⟨z0, z1, z2, z3⟩ := HZwF.out.cells
            have f0 := HZwF.out.fz 0
            have f1 := HZwF.out.fz 1
            have f2 := HZwF.out.fz 2
            have f3 := HZwF.out.fz 3

            have HMf := Hid.mk (HMwF.out.put hn FF.out)
            have HKf := Hid.mk (HKwF.out)
            obtain ⟨a1, a2, a3, a4⟩ := HMwF.out.ctx n hn
            have b5 := HMwF.out.sl
            obtain ⟨cs, hcs, hsz⟩ := HMwF.out.blk
            have e0 := frozen_of_row wF g (n * 4) cs 77 hcs
            have e1 := frozen_of_row wF g (n * 4 + 1) cs 77 hcs
            have e2 := frozen_of_row wF g (n * 4 + 2) cs 77 hcs
            have e3 := frozen_of_row wF g (n * 4 + 3) cs 77 hcs
            clear hcs hsz
            go_region_law (fail)
            all_goals
              go_wp2
              go_end0
              refine ⟨rfl, ?_, ?_⟩
              · have := HMf.out.drewN 1
                rw [hres] at this ⊢
                exact this
              · have := (((Kept.refl [] w').trans HKf.out).mono (l2 := [g]) (fun x hx => by simp at hx)).trans (pt4_kept wF g (n * 4) res)
                rw [hres] at this
                exact this.drew
      · have hage : (Sx.mk A1 B1 S N).age = ⟨A1, B1, S, N + 1⟩ := by simp [Sx.age, hN]
        have hN' : (N == 64) = false := by simpa using hN
        by_cases hl : B1 ≤ -(N + 1)
        · go_wp2_with (fail)

          obtain ⟨w7, hw7, HKw7, HZw7, HMw7⟩ : ∃ w7, (w4.setCell ⟨Q, 3, none⟩ (.int .i64 (N + 1))) = w7 ∧ Hid (Kept [] w' w7) ∧ Hid (Lc w7 Q A1 B1 S (N + 1)) ∧ Hid (Rd w7 R g cap T d L) :=
            ⟨_, rfl, Hid.mk ((HKw4.out.setCell (p := ⟨Q, 3, none⟩) (.inr HQ.out) _)), Hid.mk ((HZw4.out.n (N + 1))), Hid.mk (HMw4.out.keep ((Kept.refl [Q] w4).setCell (p := ⟨Q, 3, none⟩) (.inl (by simp)) _) (by simp; exact Ne.symm HQ2.out.2) (by simp; exact Ne.symm HQ2.out.1))⟩
          rw [hw7]
          clear hw7 z0 z1 z2 z3
          obtain ⟨z0, z1, z2, z3⟩ := HZw7.out.cells
          have f0 := HZw7.out.fz 0
          have f1 := HZw7.out.fz 1
          have f2 := HZw7.out.fz 2
          have f3 := HZw7.out.fz 3
          refine (CV.out _ _).mono ?_
          rintro e w8 ⟨rfl, hw⟩; obtain rfl := hw.symm
          have hS : ct (S - 1) (-128) 127 = max (S - 1) (-128) := by unfold ct; omega
          rw [hS]
          clear hS
          have t0 : -128 ≤ max (S - 1) (-128) := by omega
          have t1 : max (S - 1) (-128) ≤ 127 := by omega
          have hfo : (Sx.mk A1 B1 S (N + 1)).follow = ⟨A1, max (B1 + (N + 1)) (1 - (N + 1)), max (S - 1) (-128), (N + 1)⟩ := by unfold Sx.follow; rw [if_pos (by dsimp only; omega)]
          generalize max (S - 1) (-128) = S2 at *
          by_cases hl2 : B1 + (N + 1) ≤ -(N + 1)
          · have hres : res = ⟨A1, 1 - (N + 1), S2, (N + 1)⟩ := by rw [HL2.out, hage, hfo, show max (B1 + (N + 1)) (1 - (N + 1)) = 1 - (N + 1) by omega]
            clear hfo
            go_wp2

            obtain ⟨wF, hwF, HKwF, HZwF, HMwF⟩ : ∃ wF, (((w7.setCell ⟨Q, 2, none⟩ (.int .i64 S2)).setCell ⟨Q, 1, none⟩ (.int .i64 (B1 + (N + 1)))).setCell ⟨Q, 1, none⟩ (.int .i64 (1 - (N + 1)))) = wF ∧ Hid (Kept [] w' wF) ∧ Hid (Lc wF Q A1 (1 - (N + 1)) S2 (N + 1)) ∧ Hid (Rd wF R g cap T d L) :=
              ⟨_, rfl, Hid.mk ((((HKw7.out.setCell (p := ⟨Q, 2, none⟩) (.inr HQ.out) _).setCell (p := ⟨Q, 1, none⟩) (.inr HQ.out) _).setCell (p := ⟨Q, 1, none⟩) (.inr HQ.out) _)), Hid.mk ((((HZw7.out.s S2).b (B1 + (N + 1))).b (1 - (N + 1)))), Hid.mk (HMw7.out.keep ((((Kept.refl [Q] w7).setCell (p := ⟨Q, 2, none⟩) (.inl (by simp)) _).setCell (p := ⟨Q, 1, none⟩) (.inl (by simp)) _).setCell (p := ⟨Q, 1, none⟩) (.inl (by simp)) _) (by simp; exact Ne.symm HQ2.out.2) (by simp; exact Ne.symm HQ2.out.1))⟩
            rw [hwF]
            clear hwF z0 z1 z2 z3
            obtain ⟨z0, z1, z2, z3⟩ := HZwF.out.cells
            have f0 := HZwF.out.fz 0
            have f1 := HZwF.out.fz 1
            have f2 := HZwF.out.fz 2
            have f3 := HZwF.out.fz 3

            have HMf := Hid.mk (HMwF.out.put hn FF.out)
            have HKf := Hid.mk (HKwF.out)
            obtain ⟨a1, a2, a3, a4⟩ := HMwF.out.ctx n hn
            have b5 := HMwF.out.sl
            obtain ⟨cs, hcs, hsz⟩ := HMwF.out.blk
            have e0 := frozen_of_row wF g (n * 4) cs 77 hcs
            have e1 := frozen_of_row wF g (n * 4 + 1) cs 77 hcs
            have e2 := frozen_of_row wF g (n * 4 + 2) cs 77 hcs
            have e3 := frozen_of_row wF g (n * 4 + 3) cs 77 hcs
            clear hcs hsz
            go_region_law (fail)
            all_goals
              go_wp2
              go_end0
              refine ⟨rfl, ?_, ?_⟩
              · have := HMf.out.drewN 1
                rw [hres] at this ⊢
                exact this
              · have := (((Kept.refl [] w').trans HKf.out).mono (l2 := [g]) (fun x hx => by simp at hx)).trans (pt4_kept wF g (n * 4) res)
                rw [hres] at this
                exact this.drew
          · have hres : res = ⟨A1, B1 + (N + 1), S2, (N + 1)⟩ := by rw [HL2.out, hage, hfo, show max (B1 + (N + 1)) (1 - (N + 1)) = B1 + (N + 1) by omega]
            clear hfo
            go_wp2

            obtain ⟨wF, hwF, HKwF, HZwF, HMwF⟩ : ∃ wF, ((w7.setCell ⟨Q, 2, none⟩ (.int .i64 S2)).setCell ⟨Q, 1, none⟩ (.int .i64 (B1 + (N + 1)))) = wF ∧ Hid (Kept [] w' wF) ∧ Hid (Lc wF Q A1 (B1 + (N + 1)) S2 (N + 1)) ∧ Hid (Rd wF R g cap T d L) :=
              ⟨_, rfl, Hid.mk (((HKw7.out.setCell (p := ⟨Q, 2, none⟩) (.inr HQ.out) _).setCell (p := ⟨Q, 1, none⟩) (.inr HQ.out) _)), Hid.mk (((HZw7.out.s S2).b (B1 + (N + 1)))), Hid.mk (HMw7.out.keep (((Kept.refl [Q] w7).setCell (p := ⟨Q, 2, none⟩) (.inl (by simp)) _).setCell (p := ⟨Q, 1, none⟩) (.inl (by simp)) _) (by simp; exact Ne.symm HQ2.out.2) (by simp; exact Ne.symm HQ2.out.1))⟩
            rw [hwF]
            clear hwF z0 z1 z2 z3
            obtain ⟨z0, z1, z2, z3⟩ := HZwF.out.cells
            have f0 := HZwF.out.fz 0
            have f1 := HZwF.out.fz 1
            have f2 := HZwF.out.fz 2
            have f3 := HZwF.out.fz 3

            have HMf := Hid.mk (HMwF.out.put hn FF.out)
            have HKf := Hid.mk (HKwF.out)
            obtain ⟨a1, a2, a3, a4⟩ := HMwF.out.ctx n hn
            have b5 := HMwF.out.sl
            obtain ⟨cs, hcs, hsz⟩ := HMwF.out.blk
            have e0 := frozen_of_row wF g (n * 4) cs 77 hcs
            have e1 := frozen_of_row wF g (n * 4 + 1) cs 77 hcs
            have e2 := frozen_of_row wF g (n * 4 + 2) cs 77 hcs
            have e3 := frozen_of_row wF g (n * 4 + 3) cs 77 hcs
            clear hcs hsz
            go_region_law (fail)
            all_goals
              go_wp2
              go_end0
              refine ⟨rfl, ?_, ?_⟩
              · have := HMf.out.drewN 1
                rw [hres] at this ⊢
                exact this
              · have := (((Kept.refl [] w').trans HKf.out).mono (l2 := [g]) (fun x hx => by simp at hx)).trans (pt4_kept wF g (n * 4) res)
                rw [hres] at this
                exact this.drew
        · by_cases hh : 0 < B1
          · go_wp2_with (fail)

            obtain ⟨w7, hw7, HKw7, HZw7, HMw7⟩ : ∃ w7, (w4.setCell ⟨Q, 3, none⟩ (.int .i64 (N + 1))) = w7 ∧ Hid (Kept [] w' w7) ∧ Hid (Lc w7 Q A1 B1 S (N + 1)) ∧ Hid (Rd w7 R g cap T d L) :=
              ⟨_, rfl, Hid.mk ((HKw4.out.setCell (p := ⟨Q, 3, none⟩) (.inr HQ.out) _)), Hid.mk ((HZw4.out.n (N + 1))), Hid.mk (HMw4.out.keep ((Kept.refl [Q] w4).setCell (p := ⟨Q, 3, none⟩) (.inl (by simp)) _) (by simp; exact Ne.symm HQ2.out.2) (by simp; exact Ne.symm HQ2.out.1))⟩
            rw [hw7]
            clear hw7 z0 z1 z2 z3
            obtain ⟨z0, z1, z2, z3⟩ := HZw7.out.cells
            have f0 := HZw7.out.fz 0
            have f1 := HZw7.out.fz 1
            have f2 := HZw7.out.fz 2
            have f3 := HZw7.out.fz 3
            refine (CV.out _ _).mono ?_
            rintro e w8 ⟨rfl, hw⟩; obtain rfl := hw.symm
            have hS : ct (S + 1) (-128) 127 = min (S + 1) 127 := by unfold ct; omega
            rw [hS]
            clear hS
            have hfo : (Sx.mk A1 B1 S (N + 1)).follow = ⟨A1, min (B1 - (N + 1)) 0, min (S + 1) 127, (N + 1)⟩ := by unfold Sx.follow; rw [if_neg (by dsimp only; omega), if_pos (by dsimp only; omega)]
            generalize min (S + 1) 127 = S2 at *
            by_cases hl2 : 0 < B1 - (N + 1)
            · have hres : res = ⟨A1, 0, S2, (N + 1)⟩ := by rw [HL2.out, hage, hfo, show min (B1 - (N + 1)) 0 = 0 by omega]
              clear hfo
              go_wp2

              obtain ⟨wF, hwF, HKwF, HZwF, HMwF⟩ : ∃ wF, (((w7.setCell ⟨Q, 2, none⟩ (.int .i64 S2)).setCell ⟨Q, 1, none⟩ (.int .i64 (B1 - (N + 1)))).setCell ⟨Q, 1, none⟩ (.int .i64 0)) = wF ∧ Hid (Kept [] w' wF) ∧ Hid (Lc wF Q A1 0 S2 (N + 1)) ∧ Hid (Rd wF R g cap T d L) :=
                ⟨_, rfl, Hid.mk ((((HKw7.out.setCell (p := ⟨Q, 2, none⟩) (.inr HQ.out) _).setCell (p := ⟨Q, 1, none⟩) (.inr HQ.out) _).setCell (p := ⟨Q, 1, none⟩) (.inr HQ.out) _)), Hid.mk ((((HZw7.out.s S2).b (B1 - (N + 1))).b 0)), Hid.mk (HMw7.out.keep ((((Kept.refl [Q] w7).setCell (p := ⟨Q, 2, none⟩) (.inl (by simp)) _).setCell (p := ⟨Q, 1, none⟩) (.inl (by simp)) _).setCell (p := ⟨Q, 1, none⟩) (.inl (by simp)) _) (by simp; exact Ne.symm HQ2.out.2) (by simp; exact Ne.symm HQ2.out.1))⟩
              rw [hwF]
              clear hwF z0 z1 z2 z3
              obtain ⟨z0, z1, z2, z3⟩ := HZwF.out.cells
              have f0 := HZwF.out.fz 0
              have f1 := HZwF.out.fz 1
              have f2 := HZwF.out.fz 2
              have f3 := HZwF.out.fz 3

              have HMf := Hid.mk (HMwF.out.put hn FF.out)
              have HKf := Hid.mk (HKwF.out)
              obtain ⟨a1, a2, a3, a4⟩ := HMwF.out.ctx n hn
              have b5 := HMwF.out.sl
              obtain ⟨cs, hcs, hsz⟩ := HMwF.out.blk
              have e0 := frozen_of_row wF g (n * 4) cs 77 hcs
              have e1 := frozen_of_row wF g (n * 4 + 1) cs 77 hcs
              have e2 := frozen_of_row wF g (n * 4 + 2) cs 77 hcs
              have e3 := frozen_of_row wF g (n * 4 + 3) cs 77 hcs
              clear hcs hsz
              go_region_law (fail)
              all_goals
                go_wp2
                go_end0
                refine ⟨rfl, ?_, ?_⟩
                · have := HMf.out.drewN 1
                  rw [hres] at this ⊢
                  exact this
                · have := (((Kept.refl [] w').trans HKf.out).mono (l2 := [g]) (fun x hx => by simp at hx)).trans (pt4_kept wF g (n * 4) res)
                  rw [hres] at this
                  exact this.drew
            · have hres : res = ⟨A1, B1 - (N + 1), S2, (N + 1)⟩ := by rw [HL2.out, hage, hfo, show min (B1 - (N + 1)) 0 = B1 - (N + 1) by omega]
              clear hfo
              go_wp2

              obtain ⟨wF, hwF, HKwF, HZwF, HMwF⟩ : ∃ wF, ((w7.setCell ⟨Q, 2, none⟩ (.int .i64 S2)).setCell ⟨Q, 1, none⟩ (.int .i64 (B1 - (N + 1)))) = wF ∧ Hid (Kept [] w' wF) ∧ Hid (Lc wF Q A1 (B1 - (N + 1)) S2 (N + 1)) ∧ Hid (Rd wF R g cap T d L) :=
                ⟨_, rfl, Hid.mk (((HKw7.out.setCell (p := ⟨Q, 2, none⟩) (.inr HQ.out) _).setCell (p := ⟨Q, 1, none⟩) (.inr HQ.out) _)), Hid.mk (((HZw7.out.s S2).b (B1 - (N + 1)))), Hid.mk (HMw7.out.keep (((Kept.refl [Q] w7).setCell (p := ⟨Q, 2, none⟩) (.inl (by simp)) _).setCell (p := ⟨Q, 1, none⟩) (.inl (by simp)) _) (by simp; exact Ne.symm HQ2.out.2) (by simp; exact Ne.symm HQ2.out.1))⟩
              rw [hwF]
              clear hwF z0 z1 z2 z3
              obtain ⟨z0, z1, z2, z3⟩ := HZwF.out.cells
              have f0 := HZwF.out.fz 0
              have f1 := HZwF.out.fz 1
              have f2 := HZwF.out.fz 2
              have f3 := HZwF.out.fz 3

              have HMf := Hid.mk (HMwF.out.put hn FF.out)
              have HKf := Hid.mk (HKwF.out)
              obtain ⟨a1, a2, a3, a4⟩ := HMwF.out.ctx n hn
              have b5 := HMwF.out.sl
              obtain ⟨cs, hcs, hsz⟩ := HMwF.out.blk
              have e0 := frozen_of_row wF g (n * 4) cs 77 hcs
              have e1 := frozen_of_row wF g (n * 4 + 1) cs 77 hcs
              have e2 := frozen_of_row wF g (n * 4 + 2) cs 77 hcs
              have e3 := frozen_of_row wF g (n * 4 + 3) cs 77 hcs
              clear hcs hsz
              go_region_law (fail)
              all_goals
                go_wp2
                go_end0
                refine ⟨rfl, ?_, ?_⟩
                · have := HMf.out.drewN 1
                  rw [hres] at this ⊢
                  exact this
                · have := (((Kept.refl [] w').trans HKf.out).mono (l2 := [g]) (fun x hx => by simp at hx)).trans (pt4_kept wF g (n * 4) res)
                  rw [hres] at this
                  exact this.drew
          · have hres : res = ⟨A1, B1, S, (N + 1)⟩ := by rw [HL2.out, hage]; unfold Sx.follow; rw [if_neg (by dsimp only; omega), if_neg (by dsimp only; omega)]
            go_wp2

            obtain ⟨wF, hwF, HKwF, HZwF, HMwF⟩ : ∃ wF, (w4.setCell ⟨Q, 3, none⟩ (.int .i64 (N + 1))) = wF ∧ Hid (Kept [] w' wF) ∧ Hid (Lc wF Q A1 B1 S (N + 1)) ∧ Hid (Rd wF R g cap T d L) :=
              ⟨_, rfl, Hid.mk ((HKw4.out.setCell (p := ⟨Q, 3, none⟩) (.inr HQ.out) _)), Hid.mk ((HZw4.out.n (N + 1))), Hid.mk (HMw4.out.keep ((Kept.refl [Q] w4).setCell (p := ⟨Q, 3, none⟩) (.inl (by simp)) _) (by simp; exact Ne.symm HQ2.out.2) (by simp; exact Ne.symm HQ2.out.1))⟩
            rw [hwF]
            clear hwF z0 z1 z2 z3
            obtain ⟨z0, z1, z2, z3⟩ := HZwF.out.cells
            have f0 := HZwF.out.fz 0
            have f1 := HZwF.out.fz 1
            have f2 := HZwF.out.fz 2
            have f3 := HZwF.out.fz 3

            have HMf := Hid.mk (HMwF.out.put hn FF.out)
            have HKf := Hid.mk (HKwF.out)
            obtain ⟨a1, a2, a3, a4⟩ := HMwF.out.ctx n hn
            have b5 := HMwF.out.sl
            obtain ⟨cs, hcs, hsz⟩ := HMwF.out.blk
            have e0 := frozen_of_row wF g (n * 4) cs 77 hcs
            have e1 := frozen_of_row wF g (n * 4 + 1) cs 77 hcs
            have e2 := frozen_of_row wF g (n * 4 + 2) cs 77 hcs
            have e3 := frozen_of_row wF g (n * 4 + 3) cs 77 hcs
            clear hcs hsz
            go_region_law (fail)
            all_goals
              go_wp2
              go_end0
              refine ⟨rfl, ?_, ?_⟩
              · have := HMf.out.drewN 1
                rw [hres] at this ⊢
                exact this
              · have := (((Kept.refl [] w').trans HKf.out).mono (l2 := [g]) (fun x hx => by simp at hx)).trans (pt4_kept wF g (n * 4) res)
                rw [hres] at this
                exact this.drew

end Go.Proofs.Ytpjogodepionoaa
