import Derived.Test.YthihennifigchaaKd
namespace Go.Proofs.Ythihennifigchaa.Bk
open Go.RowKit

theorem Try.info36 : (Try.prog.info? 36).map (fun i => (i.zero, i.size, i.bytes)) = some (some (.slice none 0 0), 1, 24) := by kernel_rfl
theorem Try.info52 : (Try.prog.info? 52).map (fun i => (i.zero, i.size, i.bytes)) = some (some (.slice none 0 0), 1, 24) := by kernel_rfl
theorem Try.info65 : (Try.prog.info? 65).map (fun i => (i.zero, i.size, i.bytes)) = some (some (.int .u16 0), 1, 2) := by kernel_rfl
theorem Try.info79 : (Try.prog.info? 79).map (fun i => (i.zero, i.size, i.bytes)) = some (some (.agg #[.slice none 0 0, .int .u16 0]), 2, 32) := by kernel_rfl

theorem own_cell {w : World} {B e : Nat} {S : Value} {n : Nat} {lv : Nat → Value} (h : w.ownsRow B e 1 S n (vals lv n)) (k : Nat) (hk : k < n) : ∃ g cap, S = .slice (some ⟨g, 0, none⟩) n cap ∧ w.cell? ⟨g, k, none⟩ = some (lv k) ∧ w.frozen? ⟨g, k, none⟩ = false := by
  rcases h.2 with ⟨_, h1⟩ | ⟨g, c1, cur, h1, _⟩
  · omega
  · subst h1
    exact ⟨g, c1, rfl, by rw [h.cellAt k (by omega), vals_at _ _ _ hk], h.frozenAt k⟩
theorem held_cell {w : World} {B : Nat} {S : Value} {n : Nat} {HV : Nat → Value} {HM : Nat → Int} (h : w.ownsRow B 79 2 S n (hfl HV HM n)) (k : Nat) (hk : k < n) : ∃ g cap, S = .slice (some ⟨g, 0, none⟩) n cap ∧ w.cell? ⟨g, k * 2, none⟩ = some (HV k) ∧ w.cell? ⟨g, k * 2 + 1, none⟩ = some (.int .u16 (HM k)) ∧ w.frozen? ⟨g, k * 2, none⟩ = false := by
  rcases h.2 with ⟨_, h1⟩ | ⟨g, c1, cur, h1, _⟩
  · omega
  · subst h1
    obtain ⟨a, b⟩ := hfl_at HV HM n k hk
    exact ⟨g, c1, rfl, by rw [h.cellAt (k * 2) (by omega), a], by rw [h.cellAt (k * 2 + 1) (by omega), b], h.frozenAt _⟩

theorem drewN_add (w : World) (a b : Nat) : (w.drewN b).drewN a = w.drewN (a + b) := by
  induction a with
  | zero => rw [Nat.zero_add]; rfl
  | succ a ih => rw [Nat.succ_add]; show ((w.drewN b).drewN a).drew = (w.drewN (a + b)).drew; rw [ih]

set_option maxHeartbeats 4000000 in
set_option maxRecDepth 100000 in
theorem take_any (W w : World) (A : Nat) (s : Bo) (v : Value) (ao : Option Addr) (n c : Nat) (hv : v = .slice ao n c) (h : BAt W w A s) (hr : s.r ≤ 1000000) :
    Calls Try.prog 19 #[.pointer (some ⟨A, 0, none⟩), v] w fun e w' => e = .returned (.tuple #[]) ∧ ∃ Sn, BAt W w' A (s.appo v Sn) := by
  subst hv
  obtain ⟨i0, hi, hz0, hz1, hz2⟩ := info_parts Try.info36
  have HH := Hid.mk h
  obtain ⟨⟨-, -, c2⟩, f⟩ := h.cells
  have f2 := f 2
  obtain ⟨ao2, cp2, eS⟩ := row_form h.out
  rw [eS] at c2
  have hrow := h.out
  rw [eS] at hrow
  have HRow := Hid.mk hrow
  have HES := Hid.mk eS
  clear h f eS hrow
  go_enter Try.func19, Try.ntmps19
  go_wp2_with (at_builtin; refine wpList_app1 w rfl _ _ 33 0 36 i0 (.slice none 0 0) 24 Try.underlying33 hi hz0 hz1 hz2 rfl rfl (.slice ao2 s.r cp2) s.r (vals s.OV s.r) (by rfl) HRow.out (.slice ao n c) (by rfl) rfl (Nat.zero_le _) (by omega) (by omega) ?_; intro v' w4 ho4 hk4 hl4; obtain ⟨ao4, cp4, rfl⟩ := row_form ho4; rw [← HES.out] at hk4 hl4; have hbx := HH.out.boxKeptO hk4; have z0 : w4.cell? ⟨A, 2, none⟩ = some s.SO := (by simp [World.cell?, hbx]); have z1 : w4.frozen? ⟨A, 2, none⟩ = false := (by simp [World.frozen?, hbx]); have HO4 := Hid.mk ho4; have HK4 := Hid.mk hk4; have HL4 := Hid.mk hl4; clear ho4 hk4 hl4 hbx)
  go_end0
  exact ⟨rfl, _, HH.out.appo _ _ HK4.out HL4.out HO4.out⟩

set_option maxHeartbeats 8000000 in
set_option maxRecDepth 100000 in
theorem looks_any (W w : World) (A : Nat) (s : Bo) (h : BAt W w A s) (hJ : ∀ j, j < s.h → s.J j) (hh : s.h ≤ 1000000) (hr : s.r = s.n) (hrl : ∀ i, i < s.n → s.rl i = s.kn i) (hO : ∀ i, i < s.n → s.OV i = s.RV i) (hn : s.n ≤ 1000000) (hkn : ∀ i, s.kn i ≤ 1000000)
    (h9 : ∀ i k, i < s.n → k < s.kn i → ∃ b c, s.LV i k = .slice (some ⟨b, 0, none⟩) 1 c ∧ s.LX i k = zlf .u16 65 (some ⟨b, 0, none⟩) 1 (fun _ => 9)) :
    Calls Try.prog 47 #[.pointer (some ⟨A, 0, none⟩)] w fun e w' => e = .returned (.bool true) ∧ BAt W w' A s := by
  have HH := Hid.mk h
  have HJ := Hid.mk hJ
  have HX := Hid.mk (And.intro hr (And.intro hrl (And.intro hO (And.intro hkn h9))))
  clear h hJ hr hrl hO hkn h9
  go_enter Try.func47, Try.ntmps47
  go_wp2
  go_loopw [3] (fun i wr => ∃ k : Nat, k ≤ s.h ∧ i = .int .i64 (k : Int) ∧ BAt W wr A s) (fun i _ => s.h - (intOf i).toNat)
  case atStart => exact ⟨0, by omega, rfl, HH.out⟩
  case round =>
    obtain ⟨j, hj, rfl, H⟩ := hrel
    obtain ⟨wo, ewo⟩ : ∃ wo, wo = wr := ⟨_, rfl⟩
    subst ewo
    have H1 := Hid.mk H
    obtain ⟨⟨c0, -, -⟩, -⟩ := H.cells
    obtain ⟨aoS, cpS, eS⟩ := row_form H.held
    rw [eS] at c0
    clear H
    by_cases hlt : j < s.h
    · obtain ⟨gH, cpH, eH, d0, d1, -⟩ := held_cell H1.out.held j hlt
      obtain ⟨rfl, rfl⟩ : aoS = some ⟨gH, 0, none⟩ ∧ cpS = cpH := by have := eS.symm.trans eH; simp at this; exact this
      obtain ⟨ao, N, cap, hv, hN, hal, -⟩ := H1.out.dead j (HJ.out j hlt)
      rw [hv] at d0
      have HAL := Hid.mk hal
      have ix : (j : Int) < (s.h : Int) := by omega
      generalize s.HM j = mk at *
      clear eS eH hv hal
      go_wp2
      go_loopw [4] (fun i wq => ∃ k : Nat, k ≤ N ∧ i = .int .i64 (k : Int) ∧ ∃ q, wq = wo.drewN q) (fun i _ => N - (intOf i).toNat)
      case atStart => exact ⟨0, by omega, rfl, 0, rfl⟩
      case round =>
        obtain ⟨k, hk, rfl, q, rfl⟩ := hrel
        by_cases hkN : k < N
        · obtain ⟨G, off, hG, hcc⟩ : ∃ G off, ao = some ⟨G, off, none⟩ ∧ wo.cell? ⟨G, off + k, none⟩ = some (.int .u16 mk) := by
            rcases HAL.out with h | ⟨G, off, h1, h2⟩
            · omega
            · exact ⟨G, off, h1, h2 k hkN⟩
          subst hG
          have ixk : (k : Int) < (N : Int) := by omega
          go_wp2
          go_quiet (fail)
          go_wp2
          exact ⟨⟨k + 1, by omega, by go_num, q + nq, rfl⟩, by simp [intOf]; omega⟩
        · go_wp2
          exact ⟨⟨j + 1, by omega, by go_num, H1.out.keep ((Kept.refl [] wo).drewN q)⟩, by simp [intOf]; omega⟩
    · clear eS
      go_wp2
      clear c0 hj hlt
      go_loopw [5] (fun i wr => ∃ k : Nat, k ≤ s.n ∧ i = .int .i64 (k : Int) ∧ wr = wo) (fun i _ => s.n - (intOf i).toNat)
      case atStart => exact ⟨0, by omega, rfl, rfl⟩
      case round =>
        obtain ⟨i, hi, rfl, hwr⟩ := hrel
        obtain rfl := hwr.symm
        obtain ⟨⟨-, -, c2⟩, -⟩ := H1.out.cells
        obtain ⟨aoO, cpO, eO⟩ := row_form H1.out.out
        rw [eO, HX.out.1] at c2
        by_cases hlt : i < s.n
        · obtain ⟨gO, cpO', eO', y0, -⟩ := own_cell H1.out.out i (by rw [HX.out.1]; exact hlt)
          obtain ⟨rfl, rfl⟩ : aoO = some ⟨gO, 0, none⟩ ∧ cpO = cpO' := by have := eO.symm.trans eO'; simp at this; exact this
          rw [HX.out.2.2.1 i hlt] at y0
          obtain ⟨aoR, cpR, eR⟩ := row_form (H1.out.row i hlt)
          rw [eR, HX.out.2.1 i hlt] at y0
          have HER := Hid.mk eR
          have ix : (i : Int) < (s.n : Int) := by omega
          have hkb := HX.out.2.2.2.1 i
          clear eO eO' eR
          go_wp2
          go_loopw [6] (fun t wr => ∃ k : Nat, k ≤ s.kn i ∧ t = .int .i64 (k : Int) ∧ wr = wo) (fun t _ => s.kn i - (intOf t).toNat)
          case atStart => exact ⟨0, by omega, rfl, rfl⟩
          case round =>
            obtain ⟨k, hk, rfl, hwr2⟩ := hrel
            obtain rfl := hwr2.symm
            by_cases hkl : k < s.kn i
            · obtain ⟨gR, cpR', eR', y1, -⟩ := own_cell (H1.out.row i hlt) k (by rw [HX.out.2.1 i hlt]; exact hkl)
              obtain ⟨rfl, rfl⟩ : aoR = some ⟨gR, 0, none⟩ ∧ cpR = cpR' := by have := HER.out.symm.trans eR'; simp at this; exact this
              obtain ⟨b, c, e1, e2⟩ := HX.out.2.2.2.2 i k hlt hkl
              rw [e1] at y1
              have y2 : wo.cell? ⟨b, 0, none⟩ = some (.int .u16 9) := by
                have hT := H1.out.list i k hlt hkl
                rw [e2] at hT
                rcases hT with ⟨h, _⟩ | ⟨G, hG, hT⟩
                · simp at h
                · simp at hG
                  subst hG
                  rw [cell_of_row _ _ _ _ _ _ hT]
                  rfl
              have ixk : (k : Int) < (s.kn i : Int) := by omega
              clear e1 e2 eR'
              go_wp2
              exact ⟨⟨k + 1, by omega, by go_num, by first | rfl | trivial⟩, by simp [intOf]; omega⟩
            · go_wp2
              exact ⟨⟨i + 1, by omega, by go_num, by first | rfl | trivial⟩, by simp [intOf]; omega⟩
        · clear eO
          go_wp2
          go_ret
          exact ⟨rfl, H1.out⟩
end Go.Proofs.Ythihennifigchaa.Bk
