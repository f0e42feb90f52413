import Derived.Test.YtiganmmacmhndaaGreatDooruC
import Derived.Test.YtiganmmacmhndaaGreatDoorpYZ
import Derived.Test.YtiganmmacmhndaaGreatDoorqPZ
namespace Go.Proofs.YtiganmmacmhndaaGreatDoor.Pc
open Go.RowKit

theorem cell_kw {w : World} (q : KW w) {a : Addr} {v : Value} (h : w.cell? a = some v) : q.u.cell? a = some v :=
  (World.cell?_of_block (a := a) (q.h.block a.block (World.block_lt_of_cell? w _ h) (by simp))).trans h

set_option maxHeartbeats 16000000 in
set_option maxRecDepth 1000000 in
theorem ends_any (W H D : Int) (A : Bool) (sw sh : Int) (r : Nat → Int) (N p ln k : Int) (ao : Option Addr) (m cap : Nat) (l : List Nat) (w : World) (hT : Tab w) (hr : Reads w ao l) (hby : Byts l) (hm : l.length = m) (hmc : m ≤ cap) (hcap : cap ≤ 140737488355328) (s0 : -9223372036854775808 ≤ sw) (s1 : sw ≤ 9223372036854775807) :
    Calls Tryz.prog 4 #[hvv W H D A sw sh r N p ln, .int .i64 k, .slice ao m cap] w fun e w' => e = .returned (.bool true) ∧ Kept [] w w' := by
  obtain ⟨r0, er0⟩ : ∃ x, r 0 = x := ⟨_, rfl⟩
  obtain ⟨r1, er1⟩ : ∃ x, r 1 = x := ⟨_, rfl⟩
  obtain ⟨r2, er2⟩ : ∃ x, r 2 = x := ⟨_, rfl⟩
  obtain ⟨r3, er3⟩ : ∃ x, r 3 = x := ⟨_, rfl⟩
  have C0 := fun u (hu : Kept [] w u) => blocks_any W H D A sw sh r N p ln k ao m cap l u (hT.kept hu (by simp)) (hr.keep hu) hby hm hmc hcap s0 s1
  have C9 := fun u => rRight_any W H D A sw sh r N p ln u
  have EV : hvv W H D A sw sh r N p ln = .agg #[.int .i64 W, .int .i64 H, .int .i64 D, .bool A, .int .i64 sw, .int .i64 sh, .int .i64 r0, .int .i64 r1, .int .i64 r2, .int .i64 r3, .int .i64 N, .int .i64 p, .int .i64 ln] := by show Value.agg _ = _; rw [er0, er1, er2, er3]
  rw [EV] at C0 C9 ⊢
  clear EV
  have C2 := Hid.mk C0
  have C3 := Hid.mk C9
  clear C0 C9
  obtain ⟨B, eB⟩ : ∃ B, w.heap.size = B := ⟨_, rfl⟩
  obtain ⟨w1, e1⟩ : ∃ w1, w.alloc (.cells #[.int .i64 W, .int .i64 H, .int .i64 D, .bool A, .int .i64 sw, .int .i64 sh, .int .i64 r0, .int .i64 r1, .int .i64 r2, .int .i64 r3, .int .i64 N, .int .i64 p, .int .i64 ln] 28 (0, 0)) = w1 := ⟨_, rfl⟩
  have K1 : Hid (Kept [] w w1) := Hid.mk (by rw [← e1]; exact (Kept.refl [] w).alloc _)
  have HB1 := Hid.mk (show w1.heap[B]? = some (.cells #[.int .i64 W, .int .i64 H, .int .i64 D, .bool A, .int .i64 sw, .int .i64 sh, .int .i64 r0, .int .i64 r1, .int .i64 r2, .int .i64 r3, .int .i64 N, .int .i64 p, .int .i64 ln] 28 (0, 0)) by rw [← e1, ← eB]; exact heap_alloc_new _ _)
  have C1 := Hid.mk (pshown_any w1 (hT.kept K1.out (by simp)))
  clear er0 er1 er2 er3 hr hby hm hmc hcap hT s0 s1
  go_enter Tryz.func4, Tryz.ntmps4
  go_wp2_with (fail)
  clear e1 eB
  refine C1.out.mono ?_
  rintro e w2 ⟨rfl, k2⟩
  have K2 := Hid.mk (K1.out.trans k2)
  obtain ⟨h0, h1, h2, h3, h4, h5, h6, h7, h8, h9, h10, h11, h12⟩ := cel13 (k2.heap HB1.out (by simp))
  have HB2 := Hid.mk (k2.heap HB1.out (by simp))
  clear k2 C1
  go_wp2_with (fail)
  refine (C2.out _ K2.out).mono ?_
  rintro e w3 ⟨k3, hp⟩
  have K3 := Hid.mk (K2.out.trans k3)
  have HB3 := Hid.mk (k3.heap HB2.out (by simp))
  clear k3 C2 h0 h1 h2 h3 h4 h5 h6 h7 h8 h9 h10 h11 h12
  rcases hp with ⟨-, rfl⟩ | ⟨-, -, rfl⟩ | ⟨-, -, -, rfl⟩ | ⟨hR, hk, L, T, hsp, hDp, E, -, ⟨hE, rfl⟩ | ⟨rfl, g, cs, rfl, hgs, hgc, hcl, hbc⟩⟩
  · go_wp2
    go_ret
    exact ⟨rfl, K3.out⟩
  · go_wp2
    go_ret
    exact ⟨rfl, K3.out⟩
  · go_wp2
    go_ret
    exact ⟨rfl, K3.out⟩
  · have hx' : (E != 0) = true := by simp; exact hE
    have hx2 : (E == 0) = false := by simp; exact hE
    go_wp2
    go_ret
    exact ⟨rfl, K3.out⟩
  · obtain ⟨T', HD, hg1, hg2, hg3, hg4⟩ := rgt_parts hR
    have G := Tl.Gd.of hg1.1.1 hg1.1.2 hg1.2.1.1 hg1.2.1.2 hg2.1.1 hg2.1.2 hg2.2.1 hg2.2.2.1 hg2.2.2.2
    have k1 : k < Tl.cl W sw * Tl.cl H sh := by rw [← hg3]; exact hk.2
    have hkN : k < N := hk.2
    have hk0 : 0 ≤ k := hk.1
    rw [hR] at C3
    obtain ⟨M, eM⟩ : ∃ M, Tl.np A = M := ⟨_, rfl⟩
    have HMN := Hid.mk eM
    rw [eM] at hcl hbc ⊢
    have hM4 : M ≤ 4 := by rw [← eM]; exact Tl.np_hi A
    have CR := Hid.mk (fun u => rRect_any W H D sw sh (Tl.cl W sw) (Tl.cl H sh) A k u G rfl hk.1 k1)
    have hx := Tl.sX_in G k
    have hy := Tl.sY_in G hk.1 k1
    have CHq := Hid.mk (fun (q : Nat) (hq : q < M) u => (show Calls Tryz.prog 17 #[Tl.shv W H D A, .int .i64 (q : Int), Tl.rcv (Tl.sX (Tl.cl W sw) sw k) (Tl.sY (Tl.cl W sw) sh k) (min sw (W - Tl.sX (Tl.cl W sw) sw k)) (min sh (H - Tl.sY (Tl.cl W sw) sh k))] u fun e w' => e = .returned (.tuple #[Tl.rcv (Tl.bX (q : Int) (Tl.sX (Tl.cl W sw) sw k)) (Tl.sY (Tl.cl W sw) sh k) (pw W sw (Tl.cl W sw) (q : Int) k) (ph H sh (Tl.cl W sw) k), .int .i64 0]) ∧ Kept [] u w' by
      have h9 := Tl.halfR_any W H D (q : Int) (Tl.sX (Tl.cl W sw) sw k) (Tl.sY (Tl.cl W sw) sh k) (min sw (W - Tl.sX (Tl.cl W sw) sw k)) (min sh (H - Tl.sY (Tl.cl W sw) sh k)) A u (by have := G.w1; omega) (by have := G.h1; omega)
      rw [hE_part hg1 G hk.1 k1 (by omega : (0 : Int) ≤ (q : Int)) (by rw [eM]; omega), if_pos rfl] at h9
      exact h9))
    have HSZ : Hid (∀ q : Nat, q < M → ((pw W sw (Tl.cl W sw) (q : Int) k).toNat : Int) = pw W sw (Tl.cl W sw) (q : Int) k ∧ ((ph H sh (Tl.cl W sw) k).toNat : Int) = ph H sh (Tl.cl W sw) k ∧ (pw W sw (Tl.cl W sw) (q : Int) k).toNat * (ph H sh (Tl.cl W sw) k).toNat ≤ 16777216) := Hid.mk (fun q hq => by
      have hw := pw_in G (q : Int) k
      have hh := ph_in G hk.1 k1
      refine ⟨by omega, by omega, ?_⟩
      exact Nat.mul_le_mul (by omega : (pw W sw (Tl.cl W sw) (q : Int) k).toNat ≤ 4096) (by omega : (ph H sh (Tl.cl W sw) k).toNat ≤ 4096))
    have HBC := Hid.mk (And.intro hgc (And.intro hcl hbc))
    have HDp := Hid.mk hDp
    obtain ⟨h0, h1, h2, h3, h4, h5, h6, h7, h8, h9, h10, h11, h12⟩ := cel13 HB3.out
    clear HD hg1 hg2 hg3 hg4 G hgs hgc hcl hbc hx hy hsp eM hDp hR k1 hk
    go_wp2_with (fail)
    refine (C3.out _).mono ?_
    rintro e w4 ⟨rfl, k4⟩
    have K4 := Hid.mk (K3.out.trans k4)
    have HB4 := Hid.mk (k4.heap HB3.out (by simp))
    have K34 := Hid.mk k4
    clear k4 C3 h0 h1 h2 h3 h4 h5 h6 h7 h8 h9 h10 h11 h12
    obtain ⟨h0, h1, h2, h3, h4, h5, h6, h7, h8, h9, h10, h11, h12⟩ := cel13 HB4.out
    go_wp2
    clear h0 h1 h2 h3 h4 h5 h6 h7 h8 h9 h10 h11 h12
    go_loopw [11] (fun i wr => ∃ q : Nat, q ≤ M ∧ i = .int .i64 (q : Int) ∧ Hid (Kept [] w4 wr)) (fun i _ => M - (intOf i).toNat)
    case atStart => exact ⟨0, Nat.zero_le _, rfl, Hid.mk (Kept.refl _ _)⟩
    case round =>
      obtain ⟨q, hq, rfl, HI⟩ := hrel
      obtain ⟨wo, rfl⟩ : ∃ wo, wo = wr := ⟨_, rfl⟩
      by_cases hlt : q < M
      · have iq : (q : Int) < (M : Int) := by omega
        have HBo := Hid.mk (HI.out.heap HB4.out (by simp))
        obtain ⟨GG, s, b1, b2, b3, b4, b5, b6, -, -⟩ := HBC.out.2.2 q hlt
        obtain ⟨z1, z2, z3⟩ := HSZ.out q hlt
        have CH1 := CHq.out q hlt
        rw [← z1, ← z2] at CH1
        obtain ⟨bw, ebw⟩ : ∃ x, (pw W sw (Tl.cl W sw) (q : Int) k).toNat = x := ⟨_, rfl⟩
        obtain ⟨bh, ebh⟩ : ∃ x, (ph H sh (Tl.cl W sw) k).toNat = x := ⟨_, rfl⟩
        rw [ebw, ebh] at CH1 z3
        have b1' : cs[q * 3]? = some (.int .i64 (bw : Int)) := by rw [← ebw]; exact b1
        have b2' : cs[q * 3 + 1]? = some (.int .i64 (bh : Int)) := by rw [← ebh]; exact b2
        obtain ⟨n, en⟩ : ∃ n, bw * bh = n := ⟨_, rfl⟩
        have hnn : (pw W sw (Tl.cl W sw) (q : Int) k).toNat * (ph H sh (Tl.cl W sw) k).toNat = n := by rw [ebw, ebh]; exact en
        have b3' : cs[q * 3 + 2]? = some (.slice (some ⟨GG, 0, none⟩) n n) := by rw [← hnn]; exact b3
        have b4' : Smp w3 GG 0 n s.b := by rw [← hnn]; exact b4
        rw [en] at z3
        obtain ⟨x', ex'⟩ : ∃ x, Tl.bX (q : Int) (Tl.sX (Tl.cl W sw) sw k) = x := ⟨_, rfl⟩
        rw [ex'] at CH1
        have CR1 := CR.out
        obtain ⟨X, eX⟩ : ∃ X, Tl.sX (Tl.cl W sw) sw k = X := ⟨_, rfl⟩
        obtain ⟨Y, eY⟩ : ∃ Y, Tl.sY (Tl.cl W sw) sh k = Y := ⟨_, rfl⟩
        rw [eX, eY] at CH1 CR1
        obtain ⟨w', ew'⟩ : ∃ x, min sw (W - X) = x := ⟨_, rfl⟩
        obtain ⟨h', eh'⟩ : ∃ x, min sh (H - Y) = x := ⟨_, rfl⟩
        rw [ew', eh'] at CH1 CR1
        have CH := Hid.mk CH1
        have CR := Hid.mk CR1
        have BLK : Hid (∀ u, Kept [] wo u → u.cell? ⟨g, q * 3, none⟩ = some (.int .i64 (bw : Int)) ∧ u.cell? ⟨g, q * 3 + 1, none⟩ = some (.int .i64 (bh : Int)) ∧ u.cell? ⟨g, q * 3 + 2, none⟩ = some (.slice (some ⟨GG, 0, none⟩) n n)) := Hid.mk (fun u hu => by
          have hh := ((K34.out.trans HI.out).trans hu).heap HBC.out.1 (by simp)
          exact ⟨cellAt hh (by rw [List.getElem?_toArray]; exact b1'), cellAt hh (by rw [List.getElem?_toArray]; exact b2'), cellAt hh (by rw [List.getElem?_toArray]; exact b3')⟩)
        have SMP := Hid.mk (And.intro (fun u (hu : Kept [] wo u) => b4'.keep ((K34.out.trans HI.out).trans hu) (by simp)) (show ∀ i, i < n → 0 ≤ s.b i ∧ s.b i ≤ T from fun i hi => b6.bk i (by rw [b5]; show i < (pw W sw (Tl.cl W sw) (q : Int) k).toNat * (ph H sh (Tl.cl W sw) k).toNat; rw [hnn]; exact hi)))
        have HEN := Hid.mk en
        have HZ3 := Hid.mk z3
        have HQM := Hid.mk hlt
        clear b1 b2 b3 b4 b5 b6 b1' b2' b3' b4' z1 z2 z3 ebw ebh en hnn ex' CR1 CH1 eX eY ew' eh' hq
        go_upto_region 11 with (fail)
        go_cut [12, 13] (fun s12 s13 wc => ∃ R, s12 = .pointer (some ⟨R, 0, none⟩) ∧ s13 = .int .i64 0 ∧ Hid (Kept [] wo wc ∧ wc.heap[R]? = some (.cells #[.int .i64 x', .int .i64 Y, .int .i64 (bw : Int), .int .i64 (bh : Int)] 47 (0, 0))))
        case first =>
          refine wp_region_held_drew (S := fun u => Kept [] wo u) (by kernel_rfl) (Kept.refl [] wo).drew (fun hH0 => ?_)
          refine wpAnyH_take (i := 0) (oi := _) (v := ?_) rfl (by kernel_rfl) (by kernel_rfl) (by kernel_rfl) (fun _ _ _ h => h) (Or.inl ⟨by rfl, ?y0t1⟩) (by assumption) ?r0t1
          case y0t1 => (intro u hSw; have hSu : Kept [] wo u := hSw; obtain ⟨h0, h1, h2, h3, h4, h5, h6, h7, h8, h9, h10, h11, h12⟩ := cel13 (hSu.heap HBo.out (by simp)); go_simp; try with_reducible rfl)
          refine wpAnyH_take (i := 1) (oi := _) (v := ?_) rfl (by kernel_rfl) (by kernel_rfl) (by kernel_rfl) (fun _ _ _ h => h) (Or.inl ⟨by rfl, ?y1t1⟩) (by assumption) ?r1t1
          case y1t1 => (intro u hSw; have hSu : Kept [] wo u := hSw; obtain ⟨h0, h1, h2, h3, h4, h5, h6, h7, h8, h9, h10, h11, h12⟩ := cel13 (hSu.heap HBo.out (by simp)); go_simp; try with_reducible rfl)
          refine wpAnyH_take (i := 2) (oi := _) (v := ?_) rfl (by kernel_rfl) (by kernel_rfl) (by kernel_rfl) (fun _ _ _ h => h) (Or.inl ⟨by rfl, ?y2t1⟩) (by assumption) ?r2t1
          case y2t1 => (intro u hSw; have hSu : Kept [] wo u := hSw; obtain ⟨h0, h1, h2, h3, h4, h5, h6, h7, h8, h9, h10, h11, h12⟩ := cel13 (hSu.heap HBo.out (by simp)); go_simp; try with_reducible rfl)
          refine wpAnyH_take (i := 3) (oi := _) (v := ?_) rfl (by kernel_rfl) (by kernel_rfl) (by kernel_rfl) (fun _ _ _ h => h) (Or.inl ⟨by rfl, ?y3t1⟩) (by assumption) ?r3t1
          case y3t1 => (intro u hSw; have hSu : Kept [] wo u := hSw; obtain ⟨h0, h1, h2, h3, h4, h5, h6, h7, h8, h9, h10, h11, h12⟩ := cel13 (hSu.heap HBo.out (by simp)); go_simp; try with_reducible rfl)
          refine wpAnyH_take (i := 4) (oi := _) (v := ?_) rfl (by kernel_rfl) (by kernel_rfl) (by kernel_rfl) (fun _ _ _ h => h) (Or.inl ⟨by rfl, ?y4t1⟩) (by assumption) ?r4t1
          case y4t1 => (intro u hSw; have hSu : Kept [] wo u := hSw; obtain ⟨h0, h1, h2, h3, h4, h5, h6, h7, h8, h9, h10, h11, h12⟩ := cel13 (hSu.heap HBo.out (by simp)); go_simp; try with_reducible rfl)
          refine wpAnyH_take (i := 5) (oi := _) (v := ?_) rfl (by kernel_rfl) (by kernel_rfl) (by kernel_rfl) (fun _ _ _ h => h) (Or.inl ⟨by rfl, ?y5t1⟩) (by assumption) ?r5t1
          case y5t1 => (intro u hSw; have hSu : Kept [] wo u := hSw; obtain ⟨h0, h1, h2, h3, h4, h5, h6, h7, h8, h9, h10, h11, h12⟩ := cel13 (hSu.heap HBo.out (by simp)); go_simp; try with_reducible rfl)
          refine wpAnyH_take (i := 6) (oi := _) (v := ?_) rfl (by kernel_rfl) (by kernel_rfl) (by kernel_rfl) (fun _ _ _ h => h) (Or.inl ⟨by rfl, ?y6t1⟩) (by assumption) ?r6t1
          case y6t1 => (intro u hSw; have hSu : Kept [] wo u := hSw; obtain ⟨h0, h1, h2, h3, h4, h5, h6, h7, h8, h9, h10, h11, h12⟩ := cel13 (hSu.heap HBo.out (by simp)); go_simp; try with_reducible rfl)
          refine wpAnyH_take (i := 7) (oi := _) (v := ?_) rfl (by kernel_rfl) (by kernel_rfl) (by kernel_rfl) (fun _ _ _ h => h) (Or.inl ⟨by rfl, ?y7t1⟩) (by assumption) ?r7t1
          case y7t1 => (intro u hSw; have hSu : Kept [] wo u := hSw; obtain ⟨h0, h1, h2, h3, h4, h5, h6, h7, h8, h9, h10, h11, h12⟩ := cel13 (hSu.heap HBo.out (by simp)); go_simp; try with_reducible rfl)
          refine wpAnyH_take (i := 8) (oi := _) (v := ?_) rfl (by kernel_rfl) (by kernel_rfl) (by kernel_rfl) (fun _ _ _ h => h) (Or.inl ⟨by rfl, ?y8t1⟩) (by assumption) ?r8t1
          case y8t1 => (intro u hSw; have hSu : Kept [] wo u := hSw; obtain ⟨h0, h1, h2, h3, h4, h5, h6, h7, h8, h9, h10, h11, h12⟩ := cel13 (hSu.heap HBo.out (by simp)); go_simp; try with_reducible rfl)
          refine wpAnyH_take (i := 9) (oi := _) (v := ?_) rfl (by kernel_rfl) (by kernel_rfl) (by kernel_rfl) (fun _ _ _ h => h) (Or.inl ⟨by rfl, ?y9t1⟩) (by assumption) ?r9t1
          case y9t1 => (intro u hSw; have hSu : Kept [] wo u := hSw; obtain ⟨h0, h1, h2, h3, h4, h5, h6, h7, h8, h9, h10, h11, h12⟩ := cel13 (hSu.heap HBo.out (by simp)); go_simp; try with_reducible rfl)
          refine wpAnyH_ready (rs := [10, 15]) (by kernel_rfl) (by simp) ?_
          refine AllReadyH.cons rfl (fun K hK => ?_) (AllReadyH.cons rfl (fun K hK => ?_) AllReadyH.nil)
          · go_simp
            go_at_call 18
            refine (CR.out _).mono ?_
            rintro e v2 ⟨rfl, kk⟩
            have kv2 := hH0.trans kk
            refine hK.out _ _ kv2 (fun hH2 => ?_)
            clear hK K
            refine wpAnyH_ready (rs := [11, 15]) (by kernel_rfl) (by simp) ?_
            refine AllReadyH.cons rfl (fun K hK => ?_) (AllReadyH.cons rfl (fun K hK => ?_) AllReadyH.nil)
            · go_simp
              go_at_call 17
              refine (CH.out _).mono ?_
              rintro e v3 ⟨rfl, kk⟩
              have kv3 := kv2.trans kk
              refine hK.out _ _ kv3 (fun hH3 => ?_)
              clear hK K
              refine wpAnyH_take (i := 12) (oi := _) (v := ?_) rfl (by kernel_rfl) (by kernel_rfl) (by kernel_rfl) (fun _ _ _ h => h) (Or.inl ⟨by rfl, ?y12t4⟩) (by assumption) ?r12t4
              case y12t4 => (intro u hSw; have hSu : Kept [] wo u := hSw; go_simp; try with_reducible rfl)
              refine wpAnyH_take (i := 13) (oi := _) (v := ?_) rfl (by kernel_rfl) (by kernel_rfl) (by kernel_rfl) (fun _ _ _ h => h) (Or.inl ⟨by rfl, ?y13t4⟩) (by assumption) ?r13t4
              case y13t4 => (intro u hSw; have hSu : Kept [] wo u := hSw; go_simp; try with_reducible rfl)
              refine wpAnyH_take (i := 14) (oi := _) (v := ?_) rfl (by kernel_rfl) (by kernel_rfl) (by kernel_rfl) (fun _ _ _ h => h) (Or.inl ⟨by rfl, ?y14t4⟩) (by assumption) ?r14t4
              case y14t4 => (intro u hSw; have hSu : Kept [] wo u := hSw; go_simp; try with_reducible rfl)
              refine wpAnyH_ready (rs := [15]) (by kernel_rfl) (by simp) ?_
              refine AllReadyH.cons rfl (fun K hK => ?_) AllReadyH.nil
              obtain ⟨v5, ev5⟩ : ∃ x, World.alloc v3 (.cells #[.int .i64 0, .int .i64 0, .int .i64 0, .int .i64 0] 47 (0, 0)) = x := ⟨_, rfl⟩
              have kv5 : Kept [] wo v5 := by rw [← ev5]; exact kv3.alloc _
              obtain ⟨Q, eQ⟩ : ∃ x, (v3).heap.size = x := ⟨_, rfl⟩
              have HQ := Hid.mk (show v5.heap[Q]? = some (.cells #[.int .i64 0, .int .i64 0, .int .i64 0, .int .i64 0] 47 (0, 0)) by rw [← ev5, ← eQ]; exact heap_alloc_new _ _)
              have HZ8 : Hid (wo.heap.size ≤ Q) := Hid.mk (by have h9 := (kv3).size; omega)
              go_simp
              try rw [ev5]
              refine hK.out _ _ kv5 (fun hH5 => ?_)
              clear hK K ev5 eQ
              refine wpAnyH_ready (rs := [16]) (by kernel_rfl) (by simp) ?_
              refine AllReadyH.cons rfl (fun K hK => ?_) AllReadyH.nil
              obtain ⟨⟨x0, x1, x2, x3⟩, f0, f1, f2, f3⟩ := Tl.four HQ.out
              have s4 := Tl.set4 (.int .i64 x') (.int .i64 Y) (.int .i64 (bw : Int)) (.int .i64 (bh : Int)) HQ.out
              obtain ⟨wf, ef⟩ : ∃ x, (((v5.setCell ⟨Q, 0, none⟩ (.int .i64 x')).setCell ⟨Q, 1, none⟩ (.int .i64 Y)).setCell ⟨Q, 2, none⟩ (.int .i64 (bw : Int))).setCell ⟨Q, 3, none⟩ (.int .i64 (bh : Int)) = x := ⟨_, rfl⟩
              rw [ef] at s4
              have KF : Hid (Kept [] wo wf) := Hid.mk (kv5.step s4.2 (fun z hz => by simp at hz; subst hz; exact .inr HZ8.out))
              have HQF := Hid.mk s4.1
              go_simp
              try rw [ef]
              refine hK.out _ _ KF.out (fun hHf => ?_)
              clear hK K
              refine wpAnyH_take (i := 17) (oi := _) (v := ?_) rfl (by kernel_rfl) (by kernel_rfl) (by kernel_rfl) (fun _ _ _ h => h) (Or.inl ⟨by rfl, ?y17t7⟩) (by assumption) ?r17t7
              case y17t7 => (intro u hSw; have hSu : Kept [] wo u := hSw; go_simp; try with_reducible rfl)
              refine wpAnyH_done (by kernel_rfl) ?_ _
              go_wp2
              go_meet
              exact ⟨Q, rfl, rfl, Hid.mk ⟨KF.out, HQF.out⟩⟩
            · obtain ⟨v8, ev8⟩ : ∃ x, World.alloc v2 (.cells #[.int .i64 0, .int .i64 0, .int .i64 0, .int .i64 0] 47 (0, 0)) = x := ⟨_, rfl⟩
              have kv8 : Kept [] wo v8 := by rw [← ev8]; exact kv2.alloc _
              obtain ⟨Q, eQ⟩ : ∃ x, (v2).heap.size = x := ⟨_, rfl⟩
              have HQ := Hid.mk (show v8.heap[Q]? = some (.cells #[.int .i64 0, .int .i64 0, .int .i64 0, .int .i64 0] 47 (0, 0)) by rw [← ev8, ← eQ]; exact heap_alloc_new _ _)
              have HZ8 : Hid (wo.heap.size ≤ Q) := Hid.mk (by have h9 := (kv2).size; omega)
              go_simp
              try rw [ev8]
              refine hK.out _ _ kv8 (fun hH8 => ?_)
              clear hK K ev8 eQ
              refine wpAnyH_ready (rs := [11]) (by kernel_rfl) (by simp) ?_
              refine AllReadyH.cons rfl (fun K hK => ?_) AllReadyH.nil
              go_simp
              go_at_call 17
              refine (CH.out _).mono ?_
              rintro e v9 ⟨rfl, kk⟩
              have kv9 := kv8.trans kk
              have HQ := Hid.mk (kk.heap HQ.out (by simp))
              refine hK.out _ _ kv9 (fun hH9 => ?_)
              clear hK K
              refine wpAnyH_take (i := 12) (oi := _) (v := ?_) rfl (by kernel_rfl) (by kernel_rfl) (by kernel_rfl) (fun _ _ _ h => h) (Or.inl ⟨by rfl, ?y12t10⟩) (by assumption) ?r12t10
              case y12t10 => (intro u hSw; have hSu : Kept [] wo u := hSw; go_simp; try with_reducible rfl)
              refine wpAnyH_take (i := 13) (oi := _) (v := ?_) rfl (by kernel_rfl) (by kernel_rfl) (by kernel_rfl) (fun _ _ _ h => h) (Or.inl ⟨by rfl, ?y13t10⟩) (by assumption) ?r13t10
              case y13t10 => (intro u hSw; have hSu : Kept [] wo u := hSw; go_simp; try with_reducible rfl)
              refine wpAnyH_take (i := 14) (oi := _) (v := ?_) rfl (by kernel_rfl) (by kernel_rfl) (by kernel_rfl) (fun _ _ _ h => h) (Or.inl ⟨by rfl, ?y14t10⟩) (by assumption) ?r14t10
              case y14t10 => (intro u hSw; have hSu : Kept [] wo u := hSw; go_simp; try with_reducible rfl)
              refine wpAnyH_ready (rs := [16]) (by kernel_rfl) (by simp) ?_
              refine AllReadyH.cons rfl (fun K hK => ?_) AllReadyH.nil
              obtain ⟨⟨x0, x1, x2, x3⟩, f0, f1, f2, f3⟩ := Tl.four HQ.out
              have s4 := Tl.set4 (.int .i64 x') (.int .i64 Y) (.int .i64 (bw : Int)) (.int .i64 (bh : Int)) HQ.out
              obtain ⟨wf, ef⟩ : ∃ x, (((v9.setCell ⟨Q, 0, none⟩ (.int .i64 x')).setCell ⟨Q, 1, none⟩ (.int .i64 Y)).setCell ⟨Q, 2, none⟩ (.int .i64 (bw : Int))).setCell ⟨Q, 3, none⟩ (.int .i64 (bh : Int)) = x := ⟨_, rfl⟩
              rw [ef] at s4
              have KF : Hid (Kept [] wo wf) := Hid.mk (kv9.step s4.2 (fun z hz => by simp at hz; subst hz; exact .inr HZ8.out))
              have HQF := Hid.mk s4.1
              go_simp
              try rw [ef]
              refine hK.out _ _ KF.out (fun hHf => ?_)
              clear hK K
              refine wpAnyH_take (i := 17) (oi := _) (v := ?_) rfl (by kernel_rfl) (by kernel_rfl) (by kernel_rfl) (fun _ _ _ h => h) (Or.inl ⟨by rfl, ?y17t12⟩) (by assumption) ?r17t12
              case y17t12 => (intro u hSw; have hSu : Kept [] wo u := hSw; go_simp; try with_reducible rfl)
              refine wpAnyH_done (by kernel_rfl) ?_ _
              go_wp2
              go_meet
              exact ⟨Q, rfl, rfl, Hid.mk ⟨KF.out, HQF.out⟩⟩
          · obtain ⟨v13, ev13⟩ : ∃ x, World.alloc wo.drew (.cells #[.int .i64 0, .int .i64 0, .int .i64 0, .int .i64 0] 47 (0, 0)) = x := ⟨_, rfl⟩
            have kv13 : Kept [] wo v13 := by rw [← ev13]; exact hH0.alloc _
            obtain ⟨Q, eQ⟩ : ∃ x, (wo.drew).heap.size = x := ⟨_, rfl⟩
            have HQ := Hid.mk (show v13.heap[Q]? = some (.cells #[.int .i64 0, .int .i64 0, .int .i64 0, .int .i64 0] 47 (0, 0)) by rw [← ev13, ← eQ]; exact heap_alloc_new _ _)
            have HZ8 : Hid (wo.heap.size ≤ Q) := Hid.mk (by have h9 := (hH0).size; omega)
            go_simp
            try rw [ev13]
            refine hK.out _ _ kv13 (fun hH13 => ?_)
            clear hK K ev13 eQ
            refine wpAnyH_ready (rs := [10]) (by kernel_rfl) (by simp) ?_
            refine AllReadyH.cons rfl (fun K hK => ?_) AllReadyH.nil
            go_simp
            go_at_call 18
            refine (CR.out _).mono ?_
            rintro e v14 ⟨rfl, kk⟩
            have kv14 := kv13.trans kk
            have HQ := Hid.mk (kk.heap HQ.out (by simp))
            refine hK.out _ _ kv14 (fun hH14 => ?_)
            clear hK K
            refine wpAnyH_ready (rs := [11]) (by kernel_rfl) (by simp) ?_
            refine AllReadyH.cons rfl (fun K hK => ?_) AllReadyH.nil
            go_simp
            go_at_call 17
            refine (CH.out _).mono ?_
            rintro e v15 ⟨rfl, kk⟩
            have kv15 := kv14.trans kk
            have HQ := Hid.mk (kk.heap HQ.out (by simp))
            refine hK.out _ _ kv15 (fun hH15 => ?_)
            clear hK K
            refine wpAnyH_take (i := 12) (oi := _) (v := ?_) rfl (by kernel_rfl) (by kernel_rfl) (by kernel_rfl) (fun _ _ _ h => h) (Or.inl ⟨by rfl, ?y12t16⟩) (by assumption) ?r12t16
            case y12t16 => (intro u hSw; have hSu : Kept [] wo u := hSw; go_simp; try with_reducible rfl)
            refine wpAnyH_take (i := 13) (oi := _) (v := ?_) rfl (by kernel_rfl) (by kernel_rfl) (by kernel_rfl) (fun _ _ _ h => h) (Or.inl ⟨by rfl, ?y13t16⟩) (by assumption) ?r13t16
            case y13t16 => (intro u hSw; have hSu : Kept [] wo u := hSw; go_simp; try with_reducible rfl)
            refine wpAnyH_take (i := 14) (oi := _) (v := ?_) rfl (by kernel_rfl) (by kernel_rfl) (by kernel_rfl) (fun _ _ _ h => h) (Or.inl ⟨by rfl, ?y14t16⟩) (by assumption) ?r14t16
            case y14t16 => (intro u hSw; have hSu : Kept [] wo u := hSw; go_simp; try with_reducible rfl)
            refine wpAnyH_ready (rs := [16]) (by kernel_rfl) (by simp) ?_
            refine AllReadyH.cons rfl (fun K hK => ?_) AllReadyH.nil
            obtain ⟨⟨x0, x1, x2, x3⟩, f0, f1, f2, f3⟩ := Tl.four HQ.out
            have s4 := Tl.set4 (.int .i64 x') (.int .i64 Y) (.int .i64 (bw : Int)) (.int .i64 (bh : Int)) HQ.out
            obtain ⟨wf, ef⟩ : ∃ x, (((v15.setCell ⟨Q, 0, none⟩ (.int .i64 x')).setCell ⟨Q, 1, none⟩ (.int .i64 Y)).setCell ⟨Q, 2, none⟩ (.int .i64 (bw : Int))).setCell ⟨Q, 3, none⟩ (.int .i64 (bh : Int)) = x := ⟨_, rfl⟩
            rw [ef] at s4
            have KF : Hid (Kept [] wo wf) := Hid.mk (kv15.step s4.2 (fun z hz => by simp at hz; subst hz; exact .inr HZ8.out))
            have HQF := Hid.mk s4.1
            go_simp
            try rw [ef]
            refine hK.out _ _ KF.out (fun hHf => ?_)
            clear hK K
            refine wpAnyH_take (i := 17) (oi := _) (v := ?_) rfl (by kernel_rfl) (by kernel_rfl) (by kernel_rfl) (fun _ _ _ h => h) (Or.inl ⟨by rfl, ?y17t18⟩) (by assumption) ?r17t18
            case y17t18 => (intro u hSw; have hSu : Kept [] wo u := hSw; go_simp; try with_reducible rfl)
            refine wpAnyH_done (by kernel_rfl) ?_ _
            go_wp2
            go_meet
            exact ⟨Q, rfl, rfl, Hid.mk ⟨KF.out, HQF.out⟩⟩
        case rest =>
          obtain ⟨Rr, rfl, rfl, HC⟩ := hcut
          have KC := Hid.mk HC.out.1
          have RC := Hid.mk HC.out.2
          have c0 := fun z : KW wc => cellAt (i := 2) (z.h.heap RC.out (by simp)) rfl
          have c1 := fun z : KW wc => cellAt (i := 3) (z.h.heap RC.out (by simp)) rfl
          have c2 := fun z : KW wc => (BLK.out z.u (KC.out.trans z.h)).1
          have c3 := fun z : KW wc => (BLK.out z.u (KC.out.trans z.h)).2.1
          have c4 := fun z : KW wc => (BLK.out z.u (KC.out.trans z.h)).2.2
          have NE : Nonempty (KW wc) := ⟨⟨wc, Kept.refl _ _⟩⟩
          obtain ⟨v1, v2⟩ := wq2 (show (bw : Int) * (bh : Int) = (n : Int) by rw [← Int.natCast_mul, HEN.out]) (by have := HZ3.out; omega)
          go_wp2_with (fail)
          refine wp_region_kept (by kernel_rfl) (by kernel_rfl) ?_
          repeat (go_big_quiet_step (fail))
          refine wpQuiet_nil ?_
          rintro _ ⟨z, rfl⟩
          have KZ := Hid.mk (KC.out.trans z.h)
          generalize z.u = wz at *
          clear c0 c1 c2 c3 c4 NE v1 v2 HC RC KC CH CR
          go_wp2
          go_loopw [14] (fun i wr => ∃ j : Nat, j ≤ n ∧ i = .int .i64 (j : Int) ∧ Hid (Kept [] wo wr)) (fun i _ => n - (intOf i).toNat)
          case atStart => exact ⟨0, Nat.zero_le _, rfl, Hid.mk KZ.out⟩
          case round =>
            obtain ⟨j, hj, rfl, HJ⟩ := hrel
            obtain ⟨_, _, d2⟩ := BLK.out wr HJ.out
            by_cases hjn : j < n
            · have ij : (j : Int) < (n : Int) := by omega
              have m2 := fun z : KW wr => (BLK.out z.u (HJ.out.trans z.h)).2.2
              have m3 := fun z : KW wr => (show z.u.cell? ⟨GG, j, none⟩ = some (.int .u16 (s.b j)) by have := SMP.out.1 z.u (HJ.out.trans z.h) j hjn; rwa [Nat.zero_add] at this)
              have m4 := fun z : KW wr => cellAt (i := 2) ((HJ.out.trans z.h).heap HBo.out (by simp)) rfl
              obtain ⟨sb, esb⟩ : ∃ x, s.b j = x := ⟨_, rfl⟩
              have hsb := SMP.out.2 j hjn
              rw [esb] at hsb
              simp only [esb] at m3
              have NE : Nonempty (KW wr) := ⟨⟨wr, Kept.refl _ _⟩⟩
              have v3 : IntKind.i64.wrap sb = sb := Tl.wrap_i (by omega) (by rcases HDp.out with ⟨_, h⟩ | ⟨_, h⟩ <;> omega)
              have HJN := Hid.mk hjn
              rcases HDp.out with ⟨hD, hT⟩ | ⟨hD, hT⟩
              · subst hD
                have dd : decide (1024 ≤ sb) = false := by simp; omega
                have dd2 : ¬ 1024 ≤ sb := by omega
                clear esb hsb
                go_wp2_with (fail)
                refine wp_region_kept (by kernel_rfl) (by kernel_rfl) ?_
                repeat (go_big_quiet_step (fail))
                refine wpQuiet_nil ?_
                rintro _ ⟨z, rfl⟩
                have KZ := Hid.mk (HJ.out.trans z.h)
                generalize z.u = wz at *
                clear m2 m3 m4 NE d2
                have hz9 := HZ3.out
                go_wp2
                go_roundw
                case rel => exact ⟨j + 1, by have := HJN.out; omega, by go_num, KZ⟩
                case measure => (have := HJN.out; simp [intOf]; omega)
              · subst hD
                have dd : decide (4096 ≤ sb) = false := by simp; omega
                have dd2 : ¬ 4096 ≤ sb := by omega
                clear esb hsb
                go_wp2_with (fail)
                refine wp_region_kept (by kernel_rfl) (by kernel_rfl) ?_
                repeat (go_big_quiet_step (fail))
                refine wpQuiet_nil ?_
                rintro _ ⟨z, rfl⟩
                have KZ := Hid.mk (HJ.out.trans z.h)
                generalize z.u = wz at *
                clear m2 m3 m4 NE d2
                have hz9 := HZ3.out
                go_wp2
                go_roundw
                case rel => exact ⟨j + 1, by have := HJN.out; omega, by go_num, KZ⟩
                case measure => (have := HJN.out; simp [intOf]; omega)
            · have KJ := Hid.mk (HI.out.trans HJ.out)
              have ijn : ¬ (j : Int) < (n : Int) := by omega
              go_wp2
              go_roundw
              case rel => exact ⟨q + 1, by have := HQM.out; omega, by go_num, KJ⟩
              case measure => (have := HQM.out; simp [intOf]; omega)
      · have KJ := Hid.mk (K4.out.trans HI.out)
        obtain ⟨h0, h1, h2, h3, h4, h5, h6, h7, h8, h9, h10, h11, h12⟩ := cel13 (HI.out.heap HB4.out (by simp))
        have hMA := HMN.out
        cases A
        · obtain rfl : M = 3 := by rw [← hMA]; rfl
          go_wp2
          go_ret
          exact ⟨rfl, KJ.out⟩
        · obtain rfl : M = 4 := by rw [← hMA]; rfl
          go_wp2
          go_ret
          exact ⟨rfl, KJ.out⟩
end Go.Proofs.YtiganmmacmhndaaGreatDoor.Pc
