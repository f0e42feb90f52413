import Derived.Test.YthkpligodbkofaaGreatDoorpWZ
namespace Go.Proofs.YthkpligodbkofaaGreatDoor.Pc
open Go.RowKit

set_option maxHeartbeats 4000000 in
set_option maxRecDepth 1000000 in
theorem rCount_any (W H D sw sh : Int) (A : Bool) (w : World) (hs : Tl.Shp W H D A) (hd : (16 ≤ sw ∧ sw ≤ 4096) ∧ sw % 2 = 0 ∧ (16 ≤ sh ∧ sh ≤ 4096)) :
    Calls Tryz.prog 19 #[Tl.shv W H D A, .int .i64 sw, .int .i64 sh] w fun e w' => e = .returned (.int .i64 (Tl.cl W sw * Tl.cl H sh)) ∧ Kept [] w w' := by
  obtain ⟨w1, e1⟩ : ∃ w1, w.alloc (.cells #[.int .i64 W, .int .i64 H, .int .i64 D, .bool A] 26 (0, 0)) = w1 := ⟨_, rfl⟩
  have k1 : Kept [] w w1 := by rw [← e1]; exact (Kept.refl [] w).alloc _
  obtain ⟨c0, c1, c2, c3⟩ := cel4 (show w1.heap[w.heap.size]? = some (.cells #[.int .i64 W, .int .i64 H, .int .i64 D, .bool A] 26 (0, 0)) by rw [← e1]; exact heap_alloc_new _ _)
  have g := Tl.Gd.of hs.1.1 hs.1.2 hs.2.1.1 hs.2.1.2 hd.1.1 hd.1.2 hd.2.1 hd.2.2.1 hd.2.2.2
  have C1 : Hid (∀ u, Calls Tryz.prog 35 #[.int .i64 W, .int .i64 sw] u fun e w' => e = .returned (.int .i64 (Tl.cl W sw)) ∧ w' = u) := Hid.mk (fun u => up_any W sw u (by have := hs.1.1; omega) (by have := hs.1.2; omega) (by omega) (by omega))
  have C2 : Hid (∀ u, Calls Tryz.prog 35 #[.int .i64 H, .int .i64 sh] u fun e w' => e = .returned (.int .i64 (Tl.cl H sh)) ∧ w' = u) := Hid.mk (fun u => up_any H sh u (by have := hs.2.1.1; omega) (by have := hs.2.1.2; omega) (by omega) (by omega))
  have K1 := Hid.mk k1
  have hm : wrap64 (Tl.cl W sw * Tl.cl H sh) = Tl.cl W sw * Tl.cl H sh := by
    have h1 : 0 ≤ Tl.cl W sw * Tl.cl H sh := Int.mul_nonneg (by have := g.c0; omega) (by have := g.r0; omega)
    have h2 : Tl.cl W sw * Tl.cl H sh ≤ 256 * 256 := Int.mul_le_mul g.c1 g.r1 (by have := g.r0; omega) (by omega)
    exact Tl.w64_in (by omega) (by omega)
  have hm2 : IntKind.i64.wrap (Tl.cl W sw * Tl.cl H sh) = Tl.cl W sw * Tl.cl H sh := by
    have h1 : 0 ≤ Tl.cl W sw * Tl.cl H sh := Int.mul_nonneg (by have := g.c0; omega) (by have := g.r0; omega)
    have h2 : Tl.cl W sw * Tl.cl H sh ≤ 256 * 256 := Int.mul_le_mul g.c1 g.r1 (by have := g.r0; omega) (by omega)
    clear hm
    exact Tl.wrap_i (by omega) (by omega)
  obtain ⟨cw, ecw⟩ : ∃ x, Tl.cl W sw = x := ⟨_, rfl⟩
  obtain ⟨ch, ech⟩ : ∃ x, Tl.cl H sh = x := ⟨_, rfl⟩
  rw [ecw] at C1
  rw [ech] at C2
  rw [ecw, ech] at hm hm2 ⊢
  have RK : Hid (∀ u, Kept [] w1 u → u.cell? ⟨w.heap.size, 0, none⟩ = some (.int .i64 W) ∧ u.cell? ⟨w.heap.size, 1, none⟩ = some (.int .i64 H)) := Hid.mk (fun u ku => ⟨Tl.cell_keep ku c0 (by simp), Tl.cell_keep ku c1 (by simp)⟩)
  clear k1 g ecw ech hs hd
  go_enter Tryz.func19, Tryz.ntmps19
  have Q1 : Hid (∀ q : KW w1, Calls Tryz.prog 35 #[.int .i64 W, .int .i64 sw] q.u fun r w' => r = .returned (.int .i64 cw) ∧ ∃ q' : KW w1, w' = q'.u) := Hid.mk fun q => (C1.out q.u).mono fun r w' ⟨h1, h2⟩ => ⟨h1, q, h2⟩
  have Q2 : Hid (∀ q : KW w1, Calls Tryz.prog 35 #[.int .i64 H, .int .i64 sh] q.u fun r w' => r = .returned (.int .i64 ch) ∧ ∃ q' : KW w1, w' = q'.u) := Hid.mk fun q => (C2.out q.u).mono fun r w' ⟨h1, h2⟩ => ⟨h1, q, h2⟩
  have r0 := fun q : KW w1 => (RK.out q.u q.h).1
  have r1 := fun q : KW w1 => (RK.out q.u q.h).2
  have NE : Nonempty (KW w1) := ⟨⟨w1, Kept.refl _ _⟩⟩
  go_wp2_with (fail)
  clear e1 c0 c1 c2 c3
  refine wp_region_kept (by kernel_rfl) (by kernel_rfl) ?_
  repeat (go_big_quiet_step ((first | (go_at_call_of 35 sw; exact Q1.out _) | (go_at_call_of 35 sh; exact Q2.out _))))
  refine wpQuiet_nil ?_
  rintro _ ⟨q, rfl⟩
  go_wp2
  go_ret
  exact ⟨ret_int (by first | rfl | exact hm2 | exact hm), K1.out.trans q.h⟩

set_option maxHeartbeats 4000000 in
set_option maxRecDepth 1000000 in
theorem rplanes_any (W H D : Int) (A : Bool) (w : World) : Calls Tryz.prog 33 #[Tl.shv W H D A] w fun e w' => e = .returned (.int .i64 (Tl.np A : Int)) ∧ Kept [] w w' := by
  cases A
  · go_enter Tryz.func33, Tryz.ntmps33
    go_wp2
    go_ret
    exact ⟨rfl, (Kept.refl [] w).alloc _⟩
  · go_enter Tryz.func33, Tryz.ntmps33
    go_wp2
    go_ret
    exact ⟨rfl, (Kept.refl [] w).alloc _⟩

set_option maxHeartbeats 8000000 in
set_option maxRecDepth 1000000 in
theorem rValid_any (W H D : Int) (A : Bool) (sw sh : Int) (lo : Option Addr) (n c : Nat) (L : Nat → Nat → Int) (cap p : Int) (w : World) (hL : Ldr w lo n L) (hn : n ≤ 9223372036854775807) :
    Calls Tryz.prog 13 #[cfv sw sh lo n c cap p, Tl.shv W H D A] w fun e w' => e = .returned (.int .i64 (cfE W H D A sw sh n L cap p)) ∧ Kept [] w w' := by
  obtain ⟨w1, e1⟩ : ∃ w1, w.alloc (.cells #[.int .i64 sw, .int .i64 sh, .slice lo n c, .int .i64 cap, .int .i64 p] 24 (0, 0)) = w1 := ⟨_, rfl⟩
  obtain ⟨w2, e2⟩ : ∃ w2, w1.alloc (.cells #[.int .i64 W, .int .i64 H, .int .i64 D, .bool A] 26 (0, 0)) = w2 := ⟨_, rfl⟩
  obtain ⟨B, eB⟩ : ∃ B, w.heap.size = B := ⟨_, rfl⟩
  have z1 : w1.heap.size = B + 1 := by rw [← e1, ← eB]; exact Array.size_push _
  have k1 : Kept [] w w1 := by rw [← e1]; exact (Kept.refl [] w).alloc _
  have k2 : Kept [] w1 w2 := by rw [← e2]; exact (Kept.refl [] w1).alloc _
  have HC := Hid.mk (k2.heap (show w1.heap[B]? = some (.cells #[.int .i64 sw, .int .i64 sh, .slice lo n c, .int .i64 cap, .int .i64 p] 24 (0, 0)) by rw [← e1, ← eB]; exact heap_alloc_new _ _) (by simp))
  have HS := Hid.mk (show w2.heap[B + 1]? = some (.cells #[.int .i64 W, .int .i64 H, .int .i64 D, .bool A] 26 (0, 0)) by rw [← e2, ← z1]; exact heap_alloc_new _ _)
  have K2 := Hid.mk (k1.trans k2)
  have HL := Hid.mk (hL.keep K2.out)
  have C1 := Hid.mk (fun u => Tl.rshaped_any W H D A u)
  obtain ⟨q0, q1, q2, q3, q4⟩ := cel5 HC.out
  obtain ⟨s0, s1, s2, s3⟩ := cel4 HS.out
  clear hL k1 k2
  by_cases hs : Tl.shE W H D A = 0
  · rw [hs] at C1
    have C2 := Hid.mk (fun u => sides_any sw sh u)
    have hshp := shp_of hs
    have F0 : Hid (¬ (sdE sw sh = true ∧ lmb n L A = true ∧ 0 ≤ cap ∧ pmb p (Tl.cl W sw * Tl.cl H sh) = true) → cfE W H D A sw sh n L cap p = 121) := Hid.mk (fun h => by
      unfold cfE
      rw [if_pos hs, if_neg (fun h2 => h ⟨by unfold sdE; exact decide_eq_true (nwE_zero h2.1).2, h2.2⟩)])
    have F1 : Hid (sdE sw sh = true ∧ lmb n L A = true ∧ 0 ≤ cap ∧ pmb p (Tl.cl W sw * Tl.cl H sh) = true → cfE W H D A sw sh n L cap p = 0) := Hid.mk (fun h => by
      unfold cfE
      have h1 := h.1
      unfold sdE at h1
      rw [if_pos hs, if_pos ⟨nwE_ok hshp (of_decide_eq_true h1), h.2⟩])
    obtain ⟨E, eE⟩ : ∃ E, cfE W H D A sw sh n L cap p = E := ⟨_, rfl⟩
    rw [eE] at F0 F1 ⊢
    clear eE hs
    have HSD : Hid (sdE sw sh = true → (16 ≤ sw ∧ sw ≤ 4096) ∧ sw % 2 = 0 ∧ (16 ≤ sh ∧ sh ≤ 4096)) := Hid.mk (fun h => by unfold sdE at h; exact of_decide_eq_true h)
    obtain ⟨sb, esb⟩ : ∃ b, sdE sw sh = b := ⟨_, rfl⟩
    rw [esb] at C2 F0 F1 HSD
    clear esb
    cases sb
    · have HE := Hid.mk (F0.out (by simp))
      clear hn hshp
      go_enter Tryz.func13, Tryz.ntmps13
      go_wp2_with (fail)
      clear e1 e2 z1 eB
      refine (C1.out _).mono ?_
      rintro e w3 ⟨rfl, k3⟩
      have K3 := Hid.mk k3
      clear q0 q1 q2 q3 q4 s0 s1 s2 s3 k3
      obtain ⟨q0, q1, q2, q3, q4⟩ := cel5 (K3.out.heap HC.out (by simp))
      go_wp2_with (fail)
      refine (C2.out _).mono ?_
      rintro e w4 ⟨rfl, hw⟩
      obtain rfl := hw.symm
      go_wp2
      go_ret
      exact ⟨ret_int HE.out.symm, K2.out.trans K3.out⟩
    · by_cases h1 : 1 ≤ n ∧ n ≤ 16
      · obtain ⟨h1, h16⟩ := h1
        have d1 : decide ((n : Int) < 1) = false := by simp; omega
        have d2 : decide ((16 : Int) < (n : Int)) = false := by simp; omega
        by_cases hcap : cap < 0
        · have HE := Hid.mk (F0.out (fun h => by have := h.2.2.1; omega))
          clear hn hshp h1 h16
          go_enter Tryz.func13, Tryz.ntmps13
          go_wp2_with (fail)
          clear e1 e2 z1 eB
          refine (C1.out _).mono ?_
          rintro e w3 ⟨rfl, k3⟩
          have K3 := Hid.mk k3
          clear q0 q1 q2 q3 q4 s0 s1 s2 s3 k3
          obtain ⟨q0, q1, q2, q3, q4⟩ := cel5 (K3.out.heap HC.out (by simp))
          go_wp2_with (fail)
          refine (C2.out _).mono ?_
          rintro e w4 ⟨rfl, hw⟩
          obtain rfl := hw.symm
          go_wp2
          go_ret
          exact ⟨ret_int HE.out.symm, K2.out.trans K3.out⟩
        · have dcap : decide (cap < 0) = false := by simpa using hcap
          by_cases hp0 : p < 0
          · have HE := Hid.mk (F0.out (fun h => by have h9 := h.2.2.2; unfold pmb at h9; have := of_decide_eq_true h9; omega))
            clear hn hshp h1 h16
            go_enter Tryz.func13, Tryz.ntmps13
            go_wp2_with (fail)
            clear e1 e2 z1 eB
            refine (C1.out _).mono ?_
            rintro e w3 ⟨rfl, k3⟩
            have K3 := Hid.mk k3
            clear q0 q1 q2 q3 q4 s0 s1 s2 s3 k3
            obtain ⟨q0, q1, q2, q3, q4⟩ := cel5 (K3.out.heap HC.out (by simp))
            go_wp2_with (fail)
            refine (C2.out _).mono ?_
            rintro e w4 ⟨rfl, hw⟩
            obtain rfl := hw.symm
            go_wp2
            go_ret
            exact ⟨ret_int HE.out.symm, K2.out.trans K3.out⟩
          · have dp0 : decide (p < 0) = false := by simpa using hp0
            by_cases hp16 : 16 < p
            · have HE := Hid.mk (F0.out (fun h => by have h9 := h.2.2.2; unfold pmb at h9; have := of_decide_eq_true h9; omega))
              clear hn hshp h1 h16
              go_enter Tryz.func13, Tryz.ntmps13
              go_wp2_with (fail)
              clear e1 e2 z1 eB
              refine (C1.out _).mono ?_
              rintro e w3 ⟨rfl, k3⟩
              have K3 := Hid.mk k3
              clear q0 q1 q2 q3 q4 s0 s1 s2 s3 k3
              obtain ⟨q0, q1, q2, q3, q4⟩ := cel5 (K3.out.heap HC.out (by simp))
              go_wp2_with (fail)
              refine (C2.out _).mono ?_
              rintro e w4 ⟨rfl, hw⟩
              obtain rfl := hw.symm
              go_wp2
              go_ret
              exact ⟨ret_int HE.out.symm, K2.out.trans K3.out⟩
            · have dp16 : decide (16 < p) = false := by simpa using hp16
              have CC := Hid.mk (fun u => rCount_any W H D sw sh A u hshp (HSD.out rfl))
              have HCP : Hid (0 ≤ cap ∧ 0 ≤ p ∧ p ≤ 16) := Hid.mk (by omega)
              have HN16 := Hid.mk (And.intro h1 h16)
              obtain ⟨Nn, eNn⟩ : ∃ x, Tl.cl W sw * Tl.cl H sh = x := ⟨_, rfl⟩
              rw [eNn] at CC F0 F1
              clear hn hshp h16 hcap hp0 hp16 eNn
              go_enter Tryz.func13, Tryz.ntmps13
              go_wp2_with (fail)
              clear e1 e2 z1 eB
              refine (C1.out _).mono ?_
              rintro e w3 ⟨rfl, k3⟩
              have K3 := Hid.mk k3
              clear q0 q1 q2 q3 q4 s0 s1 s2 s3 k3
              obtain ⟨q0, q1, q2, q3, q4⟩ := cel5 (K3.out.heap HC.out (by simp))
              go_wp2_with (fail)
              refine (C2.out _).mono ?_
              rintro e w4 ⟨rfl, hw⟩
              obtain rfl := hw.symm
              go_wp2
              clear q0 q1 q2 q3 q4
              go_loopw [7] (fun i wr => ∃ k : Nat, k ≤ n ∧ i = .int .i64 (k : Int) ∧ Hid (Kept [] w3 wr ∧ ∀ j, j < k → rmb (L j) A = true)) (fun i _ => n - (intOf i).toNat)
              case atStart => exact ⟨0, Nat.zero_le _, rfl, Hid.mk ⟨Kept.refl _ _, fun j hj => by omega⟩⟩
              case round =>
                obtain ⟨k, hk, rfl, HI⟩ := hrel
                have HCr := (K3.out.trans HI.out.1).heap HC.out (by simp)
                have HSr := (K3.out.trans HI.out.1).heap HS.out (by simp)
                obtain ⟨q0, q1, q2, q3, q4⟩ := cel5 HCr
                by_cases hlt : k < n
                · obtain ⟨gl, off, rfl, l0, l1, l2, l3⟩ := (HL.out.keep (K3.out.trans HI.out.1)).at hlt
                  have ix : (k : Int) < (n : Int) := by omega
                  have HNO : Hid (rmb (L k) A = false → E = 121) := Hid.mk (fun h => F0.out (fun h2 => by rw [lmb_no hlt h] at h2; cases h2.2.1))
                  have CQ := Hid.mk (fun u => rRung_any (L k) W H D A u)
                  obtain ⟨qb, eqb⟩ : ∃ q, rmb (L k) A = q := ⟨_, rfl⟩
                  rw [eqb] at CQ HNO
                  have EQ := Hid.mk eqb
                  obtain ⟨a0, g0⟩ : ∃ a, L k 0 = a := ⟨_, rfl⟩
                  obtain ⟨a1, g1⟩ : ∃ a, L k 1 = a := ⟨_, rfl⟩
                  obtain ⟨a2, g2⟩ : ∃ a, L k 2 = a := ⟨_, rfl⟩
                  obtain ⟨a3, g3⟩ : ∃ a, L k 3 = a := ⟨_, rfl⟩
                  simp only [rgv, g0, g1, g2, g3] at CQ l0 l1 l2 l3
                  have x0 := fun z : KW wr => cellAt (i := 0) (z.h.heap HSr (by simp)) rfl
                  have x1 := fun z : KW wr => cellAt (i := 1) (z.h.heap HSr (by simp)) rfl
                  have x2 := fun z : KW wr => cellAt (i := 2) (z.h.heap HSr (by simp)) rfl
                  have x3 := fun z : KW wr => cellAt (i := 3) (z.h.heap HSr (by simp)) rfl
                  have y2 := fun z : KW wr => cellAt (i := 2) (z.h.heap HCr (by simp)) rfl
                  have m0 := fun z : KW wr => Tl.cell_keep z.h l0 (by simp)
                  have m1 := fun z : KW wr => Tl.cell_keep z.h l1 (by simp)
                  have m2 := fun z : KW wr => Tl.cell_keep z.h l2 (by simp)
                  have m3 := fun z : KW wr => Tl.cell_keep z.h l3 (by simp)
                  have Q1 : Hid (∀ z : KW wr, Calls Tryz.prog 38 #[.agg #[.int .i64 W, .int .i64 H, .int .i64 D, .bool A], .agg #[.int .i64 a0, .int .i64 a1, .int .i64 a2, .int .i64 a3]] z.u fun r w' => r = .returned (.bool qb) ∧ ∃ z' : KW wr, w' = z'.u) := Hid.mk fun z => (CQ.out z.u).mono fun r w' ⟨h1, h2⟩ => ⟨h1, ⟨w', z.h.trans h2⟩, rfl⟩
                  have NE : Nonempty (KW wr) := ⟨⟨wr, Kept.refl _ _⟩⟩
                  clear g0 g1 g2 g3 eqb HCr HSr l0 l1 l2 l3 CQ
                  go_wp2_with (fail)
                  clear q0 q1 q2 q3 q4
                  refine wp_region_kept (by kernel_rfl) (by kernel_rfl) ?_
                  repeat (go_big_quiet_step ((go_at_call 38; exact Q1.out _)))
                  refine wpQuiet_nil ?_
                  rintro _ ⟨z, rfl⟩
                  have KZ := Hid.mk (HI.out.1.trans z.h)
                  generalize z.u = wz at *
                  clear x0 x1 x2 x3 y2 m0 m1 m2 m3 Q1 NE
                  cases qb
                  · have HE := Hid.mk (HNO.out rfl)
                    go_wp2
                    go_ret
                    exact ⟨ret_int HE.out.symm, (K2.out.trans K3.out).trans KZ.out⟩
                  · have hk1 : wrap64 ((k : Int) + 1) = ((k + 1 : Nat) : Int) := w64_add (b := 1) rfl (by have := HN16.out; omega)
                    go_wp2
                    rw [hk1]
                    clear hk1
                    go_roundw
                    case rel => exact ⟨k + 1, by omega, rfl, Hid.mk ⟨KZ.out, fun j hj => by
                      by_cases e : j = k
                      · subst e; exact EQ.out
                      · exact HI.out.2 j (by omega)⟩⟩
                    case measure => simp [intOf]; omega
                · obtain rfl : n = k := by omega
                  have HLM : Hid (lmb n L A = true) := Hid.mk (lmb_yes.2 ⟨HN16.out, HI.out.2⟩)
                  obtain ⟨s0, s1, s2, s3⟩ := cel4 HSr
                  have HK9 := Hid.mk ((K2.out.trans K3.out).trans HI.out.1)
                  clear HCr HSr hk hlt
                  by_cases hp1 : 0 < p
                  · go_wp2_with (fail)
                    refine (CC.out _).mono ?_
                    rintro e w5 ⟨rfl, k5⟩
                    have K5 := Hid.mk (HK9.out.trans k5)
                    clear q0 q1 q2 q3 q4 s0 s1 s2 s3 k5
                    by_cases h200 : 200 < Nn
                    · have HE := Hid.mk (F0.out (fun h => by have h9 := h.2.2.2; unfold pmb at h9; have := of_decide_eq_true h9; omega))
                      go_wp2
                      go_ret
                      exact ⟨ret_int HE.out.symm, K5.out⟩
                    · have d200 : decide (200 < Nn) = false := by simpa using h200
                      have HE := Hid.mk (F1.out ⟨by first | rfl | trivial, HLM.out, HCP.out.1, by unfold pmb; exact decide_eq_true ⟨HCP.out.2, .inr (by omega)⟩⟩)
                      go_wp2
                      go_ret
                      exact ⟨ret_int HE.out.symm, K5.out⟩
                  · have dp1 : decide (0 < p) = false := by simpa using hp1
                    have HE := Hid.mk (F1.out ⟨by first | rfl | trivial, HLM.out, HCP.out.1, by unfold pmb; exact decide_eq_true ⟨HCP.out.2, .inl (by have := HCP.out; omega)⟩⟩)
                    clear hp1
                    go_wp2
                    go_ret
                    exact ⟨ret_int HE.out.symm, HK9.out⟩
      · have HE := Hid.mk (F0.out (fun h => by rw [lmb_len h1] at h; cases h.2.1))
        by_cases h2 : 1 ≤ n
        · have d1 : decide ((n : Int) < 1) = false := by simp; omega
          have d2 : decide ((16 : Int) < (n : Int)) = true := by simp; omega
          clear hn hshp h1 h2
          go_enter Tryz.func13, Tryz.ntmps13
          go_wp2_with (fail)
          clear e1 e2 z1 eB
          refine (C1.out _).mono ?_
          rintro e w3 ⟨rfl, k3⟩
          have K3 := Hid.mk k3
          clear q0 q1 q2 q3 q4 s0 s1 s2 s3 k3
          obtain ⟨q0, q1, q2, q3, q4⟩ := cel5 (K3.out.heap HC.out (by simp))
          go_wp2_with (fail)
          refine (C2.out _).mono ?_
          rintro e w4 ⟨rfl, hw⟩
          obtain rfl := hw.symm
          go_wp2
          go_ret
          exact ⟨ret_int HE.out.symm, K2.out.trans K3.out⟩
        · have d1 : decide ((n : Int) < 1) = true := by simp; omega
          clear hn hshp h1 h2
          go_enter Tryz.func13, Tryz.ntmps13
          go_wp2_with (fail)
          clear e1 e2 z1 eB
          refine (C1.out _).mono ?_
          rintro e w3 ⟨rfl, k3⟩
          have K3 := Hid.mk k3
          clear q0 q1 q2 q3 q4 s0 s1 s2 s3 k3
          obtain ⟨q0, q1, q2, q3, q4⟩ := cel5 (K3.out.heap HC.out (by simp))
          go_wp2_with (fail)
          refine (C2.out _).mono ?_
          rintro e w4 ⟨rfl, hw⟩
          obtain rfl := hw.symm
          go_wp2
          go_ret
          exact ⟨ret_int HE.out.symm, K2.out.trans K3.out⟩
  · have f61 : Tl.shE W H D A = 61 := by unfold Tl.shE at hs ⊢; split at hs; exact absurd rfl hs; rename_i h9; rw [if_neg h9]
    have e9 : cfE W H D A sw sh n L cap p = 61 := by unfold cfE; rw [if_neg hs]
    rw [e9]
    rw [f61] at C1
    clear hs e9 f61 hn
    go_enter Tryz.func13, Tryz.ntmps13
    go_wp2_with (fail)
    clear e1 e2 z1 eB
    refine (C1.out _).mono ?_
    rintro e w3 ⟨rfl, k3⟩
    have K3 := Hid.mk k3
    clear q0 q1 q2 q3 q4 s0 s1 s2 s3 k3
    obtain ⟨q0, q1, q2, q3, q4⟩ := cel5 (K3.out.heap HC.out (by simp))
    go_wp2
    go_ret
    exact ⟨rfl, K2.out.trans K3.out⟩
end Go.Proofs.YthkpligodbkofaaGreatDoor.Pc

namespace Go.Proofs.YthkpligodbkofaaGreatDoor.Pc
open Go.RowKit

set_option maxHeartbeats 4000000 in
set_option maxRecDepth 1000000 in
theorem rRect_any (W H D sw sh c r : Int) (A : Bool) (k : Int) (w : World) (g : Tl.Gd W H sw sh c r) (hc : c = Tl.cl W sw) (k0 : 0 ≤ k) (k1 : k < c * r) :
    Calls Tryz.prog 21 #[Tl.shv W H D A, .int .i64 sw, .int .i64 sh, .int .i64 k] w fun e w' => e = .returned (Tl.rcv (Tl.sX c sw k) (Tl.sY c sh k) (min sw (W - Tl.sX c sw k)) (min sh (H - Tl.sY c sh k))) ∧ Kept [] w w' := by
  obtain ⟨w1, e1⟩ : ∃ w1, w.alloc (.cells #[.int .i64 W, .int .i64 H, .int .i64 D, .bool A] 26 (0, 0)) = w1 := ⟨_, rfl⟩
  obtain ⟨w2, e2⟩ : ∃ w2, w1.alloc (.cells #[.int .i64 0, .int .i64 0, .int .i64 0, .int .i64 0] 60 (0, 0)) = w2 := ⟨_, rfl⟩
  obtain ⟨B, eB⟩ : ∃ B, w.heap.size = B := ⟨_, rfl⟩
  have z1 : w1.heap.size = B + 1 := by rw [← e1, ← eB]; exact Array.size_push _
  have z2 : w2.heap.size = B + 1 + 1 := by rw [← e2, ← z1]; exact Array.size_push _
  have k1' : Kept [] w w1 := by rw [← e1]; exact (Kept.refl [] w).alloc _
  have k2 : Kept [] w1 w2 := by rw [← e2]; exact (Kept.refl [] w1).alloc _
  have HS := Hid.mk (k2.heap (show w1.heap[B]? = some (.cells #[.int .i64 W, .int .i64 H, .int .i64 D, .bool A] 26 (0, 0)) by rw [← e1, ← eB]; exact heap_alloc_new _ _) (by simp))
  have HR := Hid.mk (show w2.heap[B + 1]? = some (.cells #[.int .i64 0, .int .i64 0, .int .i64 0, .int .i64 0] 60 (0, 0)) by rw [← e2, ← z1]; exact heap_alloc_new _ _)
  have K2 := Hid.mk (k1'.trans k2)
  clear k1' k2
  have C1 : Hid (∀ u, Calls Tryz.prog 35 #[.int .i64 W, .int .i64 sw] u fun e w' => e = .returned (.int .i64 c) ∧ w' = u) := Hid.mk (fun u => by rw [hc]; exact up_any W sw u (by have := g.w0; omega) (by have := g.w1; omega) (by have := g.s0; omega) (by have := g.s1; omega))
  have hx := Tl.sX_in g k
  have hy := Tl.sY_in g k0 k1
  have cn : c ≠ 0 := by have := g.c0; omega
  have hcr : c * r ≤ 65536 := Int.mul_le_mul (a := c) (b := r) (c := 256) (d := 256) g.c1 g.r1 (by have := g.r0; omega) (by omega)
  have i1 : 0 ≤ k % c * sw ∧ k % c * sw ≤ 4096 := by have h1 := hx.1; have h2 := hx.2.1; have h3 := g.w1; unfold Tl.sX at h1 h2; omega
  have i2 : 0 ≤ k / c * sh ∧ k / c * sh ≤ 4096 := by have h1 := hy.1; have h2 := hy.2; have h3 := g.h1; unfold Tl.sY at h1 h2; omega
  have i3 : 0 ≤ k / c ∧ k / c ≤ 65536 := ⟨Int.ediv_nonneg k0 (show 0 ≤ c by have := g.c0; omega), by have := Int.ediv_le_self c k0; omega⟩
  have q1 : wrap64 (k % c * sw) = Tl.sX c sw k := Tl.w64_in (by omega) (by omega)
  have q1' : IntKind.i64.wrap (k % c * sw) = Tl.sX c sw k := Tl.wrap_i (by omega) (by omega)
  have q2 : wrap64 (k / c * sh) = Tl.sY c sh k := Tl.w64_in (by omega) (by omega)
  have q2' : IntKind.i64.wrap (k / c * sh) = Tl.sY c sh k := Tl.wrap_i (by omega) (by omega)
  have q3 : wrap64 (k.tdiv c) = k / c := by
    rw [Int.tdiv_eq_ediv_of_nonneg k0]
    exact Tl.w64_in (by omega) (by omega)
  have q3' : IntKind.i64.wrap (k.tdiv c) = k / c := by
    rw [Int.tdiv_eq_ediv_of_nonneg k0]
    exact Tl.wrap_i (by omega) (by omega)
  have q4 : k.tmod c = k % c := Int.tmod_eq_emod_of_nonneg k0
  have NB : Hid (0 ≤ Tl.sX c sw k ∧ Tl.sX c sw k < W ∧ W ≤ 4096 ∧ 0 ≤ Tl.sY c sh k ∧ Tl.sY c sh k < H ∧ H ≤ 4096 ∧ 16 ≤ sw ∧ sw ≤ 4096 ∧ 16 ≤ sh ∧ sh ≤ 4096) := Hid.mk ⟨hx.1, hx.2.1, g.w1, hy.1, hy.2, g.h1, g.s0, g.s1, g.t0, g.t1⟩
  clear hx hy hcr g k1 hc i1 i2 i3
  obtain ⟨X, eX⟩ : ∃ X, Tl.sX c sw k = X := ⟨_, rfl⟩
  obtain ⟨Y, eY⟩ : ∃ Y, Tl.sY c sh k = Y := ⟨_, rfl⟩
  rw [eX] at q1 q1'
  rw [eY] at q2 q2'
  rw [eX, eY] at NB ⊢
  clear eX eY
  obtain ⟨w', ew'⟩ : ∃ x, min sw (W - X) = x := ⟨_, rfl⟩
  obtain ⟨h', eh'⟩ : ∃ x, min sh (H - Y) = x := ⟨_, rfl⟩
  rw [ew', eh']
  have EW := Hid.mk ew'
  have EH := Hid.mk eh'
  clear ew' eh'
  obtain ⟨s0, s1, s2, s3⟩ := cel4 HS.out
  go_enter Tryz.func21, Tryz.ntmps21
  go_wp2_with (fail)
  refine (C1.out _).mono ?_
  rintro e w3 ⟨rfl, hw⟩
  obtain rfl := hw.symm
  clear e1 e2 s0 s1 s2 s3
  go_wp2_with (fail)
  refine wp_region_held_drew (S := fun _ => True) (by kernel_rfl) trivial (fun hHeld => ?_)
  refine wpAnyH_take (i := 0) (oi := _) (v := ?_) rfl (by kernel_rfl) (by kernel_rfl) (by kernel_rfl) (fun _ _ _ h => h) (Or.inl ⟨by rfl, ?y0⟩) (by assumption) ?r0
  case y0 => (intro w hSw; (try dsimp only at hSw); go_simp; try with_reducible rfl)
  refine wpAnyH_take (i := 1) (oi := _) (v := ?_) rfl (by kernel_rfl) (by kernel_rfl) (by kernel_rfl) (fun _ _ _ h => h) (Or.inl ⟨by rfl, ?y1⟩) (by assumption) ?r1
  case y1 => (intro w hSw; (try dsimp only at hSw); go_simp; try with_reducible rfl)
  refine wpAnyH_take (i := 2) (oi := _) (v := ?_) rfl (by kernel_rfl) (by kernel_rfl) (by kernel_rfl) (fun _ _ _ h => h) (Or.inl ⟨by rfl, ?y2⟩) (by assumption) ?r2
  case y2 => (intro w hSw; (try dsimp only at hSw); go_simp; try with_reducible rfl)
  refine wpAnyH_take (i := 3) (oi := _) (v := ?_) rfl (by kernel_rfl) (by kernel_rfl) (by kernel_rfl) (fun _ _ _ h => h) (Or.inl ⟨by rfl, ?y3⟩) (by assumption) ?r3
  case y3 => (intro w hSw; (try dsimp only at hSw); go_simp; try with_reducible rfl)
  refine wpAnyH_take (i := 4) (oi := _) (v := ?_) rfl (by kernel_rfl) (by kernel_rfl) (by kernel_rfl) (fun _ _ _ h => h) (Or.inl ⟨by rfl, ?y4⟩) (by assumption) ?r4
  case y4 => (intro w hSw; (try dsimp only at hSw); go_simp; try with_reducible rfl)
  refine wpAnyH_take (i := 5) (oi := _) (v := ?_) rfl (by kernel_rfl) (by kernel_rfl) (by kernel_rfl) (fun _ _ _ h => h) (Or.inl ⟨by rfl, ?y5⟩) (by assumption) ?r5
  case y5 => (intro w hSw; (try dsimp only at hSw); go_simp; try with_reducible rfl)
  refine wpAnyH_take (i := 6) (oi := _) (v := ?_) rfl (by kernel_rfl) (by kernel_rfl) (by kernel_rfl) (fun _ _ _ h => h) (Or.inl ⟨by rfl, ?y6⟩) (by assumption) ?r6
  case y6 => (intro w hSw; (try dsimp only at hSw); go_simp; try with_reducible rfl)
  refine wpAnyH_take (i := 7) (oi := _) (v := ?_) rfl (by kernel_rfl) (by kernel_rfl) (by kernel_rfl) (fun _ _ _ h => h) (Or.inl ⟨by rfl, ?y7⟩) (by assumption) ?r7
  case y7 => (intro w hSw; (try dsimp only at hSw); go_simp; try with_reducible rfl)
  refine wpAnyH_take (i := 8) (oi := _) (v := ?_) rfl (by kernel_rfl) (by kernel_rfl) (by kernel_rfl) (fun _ _ _ h => h) (Or.inl ⟨by rfl, ?y8⟩) (by assumption) ?r8
  case y8 => (intro w hSw; (try dsimp only at hSw); go_simp; try with_reducible rfl)
  refine wpAnyH_take (i := 9) (oi := _) (v := ?_) rfl (by kernel_rfl) (by kernel_rfl) (by kernel_rfl) (fun _ _ _ h => h) (Or.inl ⟨by rfl, ?y9⟩) (by assumption) ?r9
  case y9 => (intro w hSw; (try dsimp only at hSw); go_simp; try with_reducible rfl)
  refine wpAnyH_take (i := 10) (oi := _) (v := ?_) rfl (by kernel_rfl) (by kernel_rfl) (by kernel_rfl) (fun _ _ _ h => h) (Or.inl ⟨by rfl, ?y10⟩) (by assumption) ?r10
  case y10 => (intro w hSw; (try dsimp only at hSw); go_simp; try with_reducible rfl)
  refine wpAnyH_take (i := 11) (oi := _) (v := ?_) rfl (by kernel_rfl) (by kernel_rfl) (by kernel_rfl) (fun _ _ _ h => h) (Or.inl ⟨by rfl, ?y11⟩) (by assumption) ?r11
  case y11 => (intro w hSw; (try dsimp only at hSw); go_simp; try with_reducible rfl)
  refine wpAnyH_take (i := 12) (oi := _) (v := ?_) rfl (by kernel_rfl) (by kernel_rfl) (by kernel_rfl) (fun _ _ _ h => h) (Or.inl ⟨by rfl, ?y12⟩) (by assumption) ?r12
  case y12 => (intro w hSw; (try dsimp only at hSw); go_simp; try with_reducible rfl)
  obtain ⟨w4, e4⟩ : ∃ w4, w2.drew.alloc (.cells #[.int .i64 0, .int .i64 0, .int .i64 0, .int .i64 0] 60 (0, 0)) = w4 := ⟨_, rfl⟩
  have K4 : Hid (Kept [] w2 w4) := Hid.mk (by rw [← e4]; exact ((Kept.refl [] w2).drew).alloc _)
  have z2d : w2.drew.heap.size = B + 1 + 1 := z2
  have HQ := Hid.mk (show w4.heap[B + 1 + 1]? = some (.cells #[.int .i64 0, .int .i64 0, .int .i64 0, .int .i64 0] 60 (0, 0)) by rw [← e4, ← z2d]; exact heap_alloc_new _ _)
  refine wpAnyH_ready (rs := [13]) (by kernel_rfl) (by simp) ?_
  refine AllReadyH.cons rfl (fun K hK => ?_) AllReadyH.nil
  go_simp
  refine hK.out _ _ trivial (fun hHeld => ?_)
  clear hK K
  refine wpAnyH_ready (rs := [14]) (by kernel_rfl) (by simp) ?_
  refine AllReadyH.cons rfl (fun K hK => ?_) AllReadyH.nil
  obtain ⟨⟨x0, x1, x2, x3⟩, f0, f1, f2, f3⟩ := Tl.four HQ.out
  try rw [e4]
  have s4 := Tl.set4 (.int .i64 X) (.int .i64 Y) (.int .i64 sw) (.int .i64 sh) HQ.out
  obtain ⟨w5, e5⟩ : ∃ w5, (((w4.setCell ⟨B + 1 + 1, 0, none⟩ (.int .i64 X)).setCell ⟨B + 1 + 1, 1, none⟩ (.int .i64 Y)).setCell ⟨B + 1 + 1, 2, none⟩ (.int .i64 sw)).setCell ⟨B + 1 + 1, 3, none⟩ (.int .i64 sh) = w5 := ⟨_, rfl⟩
  rw [e5] at s4
  have S4 := Hid.mk s4
  clear s4
  go_simp
  refine hK.out _ _ trivial (fun hHeld => ?_)
  clear hK K
  refine wpAnyH_done (by kernel_rfl) ?_ _
  clear x0 x1 x2 x3 f0 f1 f2 f3 e4
  try rw [e5]
  clear e5
  have K5 : Hid (Kept [] w2 w5) := Hid.mk (K4.out.step S4.out.2 (fun z hz => by simp at hz; subst hz; exact .inr (by omega)))
  have HS5 := Hid.mk (K5.out.heap HS.out (by simp))
  have HR5 := Hid.mk (K5.out.heap HR.out (by simp))
  clear z1 z2d q1 q2 q3 q4 q1' q2' q3' cn C1 hw k0
  have ZB : Hid (w2.heap.size = B + 1 + 1 ∧ w.heap.size = B) := Hid.mk ⟨z2, eB⟩
  clear z2 eB hHeld
  -- the width
  have P1 : ∃ w6, Hid (Kept [] w2 w6 ∧ w6.heap[B + 1 + 1]? = some (.cells #[.int .i64 X, .int .i64 Y, .int .i64 w', .int .i64 sh] 60 (0, 0)) ∧ ((W < X + sw ∧ w5.setCell ⟨B + 1 + 1, 2, none⟩ (.int .i64 (W - X)) = w6) ∨ (¬ W < X + sw ∧ w5 = w6))) := by
    by_cases h : W < X + sw
    · have e : w' = W - X := by rw [← EW.out]; omega
      rw [e]
      exact ⟨_, Hid.mk ⟨K5.out.step ((Kept.refl [B + 1 + 1] w5).setCell (p := ⟨B + 1 + 1, 2, none⟩) (.inl (by simp)) _) (fun z hz => by simp at hz; subst hz; exact .inr (by have := ZB.out; omega)), heap_setCell_at S4.out.1, .inl ⟨h, rfl⟩⟩⟩
    · have e : w' = sw := by rw [← EW.out]; omega
      rw [e]
      exact ⟨w5, Hid.mk ⟨K5.out, S4.out.1, .inr ⟨h, rfl⟩⟩⟩
  obtain ⟨w6, H6⟩ := P1
  have P2 : ∃ w7, Hid (Kept [] w2 w7 ∧ w7.heap[B + 1 + 1]? = some (.cells #[.int .i64 X, .int .i64 Y, .int .i64 w', .int .i64 h'] 60 (0, 0)) ∧ ((H < Y + sh ∧ w6.setCell ⟨B + 1 + 1, 3, none⟩ (.int .i64 (H - Y)) = w7) ∨ (¬ H < Y + sh ∧ w6 = w7))) := by
    by_cases h : H < Y + sh
    · have e : h' = H - Y := by rw [← EH.out]; omega
      rw [e]
      exact ⟨_, Hid.mk ⟨H6.out.1.step ((Kept.refl [B + 1 + 1] w6).setCell (p := ⟨B + 1 + 1, 3, none⟩) (.inl (by simp)) _) (fun z hz => by simp at hz; subst hz; exact .inr (by have := ZB.out; omega)), heap_setCell_at H6.out.2.1, .inl ⟨h, rfl⟩⟩⟩
    · have e : h' = sh := by rw [← EH.out]; omega
      rw [e]
      exact ⟨w6, Hid.mk ⟨H6.out.1, H6.out.2.1, .inr ⟨h, rfl⟩⟩⟩
  obtain ⟨w7, H7⟩ := P2
  have m1 : wrap64 (X + sw) = X + sw := Tl.w64_in (by have := NB.out; omega) (by have := NB.out; omega)
  have m1' : IntKind.i64.wrap (X + sw) = X + sw := Tl.wrap_i (by have := NB.out; clear m1; omega) (by have := NB.out; clear m1; omega)
  have m2' : IntKind.i64.wrap (W - X) = W - X := Tl.wrap_i (by have := NB.out; clear m1 m1'; omega) (by have := NB.out; clear m1 m1'; omega)
  have n1 : wrap64 (Y + sh) = Y + sh := Tl.w64_in (by have := NB.out; clear m1 m1' m2'; omega) (by have := NB.out; clear m1 m1' m2'; omega)
  have n1' : IntKind.i64.wrap (Y + sh) = Y + sh := Tl.wrap_i (by have := NB.out; clear m1 m1' m2' n1; omega) (by have := NB.out; clear m1 m1' m2' n1; omega)
  have n2' : IntKind.i64.wrap (H - Y) = H - Y := Tl.wrap_i (by have := NB.out; clear m1 m1' m2' n1 n1'; omega) (by have := NB.out; clear m1 m1' m2' n1 n1'; omega)
  obtain ⟨⟨u0, u1, u2, u3⟩, v0, v1, v2, v3⟩ := Tl.four S4.out.1
  obtain ⟨s0, s1, s2, s3⟩ := cel4 HS5.out
  have R7 := Hid.mk (H7.out.1.heap HR.out (by simp))
  have S9 := Tl.set4 (.int .i64 X) (.int .i64 Y) (.int .i64 w') (.int .i64 h') R7.out
  obtain ⟨w9, e9⟩ : ∃ w9, (((w7.setCell ⟨B + 1, 0, none⟩ (.int .i64 X)).setCell ⟨B + 1, 1, none⟩ (.int .i64 Y)).setCell ⟨B + 1, 2, none⟩ (.int .i64 w')).setCell ⟨B + 1, 3, none⟩ (.int .i64 h') = w9 := ⟨_, rfl⟩
  rw [e9] at S9
  have T9 := Hid.mk S9
  clear S9
  have HK9 : Hid (Kept [] w w9) := Hid.mk ((K2.out.trans H7.out.1).step T9.out.2 (fun z hz => by simp at hz; subst hz; exact .inr (by have := ZB.out; omega)))
  obtain ⟨⟨a0, a1, a2, a3⟩, b0, b1, b2, b3⟩ := Tl.four H6.out.2.1
  obtain ⟨⟨c0, c1, c2, c3⟩, d0, d1, d2, d3⟩ := Tl.four H7.out.2.1
  obtain ⟨t0, t1, t2, t3⟩ := cel4 (H6.out.1.heap HS.out (by simp))
  obtain ⟨⟨o0, o1, o2, o3⟩, p0, p1, p2, p3⟩ := Tl.four R7.out
  clear u1 u3 v0 v1 v3 s1 s2 s3 a0 a2 b0 b1 b2 d0 d1 d2 d3 t0 t2 t3
  rcases H6.out.2.2 with ⟨h1, e6⟩ | ⟨h1, e6⟩
  · rcases H7.out.2.2 with ⟨h2, e7⟩ | ⟨h2, e7⟩
    · have g1 : decide (W < X + sw) = true := by simpa using h1
      have g2 : decide (H < Y + sh) = true := by simpa using h2
      clear h1 h2
      go_wp2
      refine bodyPost_ret (v := Tl.rcv X Y w' h') ?_ rfl ⟨by rfl, HK9.out⟩
      exact results_cell_row rfl _ _ (B + 1) 60 _ (0, 0) _ rfl T9.out.1 Tryz.underlying60 rfl Tl.Tryz.info60
    · have g1 : decide (W < X + sw) = true := by simpa using h1
      have g2 : decide (H < Y + sh) = false := by simpa using h2
      have eh : h' = sh := by rw [← EH.out]; omega
      clear h1 h2 a1 a3 b3
      obtain rfl := e7
      subst eh
      go_wp2
      refine bodyPost_ret (v := Tl.rcv X Y w' h') ?_ rfl ⟨by rfl, HK9.out⟩
      exact results_cell_row rfl _ _ (B + 1) 60 _ (0, 0) _ rfl T9.out.1 Tryz.underlying60 rfl Tl.Tryz.info60
  · have g1 : decide (W < X + sw) = false := by simpa using h1
    have ew : w' = sw := by rw [← EW.out]; omega
    clear h1 u0 u2 v2 s0
    obtain rfl := e6
    obtain ⟨u0, _, u2, _⟩ := cel4 H6.out.2.1
    obtain ⟨s0, _, _, _⟩ := cel4 (H6.out.1.heap HS.out (by simp))
    subst ew
    rcases H7.out.2.2 with ⟨h2, e7⟩ | ⟨h2, e7⟩
    · have g2 : decide (H < Y + sh) = true := by simpa using h2
      clear h2
      go_wp2
      refine bodyPost_ret (v := Tl.rcv X Y w' h') ?_ rfl ⟨by rfl, HK9.out⟩
      exact results_cell_row rfl _ _ (B + 1) 60 _ (0, 0) _ rfl T9.out.1 Tryz.underlying60 rfl Tl.Tryz.info60
    · have g2 : decide (H < Y + sh) = false := by simpa using h2
      have eh : h' = sh := by rw [← EH.out]; omega
      clear h2 a1 a3 b3
      obtain rfl := e7
      subst eh
      go_wp2
      refine bodyPost_ret (v := Tl.rcv X Y w' h') ?_ rfl ⟨by rfl, HK9.out⟩
      exact results_cell_row rfl _ _ (B + 1) 60 _ (0, 0) _ rfl T9.out.1 Tryz.underlying60 rfl Tl.Tryz.info60
end Go.Proofs.YthkpligodbkofaaGreatDoor.Pc
