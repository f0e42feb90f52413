import Derived.Test.YthkpligodbkofaaGreatDoorpXZ
namespace Go.Proofs.YthkpligodbkofaaGreatDoor.Pc
open Go.RowKit

theorem whl_part {W H sw sh c r k : Int} (g : Tl.Gd W H sw sh c r) (k0 : 0 ≤ k) (k1 : k < c * r) : Tl.whl W H (Tl.sX c sw k) (Tl.sY c sh k) (min sw (W - Tl.sX c sw k)) (min sh (H - Tl.sY c sh k)) = true := by
  have hx := Tl.sX_in g k
  have hy := Tl.sY_in g k0 k1
  have h1 := g.s0
  have h2 := g.se
  have h3 := g.t0
  generalize Tl.sX c sw k = X at *
  generalize Tl.sY c sh k = Y at *
  unfold Tl.whl
  refine decide_eq_true ?_
  omega
theorem hE_part {W H D sw sh c r k : Int} {A : Bool} (hs : Tl.Shp W H D A) (g : Tl.Gd W H sw sh c r) (k0 : 0 ≤ k) (k1 : k < c * r) {p : Int} (p0 : 0 ≤ p) (p1 : p < (Tl.np A : Int)) : Tl.hE W H D p (Tl.sX c sw k) (Tl.sY c sh k) (min sw (W - Tl.sX c sw k)) (min sh (H - Tl.sY c sh k)) A = 0 := by
  unfold Tl.hE
  rw [if_pos (Tl.shE_ok hs), if_pos ⟨⟨p0, p1⟩, whl_part g k0 k1⟩]

set_option maxHeartbeats 4000000 in
set_option maxRecDepth 1000000 in
theorem rsize_any (W H D sw sh c r : Int) (A : Bool) (k p : Int) (w : World) (hs : Tl.Shp W H D A) (g : Tl.Gd W H sw sh c r) (hc : c = Tl.cl W sw) (k0 : 0 ≤ k) (k1 : k < c * r) (p0 : 0 ≤ p) (p1 : p < (Tl.np A : Int)) :
    Calls Tryz.prog 34 #[Tl.shv W H D A, .int .i64 sw, .int .i64 sh, .int .i64 k, .int .i64 p] w fun e w' => e = .returned (Tl.rcv (Tl.bX p (Tl.sX c sw k)) (Tl.sY c sh k) (pw W sw c p k) (ph H sh c k)) ∧ Kept [] w w' := by
  obtain ⟨w1, e1⟩ : ∃ w1, w.alloc (.cells #[.int .i64 W, .int .i64 H, .int .i64 D, .bool A] 26 (0, 0)) = w1 := ⟨_, rfl⟩
  obtain ⟨w2, e2⟩ : ∃ w2, w1.alloc (.cells #[.int .i64 0, .int .i64 0, .int .i64 0, .int .i64 0] 60 (0, 0)) = w2 := ⟨_, rfl⟩
  obtain ⟨B, eB⟩ : ∃ B, w.heap.size = B := ⟨_, rfl⟩
  have z1 : w1.heap.size = B + 1 := by rw [← e1, ← eB]; exact Array.size_push _
  have z2 : w2.heap.size = B + 1 + 1 := by rw [← e2, ← z1]; exact Array.size_push _
  have k1' : Kept [] w w1 := by rw [← e1]; exact (Kept.refl [] w).alloc _
  have k2 : Kept [] w1 w2 := by rw [← e2]; exact (Kept.refl [] w1).alloc _
  have HS := Hid.mk (k2.heap (show w1.heap[B]? = some (.cells #[.int .i64 W, .int .i64 H, .int .i64 D, .bool A] 26 (0, 0)) by rw [← e1, ← eB]; exact heap_alloc_new _ _) (by simp))
  have HR := Hid.mk (show w2.heap[B + 1]? = some (.cells #[.int .i64 0, .int .i64 0, .int .i64 0, .int .i64 0] 60 (0, 0)) by rw [← e2, ← z1]; exact heap_alloc_new _ _)
  have K2 := Hid.mk (k1'.trans k2)
  have ZB : Hid (w2.heap.size = B + 1 + 1 ∧ w.heap.size = B) := Hid.mk ⟨z2, eB⟩
  clear k1' k2
  have C1 := Hid.mk (fun u => rRect_any W H D sw sh c r A k u g hc k0 k1)
  have hx := Tl.sX_in g k
  have hy := Tl.sY_in g k0 k1
  have C2 := Hid.mk (fun u => Tl.rhalfR_any W H D p (Tl.sX c sw k) (Tl.sY c sh k) (min sw (W - Tl.sX c sw k)) (min sh (H - Tl.sY c sh k)) A u (by have := g.w1; omega) (by have := g.h1; omega))
  rw [hE_part hs g k0 k1 p0 p1, if_pos rfl] at C2
  unfold pw ph
  clear hx hy hs g k0 k1 p0 p1 hc
  obtain ⟨X, eX⟩ : ∃ X, Tl.sX c sw k = X := ⟨_, rfl⟩
  obtain ⟨Y, eY⟩ : ∃ Y, Tl.sY c sh k = Y := ⟨_, rfl⟩
  rw [eX, eY] at C1 C2 ⊢
  obtain ⟨w', ew'⟩ : ∃ x, min sw (W - X) = x := ⟨_, rfl⟩
  obtain ⟨h', eh'⟩ : ∃ x, min sh (H - Y) = x := ⟨_, rfl⟩
  rw [ew', eh'] at C1 C2 ⊢
  obtain ⟨x', ex'⟩ : ∃ x, Tl.bX p X = x := ⟨_, rfl⟩
  obtain ⟨v', ev'⟩ : ∃ x, Tl.bW p w' = x := ⟨_, rfl⟩
  rw [ex', ev'] at C2 ⊢
  clear eX eY ew' eh' ex' ev'
  obtain ⟨s0, s1, s2, s3⟩ := cel4 HS.out
  go_enter Tryz.func34, Tryz.ntmps34
  go_wp2_with (fail)
  clear e1 e2 z1 eB
  refine wp_region_held_drew (S := fun u => u.cell? ⟨B, 0, none⟩ = some (.int .i64 W) ∧ u.cell? ⟨B, 1, none⟩ = some (.int .i64 H) ∧ u.cell? ⟨B, 2, none⟩ = some (.int .i64 D) ∧ u.cell? ⟨B, 3, none⟩ = some (.bool A)) (by kernel_rfl) ⟨s0, s1, s2, s3⟩ (fun hHeld => ?_)
  refine wpAnyH_take (i := 0) (oi := _) (v := ?_) rfl (by kernel_rfl) (by kernel_rfl) (by kernel_rfl) (fun _ _ _ h => h) (Or.inl ⟨by rfl, ?y0⟩) (by assumption) ?r0
  case y0 => (intro w hSw; (try dsimp only at hSw); go_simp; try with_reducible rfl)
  refine wpAnyH_take (i := 1) (oi := _) (v := ?_) rfl (by kernel_rfl) (by kernel_rfl) (by kernel_rfl) (fun _ _ _ h => h) (Or.inl ⟨by rfl, ?y1⟩) (by assumption) ?r1
  case y1 => (intro w hSw; (try dsimp only at hSw); go_simp; try with_reducible rfl)
  refine wpAnyH_take (i := 2) (oi := _) (v := ?_) rfl (by kernel_rfl) (by kernel_rfl) (by kernel_rfl) (fun _ _ _ h => h) (Or.inl ⟨by rfl, ?y2⟩) (by assumption) ?r2
  case y2 => (intro w hSw; (try dsimp only at hSw); go_simp; try with_reducible rfl)
  refine wpAnyH_take (i := 3) (oi := _) (v := ?_) rfl (by kernel_rfl) (by kernel_rfl) (by kernel_rfl) (fun _ _ _ h => h) (Or.inl ⟨by rfl, ?y3⟩) (by assumption) ?r3
  case y3 => (intro w hSw; (try dsimp only at hSw); go_simp; try with_reducible rfl)
  refine wpAnyH_take (i := 4) (oi := _) (v := ?_) rfl (by kernel_rfl) (by kernel_rfl) (by kernel_rfl) (fun _ _ _ h => h) (Or.inl ⟨by rfl, ?y4⟩) (by assumption) ?r4
  case y4 => (intro w hSw; (try dsimp only at hSw); go_simp; try with_reducible rfl)
  refine wpAnyH_take (i := 5) (oi := _) (v := ?_) rfl (by kernel_rfl) (by kernel_rfl) (by kernel_rfl) (fun _ _ _ h => h) (Or.inl ⟨by rfl, ?y5⟩) (by assumption) ?r5
  case y5 => (intro w hSw; (try dsimp only at hSw); go_simp; try with_reducible rfl)
  refine wpAnyH_ready (rs := [6, 11]) (by kernel_rfl) (by simp) ?_
  refine AllReadyH.cons rfl (fun K hK => ?_) (AllReadyH.cons rfl (fun K hK => ?_) AllReadyH.nil)
  · go_simp
    go_at_call 21
    refine (C1.out _).mono ?_
    rintro e w3 ⟨rfl, k9⟩
    have K3 : Hid (Kept [] w2 w3) := Hid.mk (((Kept.refl [] w2).drew).trans k9)
    clear k9
    clear s0 s1 s2 s3
    obtain ⟨s0, s1, s2, s3⟩ := cel4 (K3.out.heap HS.out (by simp))
    refine hK.out _ _ ⟨s0, s1, s2, s3⟩ (fun hHeld => ?_)
    clear hK K
    refine wpAnyH_ready (rs := [7, 11]) (by kernel_rfl) (by simp) ?_
    refine AllReadyH.cons rfl (fun K hK => ?_) (AllReadyH.cons rfl (fun K hK => ?_) AllReadyH.nil)
    · go_simp
      go_at_call 67
      refine (C2.out _).mono ?_
      rintro e w4 ⟨rfl, k9⟩
      have K4 : Hid (Kept [] w2 w4) := Hid.mk (K3.out.trans k9)
      clear k9
      clear s0 s1 s2 s3
      obtain ⟨s0, s1, s2, s3⟩ := cel4 (K4.out.heap HS.out (by simp))
      refine hK.out _ _ ⟨s0, s1, s2, s3⟩ (fun hHeld => ?_)
      clear hK K
      refine wpAnyH_take (i := 8) (oi := _) (v := ?_) rfl (by kernel_rfl) (by kernel_rfl) (by kernel_rfl) (fun _ _ _ h => h) (Or.inl ⟨by rfl, ?y8n1⟩) (by assumption) ?r8n1
      case y8n1 => (intro w hSw; (try dsimp only at hSw); go_simp; try with_reducible rfl)
      refine wpAnyH_take (i := 9) (oi := _) (v := ?_) rfl (by kernel_rfl) (by kernel_rfl) (by kernel_rfl) (fun _ _ _ h => h) (Or.inl ⟨by rfl, ?y9n2⟩) (by assumption) ?r9n2
      case y9n2 => (intro w hSw; (try dsimp only at hSw); go_simp; try with_reducible rfl)
      refine wpAnyH_take (i := 10) (oi := _) (v := ?_) rfl (by kernel_rfl) (by kernel_rfl) (by kernel_rfl) (fun _ _ _ h => h) (Or.inl ⟨by rfl, ?y10n3⟩) (by assumption) ?r10n3
      case y10n3 => (intro w hSw; (try dsimp only at hSw); go_simp; try with_reducible rfl)
      refine wpAnyH_ready (rs := [11]) (by kernel_rfl) (by simp) ?_
      refine AllReadyH.cons rfl (fun K hK => ?_) AllReadyH.nil
      obtain ⟨w5, ew5⟩ : ∃ x, World.alloc w4 (.cells #[.int .i64 0, .int .i64 0, .int .i64 0, .int .i64 0] 60 (0, 0)) = x := ⟨_, rfl⟩
      have K5 : Hid (Kept [] w2 w5) := Hid.mk (by rw [← ew5]; exact K4.out.alloc _)
      obtain ⟨P, eP⟩ : ∃ x, (w4).heap.size = x := ⟨_, rfl⟩
      have HP := Hid.mk (show w5.heap[P]? = some (.cells #[.int .i64 0, .int .i64 0, .int .i64 0, .int .i64 0] 60 (0, 0)) by rw [← ew5, ← eP]; exact heap_alloc_new _ _)
      have PB : Hid (B + 1 + 1 ≤ P) := Hid.mk (by have h7 := ZB.out.1; have h8 := K4.out.size; have h9 : (w4).heap.size = P := eP; omega)
      clear s0 s1 s2 s3
      obtain ⟨s0, s1, s2, s3⟩ := cel4 (K5.out.heap HS.out (by simp))
      go_simp
      try rw [ew5]
      refine hK.out _ _ ⟨s0, s1, s2, s3⟩ (fun hHeld => ?_)
      clear hK K
      clear ew5 eP
      refine wpAnyH_ready (rs := [12]) (by kernel_rfl) (by simp) ?_
      refine AllReadyH.cons rfl (fun K hK => ?_) AllReadyH.nil
      obtain ⟨⟨x0, x1, x2, x3⟩, f0, f1, f2, f3⟩ := Tl.four HP.out
      have s4 := Tl.set4 (.int .i64 x') (.int .i64 Y) (.int .i64 v') (.int .i64 h') HP.out
      obtain ⟨w8, e8⟩ : ∃ w8, (((w5.setCell ⟨P, 0, none⟩ (.int .i64 x')).setCell ⟨P, 1, none⟩ (.int .i64 Y)).setCell ⟨P, 2, none⟩ (.int .i64 v')).setCell ⟨P, 3, none⟩ (.int .i64 h') = w8 := ⟨_, rfl⟩
      rw [e8] at s4
      have S4 := Hid.mk s4
      clear s4
      have K8 : Hid (Kept [] w2 w8) := Hid.mk (K5.out.step S4.out.2 (fun z hz => by simp at hz; subst hz; exact .inr (by have := ZB.out; have := PB.out; omega)))
      clear s0 s1 s2 s3
      obtain ⟨s0, s1, s2, s3⟩ := cel4 (K8.out.heap HS.out (by simp))
      go_simp
      try rw [e8]
      refine hK.out _ _ ⟨s0, s1, s2, s3⟩ (fun hHeld => ?_)
      clear hK K
      refine wpAnyH_take (i := 13) (oi := _) (v := ?_) rfl (by kernel_rfl) (by kernel_rfl) (by kernel_rfl) (fun _ _ _ h => h) (Or.inl ⟨by rfl, ?y13n4⟩) (by assumption) ?r13n4
      case y13n4 => (intro w hSw; (try dsimp only at hSw); go_simp; try with_reducible rfl)
      refine wpAnyH_done (by kernel_rfl) ?_ _
      clear x0 x1 x2 x3 f0 f1 f2 f3 e8 s0 s1 s2 s3
      obtain ⟨a0, a1, a2, a3⟩ := cel4 S4.out.1
      have R7 := Hid.mk (K8.out.heap HR.out (by simp))
      have S9 := Tl.set4 (.int .i64 x') (.int .i64 Y) (.int .i64 v') (.int .i64 h') R7.out
      obtain ⟨w9, e9⟩ : ∃ w9, (((w8.setCell ⟨B + 1, 0, none⟩ (.int .i64 x')).setCell ⟨B + 1, 1, none⟩ (.int .i64 Y)).setCell ⟨B + 1, 2, none⟩ (.int .i64 v')).setCell ⟨B + 1, 3, none⟩ (.int .i64 h') = w9 := ⟨_, rfl⟩
      rw [e9] at S9
      have T9 := Hid.mk S9
      clear S9
      have HK9 : Hid (Kept [] w w9) := Hid.mk ((K2.out.trans K8.out).step T9.out.2 (fun z hz => by simp at hz; subst hz; exact .inr (by have := ZB.out; omega)))
      obtain ⟨⟨o0, o1, o2, o3⟩, p0, p1, p2, p3⟩ := Tl.four R7.out
      go_wp2
      refine bodyPost_ret (v := Tl.rcv x' Y v' h') ?_ rfl ⟨by rfl, HK9.out⟩
      exact results_cell_row rfl _ _ (B + 1) 60 _ (0, 0) _ rfl T9.out.1 Tryz.underlying60 rfl Tl.Tryz.info60
    · obtain ⟨w4, ew4⟩ : ∃ x, World.alloc w3 (.cells #[.int .i64 0, .int .i64 0, .int .i64 0, .int .i64 0] 60 (0, 0)) = x := ⟨_, rfl⟩
      have K4 : Hid (Kept [] w2 w4) := Hid.mk (by rw [← ew4]; exact K3.out.alloc _)
      obtain ⟨P, eP⟩ : ∃ x, (w3).heap.size = x := ⟨_, rfl⟩
      have HP := Hid.mk (show w4.heap[P]? = some (.cells #[.int .i64 0, .int .i64 0, .int .i64 0, .int .i64 0] 60 (0, 0)) by rw [← ew4, ← eP]; exact heap_alloc_new _ _)
      have PB : Hid (B + 1 + 1 ≤ P) := Hid.mk (by have h7 := ZB.out.1; have h8 := K3.out.size; have h9 : (w3).heap.size = P := eP; omega)
      clear s0 s1 s2 s3
      obtain ⟨s0, s1, s2, s3⟩ := cel4 (K4.out.heap HS.out (by simp))
      go_simp
      try rw [ew4]
      refine hK.out _ _ ⟨s0, s1, s2, s3⟩ (fun hHeld => ?_)
      clear hK K
      clear ew4 eP
      refine wpAnyH_ready (rs := [7]) (by kernel_rfl) (by simp) ?_
      refine AllReadyH.cons rfl (fun K hK => ?_) AllReadyH.nil
      have HP0 := HP
      clear HP
      go_simp
      go_at_call 67
      refine (C2.out _).mono ?_
      rintro e w5 ⟨rfl, k9⟩
      have K5 : Hid (Kept [] w2 w5) := Hid.mk (K4.out.trans k9)
      have HP := Hid.mk (k9.heap HP0.out (by simp))
      clear k9
      clear s0 s1 s2 s3
      obtain ⟨s0, s1, s2, s3⟩ := cel4 (K5.out.heap HS.out (by simp))
      refine hK.out _ _ ⟨s0, s1, s2, s3⟩ (fun hHeld => ?_)
      clear hK K
      refine wpAnyH_take (i := 8) (oi := _) (v := ?_) rfl (by kernel_rfl) (by kernel_rfl) (by kernel_rfl) (fun _ _ _ h => h) (Or.inl ⟨by rfl, ?y8n5⟩) (by assumption) ?r8n5
      case y8n5 => (intro w hSw; (try dsimp only at hSw); go_simp; try with_reducible rfl)
      refine wpAnyH_take (i := 9) (oi := _) (v := ?_) rfl (by kernel_rfl) (by kernel_rfl) (by kernel_rfl) (fun _ _ _ h => h) (Or.inl ⟨by rfl, ?y9n6⟩) (by assumption) ?r9n6
      case y9n6 => (intro w hSw; (try dsimp only at hSw); go_simp; try with_reducible rfl)
      refine wpAnyH_take (i := 10) (oi := _) (v := ?_) rfl (by kernel_rfl) (by kernel_rfl) (by kernel_rfl) (fun _ _ _ h => h) (Or.inl ⟨by rfl, ?y10n7⟩) (by assumption) ?r10n7
      case y10n7 => (intro w hSw; (try dsimp only at hSw); go_simp; try with_reducible rfl)
      refine wpAnyH_ready (rs := [12]) (by kernel_rfl) (by simp) ?_
      refine AllReadyH.cons rfl (fun K hK => ?_) AllReadyH.nil
      obtain ⟨⟨x0, x1, x2, x3⟩, f0, f1, f2, f3⟩ := Tl.four HP.out
      have s4 := Tl.set4 (.int .i64 x') (.int .i64 Y) (.int .i64 v') (.int .i64 h') HP.out
      obtain ⟨w8, e8⟩ : ∃ w8, (((w5.setCell ⟨P, 0, none⟩ (.int .i64 x')).setCell ⟨P, 1, none⟩ (.int .i64 Y)).setCell ⟨P, 2, none⟩ (.int .i64 v')).setCell ⟨P, 3, none⟩ (.int .i64 h') = w8 := ⟨_, rfl⟩
      rw [e8] at s4
      have S4 := Hid.mk s4
      clear s4
      have K8 : Hid (Kept [] w2 w8) := Hid.mk (K5.out.step S4.out.2 (fun z hz => by simp at hz; subst hz; exact .inr (by have := ZB.out; have := PB.out; omega)))
      clear s0 s1 s2 s3
      obtain ⟨s0, s1, s2, s3⟩ := cel4 (K8.out.heap HS.out (by simp))
      go_simp
      try rw [e8]
      refine hK.out _ _ ⟨s0, s1, s2, s3⟩ (fun hHeld => ?_)
      clear hK K
      refine wpAnyH_take (i := 13) (oi := _) (v := ?_) rfl (by kernel_rfl) (by kernel_rfl) (by kernel_rfl) (fun _ _ _ h => h) (Or.inl ⟨by rfl, ?y13n8⟩) (by assumption) ?r13n8
      case y13n8 => (intro w hSw; (try dsimp only at hSw); go_simp; try with_reducible rfl)
      refine wpAnyH_done (by kernel_rfl) ?_ _
      clear x0 x1 x2 x3 f0 f1 f2 f3 e8 s0 s1 s2 s3
      obtain ⟨a0, a1, a2, a3⟩ := cel4 S4.out.1
      have R7 := Hid.mk (K8.out.heap HR.out (by simp))
      have S9 := Tl.set4 (.int .i64 x') (.int .i64 Y) (.int .i64 v') (.int .i64 h') R7.out
      obtain ⟨w9, e9⟩ : ∃ w9, (((w8.setCell ⟨B + 1, 0, none⟩ (.int .i64 x')).setCell ⟨B + 1, 1, none⟩ (.int .i64 Y)).setCell ⟨B + 1, 2, none⟩ (.int .i64 v')).setCell ⟨B + 1, 3, none⟩ (.int .i64 h') = w9 := ⟨_, rfl⟩
      rw [e9] at S9
      have T9 := Hid.mk S9
      clear S9
      have HK9 : Hid (Kept [] w w9) := Hid.mk ((K2.out.trans K8.out).step T9.out.2 (fun z hz => by simp at hz; subst hz; exact .inr (by have := ZB.out; omega)))
      obtain ⟨⟨o0, o1, o2, o3⟩, p0, p1, p2, p3⟩ := Tl.four R7.out
      go_wp2
      refine bodyPost_ret (v := Tl.rcv x' Y v' h') ?_ rfl ⟨by rfl, HK9.out⟩
      exact results_cell_row rfl _ _ (B + 1) 60 _ (0, 0) _ rfl T9.out.1 Tryz.underlying60 rfl Tl.Tryz.info60
  · obtain ⟨w3, ew3⟩ : ∃ x, World.alloc w2.drew (.cells #[.int .i64 0, .int .i64 0, .int .i64 0, .int .i64 0] 60 (0, 0)) = x := ⟨_, rfl⟩
    have K3 : Hid (Kept [] w2 w3) := Hid.mk (by rw [← ew3]; exact ((Kept.refl [] w2).drew).alloc _)
    obtain ⟨P, eP⟩ : ∃ x, (w2.drew).heap.size = x := ⟨_, rfl⟩
    have HP0 := Hid.mk (show w3.heap[P]? = some (.cells #[.int .i64 0, .int .i64 0, .int .i64 0, .int .i64 0] 60 (0, 0)) by rw [← ew3, ← eP]; exact heap_alloc_new _ _)
    have PB : Hid (B + 1 + 1 ≤ P) := Hid.mk (by have h7 := ZB.out.1; have h8 := ((Kept.refl [] w2).drew).size; have h9 : (w2.drew).heap.size = P := eP; omega)
    clear s0 s1 s2 s3
    obtain ⟨s0, s1, s2, s3⟩ := cel4 (K3.out.heap HS.out (by simp))
    go_simp
    try rw [ew3]
    refine hK.out _ _ ⟨s0, s1, s2, s3⟩ (fun hHeld => ?_)
    clear hK K
    clear ew3 eP
    refine wpAnyH_ready (rs := [6]) (by kernel_rfl) (by simp) ?_
    refine AllReadyH.cons rfl (fun K hK => ?_) AllReadyH.nil
    go_simp
    go_at_call 21
    refine (C1.out _).mono ?_
    rintro e w4 ⟨rfl, k9⟩
    have K4 : Hid (Kept [] w2 w4) := Hid.mk (K3.out.trans k9)
    have HP1 := Hid.mk (k9.heap HP0.out (by simp))
    clear k9
    clear s0 s1 s2 s3
    obtain ⟨s0, s1, s2, s3⟩ := cel4 (K4.out.heap HS.out (by simp))
    refine hK.out _ _ ⟨s0, s1, s2, s3⟩ (fun hHeld => ?_)
    clear hK K
    refine wpAnyH_ready (rs := [7]) (by kernel_rfl) (by simp) ?_
    refine AllReadyH.cons rfl (fun K hK => ?_) AllReadyH.nil
    go_simp
    go_at_call 67
    refine (C2.out _).mono ?_
    rintro e w5 ⟨rfl, k9⟩
    have K5 : Hid (Kept [] w2 w5) := Hid.mk (K4.out.trans k9)
    have HP := Hid.mk (k9.heap HP1.out (by simp))
    clear k9
    clear s0 s1 s2 s3
    obtain ⟨s0, s1, s2, s3⟩ := cel4 (K5.out.heap HS.out (by simp))
    refine hK.out _ _ ⟨s0, s1, s2, s3⟩ (fun hHeld => ?_)
    clear hK K
    refine wpAnyH_take (i := 8) (oi := _) (v := ?_) rfl (by kernel_rfl) (by kernel_rfl) (by kernel_rfl) (fun _ _ _ h => h) (Or.inl ⟨by rfl, ?y8n9⟩) (by assumption) ?r8n9
    case y8n9 => (intro w hSw; (try dsimp only at hSw); go_simp; try with_reducible rfl)
    refine wpAnyH_take (i := 9) (oi := _) (v := ?_) rfl (by kernel_rfl) (by kernel_rfl) (by kernel_rfl) (fun _ _ _ h => h) (Or.inl ⟨by rfl, ?y9n10⟩) (by assumption) ?r9n10
    case y9n10 => (intro w hSw; (try dsimp only at hSw); go_simp; try with_reducible rfl)
    refine wpAnyH_take (i := 10) (oi := _) (v := ?_) rfl (by kernel_rfl) (by kernel_rfl) (by kernel_rfl) (fun _ _ _ h => h) (Or.inl ⟨by rfl, ?y10n11⟩) (by assumption) ?r10n11
    case y10n11 => (intro w hSw; (try dsimp only at hSw); go_simp; try with_reducible rfl)
    refine wpAnyH_ready (rs := [12]) (by kernel_rfl) (by simp) ?_
    refine AllReadyH.cons rfl (fun K hK => ?_) AllReadyH.nil
    obtain ⟨⟨x0, x1, x2, x3⟩, f0, f1, f2, f3⟩ := Tl.four HP.out
    have s4 := Tl.set4 (.int .i64 x') (.int .i64 Y) (.int .i64 v') (.int .i64 h') HP.out
    obtain ⟨w8, e8⟩ : ∃ w8, (((w5.setCell ⟨P, 0, none⟩ (.int .i64 x')).setCell ⟨P, 1, none⟩ (.int .i64 Y)).setCell ⟨P, 2, none⟩ (.int .i64 v')).setCell ⟨P, 3, none⟩ (.int .i64 h') = w8 := ⟨_, rfl⟩
    rw [e8] at s4
    have S4 := Hid.mk s4
    clear s4
    have K8 : Hid (Kept [] w2 w8) := Hid.mk (K5.out.step S4.out.2 (fun z hz => by simp at hz; subst hz; exact .inr (by have := ZB.out; have := PB.out; omega)))
    clear s0 s1 s2 s3
    obtain ⟨s0, s1, s2, s3⟩ := cel4 (K8.out.heap HS.out (by simp))
    go_simp
    try rw [e8]
    refine hK.out _ _ ⟨s0, s1, s2, s3⟩ (fun hHeld => ?_)
    clear hK K
    refine wpAnyH_take (i := 13) (oi := _) (v := ?_) rfl (by kernel_rfl) (by kernel_rfl) (by kernel_rfl) (fun _ _ _ h => h) (Or.inl ⟨by rfl, ?y13n12⟩) (by assumption) ?r13n12
    case y13n12 => (intro w hSw; (try dsimp only at hSw); go_simp; try with_reducible rfl)
    refine wpAnyH_done (by kernel_rfl) ?_ _
    clear x0 x1 x2 x3 f0 f1 f2 f3 e8 s0 s1 s2 s3
    obtain ⟨a0, a1, a2, a3⟩ := cel4 S4.out.1
    have R7 := Hid.mk (K8.out.heap HR.out (by simp))
    have S9 := Tl.set4 (.int .i64 x') (.int .i64 Y) (.int .i64 v') (.int .i64 h') R7.out
    obtain ⟨w9, e9⟩ : ∃ w9, (((w8.setCell ⟨B + 1, 0, none⟩ (.int .i64 x')).setCell ⟨B + 1, 1, none⟩ (.int .i64 Y)).setCell ⟨B + 1, 2, none⟩ (.int .i64 v')).setCell ⟨B + 1, 3, none⟩ (.int .i64 h') = w9 := ⟨_, rfl⟩
    rw [e9] at S9
    have T9 := Hid.mk S9
    clear S9
    have HK9 : Hid (Kept [] w w9) := Hid.mk ((K2.out.trans K8.out).step T9.out.2 (fun z hz => by simp at hz; subst hz; exact .inr (by have := ZB.out; omega)))
    obtain ⟨⟨o0, o1, o2, o3⟩, p0, p1, p2, p3⟩ := Tl.four R7.out
    go_wp2
    refine bodyPost_ret (v := Tl.rcv x' Y v' h') ?_ rfl ⟨by rfl, HK9.out⟩
    exact results_cell_row rfl _ _ (B + 1) 60 _ (0, 0) _ rfl T9.out.1 Tryz.underlying60 rfl Tl.Tryz.info60
end Go.Proofs.YthkpligodbkofaaGreatDoor.Pc

namespace Go.Proofs.YthkpligodbkofaaGreatDoor.Pc
open Go.RowKit

/-- The greatest of numbers. -/
def gmx (f : Nat → Int) : Nat → Int
  | 0 => 0
  | n + 1 => if gmx f n < f n then f n else gmx f n
theorem gmx_in {f : Nat → Int} {M : Int} {n : Nat} (h0 : 0 ≤ M) (h : ∀ i, i < n → f i ≤ M) : 0 ≤ gmx f n ∧ gmx f n ≤ M := by
  induction n with
  | zero => exact ⟨Int.le_refl _, h0⟩
  | succ n ih =>
    have h1 := ih (fun i hi => h i (by omega))
    have h2 := h n (by omega)
    unfold gmx
    split <;> omega
theorem gmx_ge {f : Nat → Int} {n i : Nat} (hi : i < n) : f i ≤ gmx f n := by
  induction n with
  | zero => omega
  | succ n ih =>
    unfold gmx
    by_cases e : i = n
    · subst e
      split <;> omega
    · have := ih (by omega)
      split <;> omega
theorem sI_bd {f : Nat → Int} {M : Int} {n : Nat} (h : ∀ i, i < n → 0 ≤ f i ∧ f i ≤ M) : 0 ≤ sI f n ∧ sI f n ≤ (n : Int) * M := by
  refine ⟨sI_nn (fun i hi => (h i hi).1), ?_⟩
  rw [← sI_const]
  exact sI_le (fun i hi => (h i hi).2)
/-- What a record has at most. -/
def bnd (W H D sw sh : Int) (A : Bool) (p : Int) : Int :=
  36 + 8 * (Tl.cl W sw * Tl.cl H sh) + 4 * p + sI (fun k => pzs W H D sw sh (Tl.cl W sw) (Tl.np A) k) (Tl.cl W sw * Tl.cl H sh).toNat + p * gmx (fun k => pzs W H D sw sh (Tl.cl W sw) (Tl.np A) k) (Tl.cl W sw * Tl.cl H sh).toNat
theorem pz_bd {D w h : Int} (hD : D = 10 ∨ D = 12) (w0 : 1 ≤ w) (w1 : w ≤ 4096) (h0 : 1 ≤ h) (h1 : h ≤ 4096) : (0 ≤ w * h ∧ w * h ≤ 16777216) ∧ (0 ≤ w * h * D ∧ w * h * D ≤ 201326592) ∧ (w * h * D + 8 - 1) / 8 + 4 = pz D w h ∧ 0 ≤ pz D w h ∧ pz D w h ≤ 25165830 := by
  have a0 : 0 ≤ w * h := Int.mul_nonneg (by omega) (by omega)
  have a1 : w * h ≤ 4096 * 4096 := Int.mul_le_mul w1 h1 (by omega) (by omega)
  unfold pz
  rw [show D * w * h = w * h * D by rw [Int.mul_assoc, Int.mul_comm]]
  generalize w * h = z at *
  rcases hD with rfl | rfl <;> omega
theorem wk {x : Int} (h : -9000000000000000000 ≤ x ∧ x ≤ 9000000000000000000) : wrap64 x = x ∧ IntKind.i64.wrap x = x := ⟨Tl.w64_in (by omega) (by omega), Tl.wrap_i (by omega) (by omega)⟩
theorem wk2 {x z : Int} (e : x = z) (h : -9000000000000000000 ≤ z ∧ z ≤ 9000000000000000000) : wrap64 x = z ∧ IntKind.i64.wrap x = z := by subst e; exact wk h

set_option maxHeartbeats 8000000 in
set_option maxRecDepth 1000000 in
theorem rBound_ok (W H D : Int) (A : Bool) (sw sh : Int) (lo : Option Addr) (n c : Nat) (L : Nat → Nat → Int) (cap p : Int) (w : World) (hL : Ldr w lo n L) (hn : n ≤ 9223372036854775807) (hcf : Cfg W H D A sw sh n L cap p) :
    Calls Tryz.prog 12 #[Tl.shv W H D A, cfv sw sh lo n c cap p] w fun e w' => e = .returned (.tuple #[.int .i64 (bnd W H D sw sh A p), .int .i64 0]) ∧ Kept [] w w' := by
  obtain ⟨w1, e1⟩ : ∃ w1, w.alloc (.cells #[.int .i64 W, .int .i64 H, .int .i64 D, .bool A] 26 (0, 0)) = w1 := ⟨_, rfl⟩
  obtain ⟨w2, e2⟩ : ∃ w2, w1.alloc (.cells #[.int .i64 sw, .int .i64 sh, .slice lo n c, .int .i64 cap, .int .i64 p] 24 (0, 0)) = w2 := ⟨_, rfl⟩
  obtain ⟨B, eB⟩ : ∃ B, w.heap.size = B := ⟨_, rfl⟩
  have z1 : w1.heap.size = B + 1 := by rw [← e1, ← eB]; exact Array.size_push _
  have k1 : Kept [] w w1 := by rw [← e1]; exact (Kept.refl [] w).alloc _
  have k2 : Kept [] w1 w2 := by rw [← e2]; exact (Kept.refl [] w1).alloc _
  have HS := Hid.mk (k2.heap (show w1.heap[B]? = some (.cells #[.int .i64 W, .int .i64 H, .int .i64 D, .bool A] 26 (0, 0)) by rw [← e1, ← eB]; exact heap_alloc_new _ _) (by simp))
  have HC := Hid.mk (show w2.heap[B + 1]? = some (.cells #[.int .i64 sw, .int .i64 sh, .slice lo n c, .int .i64 cap, .int .i64 p] 24 (0, 0)) by rw [← e2, ← z1]; exact heap_alloc_new _ _)
  have K2 := Hid.mk (k1.trans k2)
  have hp : 0 ≤ p ∧ p ≤ 16 := by have h9 := hcf.pr; unfold pmb at h9; exact (of_decide_eq_true h9).1
  have g := Tl.Gd.of hcf.shp.1.1 hcf.shp.1.2 hcf.shp.2.1.1 hcf.shp.2.1.2 hcf.sd.1.1 hcf.sd.1.2 hcf.sd.2.1 hcf.sd.2.2.1 hcf.sd.2.2.2
  have C1 := Hid.mk (fun u (hu : Ldr u lo n L) => rValid_any W H D A sw sh lo n c L cap p u hu hn)
  rw [cfE_zero.2 hcf] at C1
  have C2 := Hid.mk (fun u => rCount_any W H D sw sh A u hcf.shp hcf.sd)
  have C3 := Hid.mk (fun u => rplanes_any W H D A u)
  have HLd := Hid.mk (hL.keep K2.out)
  unfold bnd
  have hcr : Tl.cl W sw * Tl.cl H sh ≤ 65536 := Int.mul_le_mul (a := Tl.cl W sw) (b := Tl.cl H sh) (c := 256) (d := 256) g.c1 g.r1 (by have := g.r0; omega) (by omega)
  have hcr0 : 0 ≤ Tl.cl W sw * Tl.cl H sh := Int.mul_nonneg (by have := g.c0; omega) (by have := g.r0; omega)
  obtain ⟨N, eN⟩ : ∃ N : Nat, Tl.cl W sw * Tl.cl H sh = (N : Int) := ⟨_, (Int.toNat_of_nonneg hcr0).symm⟩
  have hN : N ≤ 65536 := by omega
  have hD : D = 10 ∨ D = 12 := hcf.shp.2.2.1
  have C4 := Hid.mk (fun (k q : Nat) (hk : k < N) (hq : q < Tl.np A) u => rsize_any W H D sw sh (Tl.cl W sw) (Tl.cl H sh) A (k : Int) (q : Int) u hcf.shp g rfl (by omega) (by rw [eN]; omega) (by omega) (by omega))
  have PB := Hid.mk (fun (k q : Nat) (hk : k < N) => pz_bd hD (pw_in g (q : Int) (k : Int)).1 (pw_in g (q : Int) (k : Int)).2 (ph_in g (by omega : (0 : Int) ≤ k) (by rw [eN]; omega)).1 (ph_in g (by omega : (0 : Int) ≤ k) (by rw [eN]; omega)).2)
  have PS : Hid (∀ k, k < N → 0 ≤ pzs W H D sw sh (Tl.cl W sw) (Tl.np A) k ∧ pzs W H D sw sh (Tl.cl W sw) (Tl.np A) k ≤ 200000000) := Hid.mk (fun k hk => by
    have h9 := sI_bd (f := fun q => pz D (pw W sw (Tl.cl W sw) (q : Int) (k : Int)) (ph H sh (Tl.cl W sw) (k : Int))) (n := Tl.np A) (M := 25165830) (fun q _ => (PB.out k q hk).2.2.2)
    have h8 := Tl.np_hi A
    unfold pzs
    omega)
  rw [eN, Int.toNat_natCast]
  rw [eN] at C2
  have C5 := Hid.mk (fun (x : Int) (h0 : 0 ≤ x) (h1 : x ≤ 201326592) u => up_any x 8 u h0 (by omega) (by omega) (by omega))
  have HM := Hid.mk (Tl.np_hi A)
  obtain ⟨m, em⟩ : ∃ m, Tl.np A = m := ⟨_, rfl⟩
  rw [em] at C3 C4 PS HM ⊢
  have GF : Hid (∀ k, pzs W H D sw sh (Tl.cl W sw) m k = sI (fun q => pz D (pw W sw (Tl.cl W sw) (q : Int) (k : Int)) (ph H sh (Tl.cl W sw) (k : Int))) m) := Hid.mk (fun k => rfl)
  obtain ⟨f, ef⟩ : ∃ f : Nat → Int, (fun k => pzs W H D sw sh (Tl.cl W sw) m k) = f := ⟨_, rfl⟩
  have GE : Hid (∀ k, pzs W H D sw sh (Tl.cl W sw) m k = f k) := Hid.mk (fun k => congrFun ef k)
  rw [ef]
  obtain ⟨G, eG⟩ : ∃ G : Nat → Nat → Int, (fun (k q : Nat) => pz D (pw W sw (Tl.cl W sw) (q : Int) (k : Int)) (ph H sh (Tl.cl W sw) (k : Int))) = G := ⟨_, rfl⟩
  have GG : Hid (∀ (k q : Nat), pz D (pw W sw (Tl.cl W sw) (q : Int) (k : Int)) (ph H sh (Tl.cl W sw) (k : Int)) = G k q) := Hid.mk (fun k q => congrFun (congrFun eG k) q)
  have FG : Hid (∀ k, f k = sI (G k) m) := Hid.mk (fun k => by rw [← GE.out k, GF.out k]; exact sI_congr (fun q _ => GG.out k q))
  have FB : Hid (∀ k, k < N → 0 ≤ f k ∧ f k ≤ 200000000) := Hid.mk (fun k hk => by rw [← GE.out k]; exact PS.out k hk)
  obtain ⟨S0, eS0⟩ : ∃ S0, 36 + 8 * (N : Int) + 4 * p = S0 := ⟨_, rfl⟩
  rw [eS0]
  have HB0 : Hid (0 ≤ S0 ∧ S0 ≤ 1000000) := Hid.mk (by omega)
  have HN := Hid.mk hN
  have HP := Hid.mk hp
  have y1 := wk (x := 8 * (N : Int)) (by omega)
  have y2 := wk (x := 36 + 8 * (N : Int)) (by omega)
  have y3 := wk (x := 4 * p) (by omega)
  have y4 := wk2 eS0 (by have := HB0.out; omega)
  obtain ⟨q0, q1, q2, q3, q4⟩ := cel5 HC.out
  obtain ⟨s0, s1, s2, s3⟩ := cel4 HS.out
  obtain ⟨y1a, y1b⟩ := y1
  obtain ⟨y2a, y2b⟩ := y2
  obtain ⟨y3a, y3b⟩ := y3
  obtain ⟨y4a, y4b⟩ := y4
  have ES0 := Hid.mk eS0
  clear hL k1 k2 hn hcf g hcr hcr0 eN hN hD em ef eG hp PS GF GE eS0
  go_enter Tryz.func12, Tryz.ntmps12
  go_wp2_with (fail)
  clear e1 e2 eB z1
  refine (C1.out _ HLd.out).mono ?_
  rintro e w3 ⟨rfl, k3⟩
  have K3 := Hid.mk k3
  clear q0 q1 q2 q3 q4 s0 s1 s2 s3 k3
  obtain ⟨q0, q1, q2, q3, q4⟩ := cel5 (K3.out.heap HC.out (by simp))
  obtain ⟨s0, s1, s2, s3⟩ := cel4 (K3.out.heap HS.out (by simp))
  go_wp2_with (fail)
  refine (C2.out _).mono ?_
  rintro e w4 ⟨rfl, k4⟩
  have K4 := Hid.mk (K3.out.trans k4)
  clear q0 q1 q2 q3 q4 s0 s1 s2 s3 k4
  obtain ⟨q0, q1, q2, q3, q4⟩ := cel5 (K4.out.heap HC.out (by simp))
  go_wp2
  clear q0 q1 q2 q3 q4 y1a y1b y2a y2b y3a y3b y4a y4b
  go_loopw [8, 9, 10] (fun a b i wr => ∃ (k : Nat) (S M : Int), k ≤ N ∧ i = .int .i64 (k : Int) ∧ a = .int .i64 S ∧ b = .int .i64 M ∧ Hid (S = S0 + sI f k ∧ M = gmx f k ∧ Kept [] w4 wr)) (fun _ _ i _ => N - (intOf i).toNat)
  case atStart => exact ⟨0, S0, 0, Nat.zero_le _, rfl, rfl, rfl, Hid.mk ⟨by simp [sI], rfl, Kept.refl _ _⟩⟩
  case round =>
    obtain ⟨k, S, M, hk, rfl, rfl, rfl, HI⟩ := hrel
    by_cases hlt : k < N
    · have ik : (k : Int) < (N : Int) := by omega
      have HK := Hid.mk hlt
      clear hlt hk
      go_wp2_with (fail)
      go_loopw [11, 12] (fun a i wq => ∃ (q : Nat) (P : Int), q ≤ m ∧ i = .int .i64 (q : Int) ∧ a = .int .i64 P ∧ Hid (P = sI (G k) q ∧ Kept [] w4 wq)) (fun _ i _ => m - (intOf i).toNat)
      case atStart => exact ⟨0, 0, Nat.zero_le _, rfl, rfl, Hid.mk ⟨rfl, HI.out.2.2⟩⟩
      case round =>
        obtain ⟨q, P, hq, rfl, rfl, HJ⟩ := hrel
        obtain ⟨s0, s1, s2, s3⟩ := cel4 ((K4.out.trans HJ.out.2).heap HS.out (by simp))
        go_wp2_with (fail)
        refine (C3.out _).mono ?_
        rintro e w5 ⟨rfl, k5⟩
        have K5 := Hid.mk (HJ.out.2.trans k5)
        clear s0 s1 s2 s3 k5
        by_cases hqm : q < m
        · have iq : (q : Int) < (m : Int) := by omega
          have HQ := Hid.mk hqm
          obtain ⟨s0, s1, s2, s3⟩ := cel4 ((K4.out.trans K5.out).heap HS.out (by simp))
          obtain ⟨q0, q1, q2, q3, q4⟩ := cel5 ((K4.out.trans K5.out).heap HC.out (by simp))
          clear hqm hq
          go_wp2_with (fail)
          refine (C4.out k q HK.out HQ.out _).mono ?_
          rintro e w6 ⟨rfl, k6⟩
          have K6 := Hid.mk (K5.out.trans k6)
          clear s0 s1 s2 s3 q0 q1 q2 q3 q4 k6
          have hb := PB.out k q HK.out
          have hg := GG.out k q
          obtain ⟨x, ex⟩ : ∃ x, Tl.bX (q : Int) (Tl.sX (Tl.cl W sw) sw (k : Int)) = x := ⟨_, rfl⟩
          obtain ⟨y, ey⟩ : ∃ y, Tl.sY (Tl.cl W sw) sh (k : Int) = y := ⟨_, rfl⟩
          obtain ⟨a, ea⟩ : ∃ a, pw W sw (Tl.cl W sw) (q : Int) (k : Int) = a := ⟨_, rfl⟩
          obtain ⟨b, eb⟩ : ∃ b, ph H sh (Tl.cl W sw) (k : Int) = b := ⟨_, rfl⟩
          rw [ex, ey, ea, eb]
          rw [ea, eb] at hb hg
          clear ex ey ea eb
          obtain ⟨ab, eab⟩ : ∃ z, a * b = z := ⟨_, rfl⟩
          rw [eab] at hb
          obtain ⟨abd, eabd⟩ : ∃ z, ab * D = z := ⟨_, rfl⟩
          rw [eabd, hg] at hb
          have v1 := wk2 eab (by omega)
          have v2 := wk2 eabd (by omega)
          have HSB : Hid (P = sI (G k) q) := Hid.mk HJ.out.1
          have HPB : Hid (0 ≤ P ∧ P ≤ 200000000) := Hid.mk (by
            rw [HSB.out]
            have h9 := sI_bd (f := G k) (n := q) (M := 25165830) (fun q _ => by rw [← GG.out k q]; exact (PB.out k q HK.out).2.2.2)
            have h8 := HM.out
            have h7 := HQ.out
            omega)
          have CU := Hid.mk (C5.out abd hb.2.1.1 hb.2.1.2)
          have v3 := wk (x := P + 4) (by have := HPB.out; omega)
          have HU : Hid ((abd + 8 - 1) / 8 + 4 = G k q ∧ 0 ≤ G k q ∧ G k q ≤ 25165830) := Hid.mk hb.2.2
          obtain ⟨U, eU⟩ : ∃ U, (abd + 8 - 1) / 8 = U := ⟨_, rfl⟩
          rw [eU] at CU HU
          have e9 : P + 4 + U = sI (G k) (q + 1) := by
            have h1 := HSB.out
            have h2 := HU.out.1
            show P + 4 + U = sI (G k) q + G k q
            omega
          have v5 := wk2 (x := (q : Int) + 1) (z := ((q + 1 : Nat) : Int)) rfl (by have := HQ.out; have := HM.out; omega)
          obtain ⟨P9, eP9⟩ : ∃ z, sI (G k) (q + 1) = z := ⟨_, rfl⟩
          rw [eP9] at e9
          have v4 := wk2 e9 (by rw [← e9]; have := HPB.out; have := HU.out; omega)
          have EP9 := Hid.mk eP9
          obtain ⟨v1a, v1b⟩ := v1
          obtain ⟨v2a, v2b⟩ := v2
          obtain ⟨v3a, v3b⟩ := v3
          obtain ⟨v4a, v4b⟩ := v4
          obtain ⟨v5a, v5b⟩ := v5
          clear hb hg eab eabd eU e9 eP9
          have s2 : (w6.alloc (.cells #[.int .i64 x, .int .i64 y, .int .i64 a, .int .i64 b] 60 (0, 0))).cell? ⟨B, 2, none⟩ = some (.int .i64 D) := cellAt (i := 2) (((K4.out.trans K6.out).alloc _).heap HS.out (by simp)) rfl
          have K7 : Hid (Kept [] w4 (w6.alloc (.cells #[.int .i64 x, .int .i64 y, .int .i64 a, .int .i64 b] 60 (0, 0)))) := Hid.mk (K6.out.alloc _)
          go_wp2_with (fail)
          refine (CU.out _).mono ?_
          rintro e w8 ⟨rfl, hw⟩
          obtain rfl := hw.symm
          clear hw
          obtain ⟨w7, e7⟩ : ∃ z, w6.alloc (.cells #[.int .i64 x, .int .i64 y, .int .i64 a, .int .i64 b] 60 (0, 0)) = z := ⟨_, rfl⟩
          rw [e7] at K7 ⊢
          clear s2 e7
          go_wp2
          clear v1a v1b v2a v2b v3a v3b v4a v4b v5a v5b
          go_roundw
          case rel => exact ⟨q + 1, P9, HQ.out, rfl, rfl, Hid.mk ⟨EP9.out.symm, K7.out⟩⟩
          case measure => (clear iq ik; simp [intOf]; have := HQ.out; omega)
        · obtain rfl : m = q := by omega
          have EP : Hid (P = f k) := Hid.mk (by rw [HJ.out.1, FG.out k])
          have HPB := Hid.mk (FB.out k HK.out)
          have HSB : Hid (0 ≤ sI f k ∧ sI f k ≤ (k : Int) * 200000000) := Hid.mk (sI_bd (fun i hi => FB.out i (by have := HK.out; omega)))
          have HMB : Hid (0 ≤ gmx f k ∧ gmx f k ≤ 200000000) := Hid.mk (gmx_in (by omega) (fun i hi => (FB.out i (by have := HK.out; omega)).2))
          have v1 := wk (x := S + P) (by have h1 := HI.out.1; have h2 := EP.out; have h3 := HPB.out; have h4 := HSB.out; have h5 := HB0.out; have h6 := HK.out; have h7 := HN.out; omega)
          have v5 := wk2 (x := (k : Int) + 1) (z := ((k + 1 : Nat) : Int)) rfl (by have := HK.out; have := HN.out; omega)
          obtain ⟨v1a, v1b⟩ := v1
          obtain ⟨v5a, v5b⟩ := v5
          have HSS : Hid (S + P = S0 + sI f (k + 1)) := Hid.mk (by
            have h1 := HI.out.1
            have h2 := EP.out
            show S + P = S0 + (sI f k + f k)
            omega)
          clear hqm hq
          by_cases hgt : M < P
          · have dg : decide (M < P) = true := by simpa using hgt
            have HG : Hid (P = gmx f (k + 1)) := Hid.mk (by
              show P = if gmx f k < f k then f k else gmx f k
              rw [← HI.out.2.1, ← EP.out, if_pos hgt])
            clear hgt
            go_wp2
            clear v1a v1b v5a v5b
            go_roundw
            case rel => exact ⟨k + 1, S + P, P, HK.out, rfl, rfl, rfl, Hid.mk ⟨HSS.out, HG.out, K5.out⟩⟩
            case measure => (clear ik; simp [intOf]; have := HK.out; omega)
          · have dg : decide (M < P) = false := by simpa using hgt
            have HG : Hid (M = gmx f (k + 1)) := Hid.mk (by
              show M = if gmx f k < f k then f k else gmx f k
              rw [← HI.out.2.1, ← EP.out, if_neg hgt])
            clear hgt
            go_wp2
            clear v1a v1b v5a v5b
            go_roundw
            case rel => exact ⟨k + 1, S + P, M, HK.out, rfl, rfl, rfl, Hid.mk ⟨HSS.out, HG.out, K5.out⟩⟩
            case measure => (clear ik; simp [intOf]; have := HK.out; omega)
    · obtain rfl : N = k := by omega
      have HSB : Hid (0 ≤ sI f N ∧ sI f N ≤ (N : Int) * 200000000) := Hid.mk (sI_bd (fun i hi => FB.out i hi))
      have HMB : Hid (0 ≤ gmx f N ∧ gmx f N ≤ 200000000) := Hid.mk (gmx_in (by omega) (fun i hi => (FB.out i hi).2))
      have hm0 : 0 ≤ p * gmx f N := Int.mul_nonneg (by have := HP.out; omega) HMB.out.1
      have hm1 : p * gmx f N ≤ 16 * 200000000 := Int.mul_le_mul HP.out.2 HMB.out.2 HMB.out.1 (by omega)
      obtain ⟨pg, epg⟩ : ∃ z, p * gmx f N = z := ⟨_, rfl⟩
      rw [epg] at hm0 hm1
      have eM : p * M = pg := by rw [HI.out.2.1]; exact epg
      have v1 := wk2 eM (by omega)
      have v2 := wk (x := S + pg) (by have h1 := HI.out.1; have h4 := HSB.out; have h5 := HB0.out; have h7 := HN.out; omega)
      obtain ⟨v1a, v1b⟩ := v1
      obtain ⟨v2a, v2b⟩ := v2
      have HF : Hid (S + pg = S0 + sI f N + p * gmx f N) := Hid.mk (by rw [epg, HI.out.1])
      obtain ⟨q0, q1, q2, q3, q4⟩ := cel5 ((K4.out.trans HI.out.2.2).heap HC.out (by simp))
      have HK9 := Hid.mk (K2.out.trans (K4.out.trans HI.out.2.2))
      clear hm0 hm1 eM epg hk hlt
      go_wp2
      go_ret2
      exact ⟨by rw [HF.out]; rfl, HK9.out⟩
end Go.Proofs.YthkpligodbkofaaGreatDoor.Pc
