import Derived.Test.YtbhhkcgicajlcaaGreatDoorpXZ
namespace Go.Proofs.YtbhhkcgicajlcaaGreatDoor.Pc
open Go.RowKit

theorem whl_part {W H sw sh c r k : Int} (g : Tl.Gd W H sw sh c r) (k0 : 0 ≤ k) (k1 : k < c * r) : Tl.whl W H (Tl.sX c sw k) (Tl.sY c sh k) (min sw (W - Tl.sX c sw k)) (min sh (H - Tl.sY c sh k)) = true := by
  have hx := Tl.sX_in g k
  have hy := Tl.sY_in g k0 k1
  have h1 := g.s0
  have h2 := g.se
  have h3 := g.t0
  generalize Tl.sX c sw k = X at *
  generalize Tl.sY c sh k = Y at *
  unfold Tl.whl
  refine decide_eq_true ?_
  omega
theorem hE_part {W H D sw sh c r k : Int} {A : Bool} (hs : Tl.Shp W H D A) (g : Tl.Gd W H sw sh c r) (k0 : 0 ≤ k) (k1 : k < c * r) {p : Int} (p0 : 0 ≤ p) (p1 : p < (Tl.np A : Int)) : Tl.hE W H D p (Tl.sX c sw k) (Tl.sY c sh k) (min sw (W - Tl.sX c sw k)) (min sh (H - Tl.sY c sh k)) A = 0 := by
  unfold Tl.hE
  rw [if_pos (Tl.shE_ok hs), if_pos ⟨⟨p0, p1⟩, whl_part g k0 k1⟩]

set_option maxHeartbeats 4000000 in
set_option maxRecDepth 1000000 in
theorem rsize_any (W H D sw sh c r : Int) (A : Bool) (k p : Int) (w : World) (hs : Tl.Shp W H D A) (g : Tl.Gd W H sw sh c r) (hc : c = Tl.cl W sw) (k0 : 0 ≤ k) (k1 : k < c * r) (p0 : 0 ≤ p) (p1 : p < (Tl.np A : Int)) :
    Calls Tryz.prog 22 #[Tl.shv W H D A, .int .i64 sw, .int .i64 sh, .int .i64 k, .int .i64 p] w fun e w' => e = .returned (Tl.rcv (Tl.bX p (Tl.sX c sw k)) (Tl.sY c sh k) (pw W sw c p k) (ph H sh c k)) ∧ Kept [] w w' := by
  obtain ⟨w1, e1⟩ : ∃ w1, w.alloc (.cells #[.int .i64 W, .int .i64 H, .int .i64 D, .bool A] 23 (0, 0)) = w1 := ⟨_, rfl⟩
  obtain ⟨w2, e2⟩ : ∃ w2, w1.alloc (.cells #[.int .i64 0, .int .i64 0, .int .i64 0, .int .i64 0] 49 (0, 0)) = w2 := ⟨_, rfl⟩
  obtain ⟨B, eB⟩ : ∃ B, w.heap.size = B := ⟨_, rfl⟩
  have z1 : w1.heap.size = B + 1 := by rw [← e1, ← eB]; exact Array.size_push _
  have z2 : w2.heap.size = B + 1 + 1 := by rw [← e2, ← z1]; exact Array.size_push _
  have k1' : Kept [] w w1 := by rw [← e1]; exact (Kept.refl [] w).alloc _
  have k2 : Kept [] w1 w2 := by rw [← e2]; exact (Kept.refl [] w1).alloc _
  have HS := Hid.mk (k2.heap (show w1.heap[B]? = some (.cells #[.int .i64 W, .int .i64 H, .int .i64 D, .bool A] 23 (0, 0)) by rw [← e1, ← eB]; exact heap_alloc_new _ _) (by simp))
  have HR := Hid.mk (show w2.heap[B + 1]? = some (.cells #[.int .i64 0, .int .i64 0, .int .i64 0, .int .i64 0] 49 (0, 0)) by rw [← e2, ← z1]; exact heap_alloc_new _ _)
  have K2 := Hid.mk (k1'.trans k2)
  have ZB : Hid (w2.heap.size = B + 1 + 1 ∧ w.heap.size = B) := Hid.mk ⟨z2, eB⟩
  clear k1' k2
  have C1 := Hid.mk (fun u => rRect_any W H D sw sh c r A k u g hc k0 k1)
  have hx := Tl.sX_in g k
  have hy := Tl.sY_in g k0 k1
  have C2 := Hid.mk (fun u => Tl.rhalfR_any W H D p (Tl.sX c sw k) (Tl.sY c sh k) (min sw (W - Tl.sX c sw k)) (min sh (H - Tl.sY c sh k)) A u (by have := g.w1; omega) (by have := g.h1; omega))
  rw [hE_part hs g k0 k1 p0 p1, if_pos rfl] at C2
  unfold pw ph
  clear hx hy hs g k0 k1 p0 p1 hc
  obtain ⟨X, eX⟩ : ∃ X, Tl.sX c sw k = X := ⟨_, rfl⟩
  obtain ⟨Y, eY⟩ : ∃ Y, Tl.sY c sh k = Y := ⟨_, rfl⟩
  rw [eX, eY] at C1 C2 ⊢
  obtain ⟨w', ew'⟩ : ∃ x, min sw (W - X) = x := ⟨_, rfl⟩
  obtain ⟨h', eh'⟩ : ∃ x, min sh (H - Y) = x := ⟨_, rfl⟩
  rw [ew', eh'] at C1 C2 ⊢
  obtain ⟨x', ex'⟩ : ∃ x, Tl.bX p X = x := ⟨_, rfl⟩
  obtain ⟨v', ev'⟩ : ∃ x, Tl.bW p w' = x := ⟨_, rfl⟩
  rw [ex', ev'] at C2 ⊢
  clear eX eY ew' eh' ex' ev'
  obtain ⟨s0, s1, s2, s3⟩ := cel4 HS.out
  go_enter Tryz.func22, Tryz.ntmps22
  go_wp2_with (fail)
  clear e1 e2 z1 eB
  refine wp_region_held_drew (S := fun u => u.cell? ⟨B, 0, none⟩ = some (.int .i64 W) ∧ u.cell? ⟨B, 1, none⟩ = some (.int .i64 H) ∧ u.cell? ⟨B, 2, none⟩ = some (.int .i64 D) ∧ u.cell? ⟨B, 3, none⟩ = some (.bool A)) (by kernel_rfl) ⟨s0, s1, s2, s3⟩ (fun hHeld => ?_)
  refine wpAnyH_take (i := 0) (oi := _) (v := ?_) rfl (by kernel_rfl) (by kernel_rfl) (by kernel_rfl) (fun _ _ _ h => h) (Or.inl ⟨by rfl, ?y0⟩) (by assumption) ?r0
  case y0 => (intro w hSw; (try dsimp only at hSw); go_simp; try with_reducible rfl)
  refine wpAnyH_take (i := 1) (oi := _) (v := ?_) rfl (by kernel_rfl) (by kernel_rfl) (by kernel_rfl) (fun _ _ _ h => h) (Or.inl ⟨by rfl, ?y1⟩) (by assumption) ?r1
  case y1 => (intro w hSw; (try dsimp only at hSw); go_simp; try with_reducible rfl)
  refine wpAnyH_take (i := 2) (oi := _) (v := ?_) rfl (by kernel_rfl) (by kernel_rfl) (by kernel_rfl) (fun _ _ _ h => h) (Or.inl ⟨by rfl, ?y2⟩) (by assumption) ?r2
  case y2 => (intro w hSw; (try dsimp only at hSw); go_simp; try with_reducible rfl)
  refine wpAnyH_take (i := 3) (oi := _) (v := ?_) rfl (by kernel_rfl) (by kernel_rfl) (by kernel_rfl) (fun _ _ _ h => h) (Or.inl ⟨by rfl, ?y3⟩) (by assumption) ?r3
  case y3 => (intro w hSw; (try dsimp only at hSw); go_simp; try with_reducible rfl)
  refine wpAnyH_take (i := 4) (oi := _) (v := ?_) rfl (by kernel_rfl) (by kernel_rfl) (by kernel_rfl) (fun _ _ _ h => h) (Or.inl ⟨by rfl, ?y4⟩) (by assumption) ?r4
  case y4 => (intro w hSw; (try dsimp only at hSw); go_simp; try with_reducible rfl)
  refine wpAnyH_take (i := 5) (oi := _) (v := ?_) rfl (by kernel_rfl) (by kernel_rfl) (by kernel_rfl) (fun _ _ _ h => h) (Or.inl ⟨by rfl, ?y5⟩) (by assumption) ?r5
  case y5 => (intro w hSw; (try dsimp only at hSw); go_simp; try with_reducible rfl)
  refine wpAnyH_ready (rs := [6, 11]) (by kernel_rfl) (by simp) ?_
  refine AllReadyH.cons rfl (fun K hK => ?_) (AllReadyH.cons rfl (fun K hK => ?_) AllReadyH.nil)
  · go_simp
    go_at_call 42
    refine (C1.out _).mono ?_
    rintro e w3 ⟨rfl, k9⟩
    have K3 : Hid (Kept [] w2 w3) := Hid.mk (((Kept.refl [] w2).drew).trans k9)
    clear k9
    clear s0 s1 s2 s3
    obtain ⟨s0, s1, s2, s3⟩ := cel4 (K3.out.heap HS.out (by simp))
    refine hK.out _ _ ⟨s0, s1, s2, s3⟩ (fun hHeld => ?_)
    clear hK K
    refine wpAnyH_ready (rs := [7, 11]) (by kernel_rfl) (by simp) ?_
    refine AllReadyH.cons rfl (fun K hK => ?_) (AllReadyH.cons rfl (fun K hK => ?_) AllReadyH.nil)
    · go_simp
      go_at_call 41
      refine (C2.out _).mono ?_
      rintro e w4 ⟨rfl, k9⟩
      have K4 : Hid (Kept [] w2 w4) := Hid.mk (K3.out.trans k9)
      clear k9
      clear s0 s1 s2 s3
      obtain ⟨s0, s1, s2, s3⟩ := cel4 (K4.out.heap HS.out (by simp))
      refine hK.out _ _ ⟨s0, s1, s2, s3⟩ (fun hHeld => ?_)
      clear hK K
      refine wpAnyH_take (i := 8) (oi := _) (v := ?_) rfl (by kernel_rfl) (by kernel_rfl) (by kernel_rfl) (fun _ _ _ h => h) (Or.inl ⟨by rfl, ?y8n1⟩) (by assumption) ?r8n1
      case y8n1 => (intro w hSw; (try dsimp only at hSw); go_simp; try with_reducible rfl)
      refine wpAnyH_take (i := 9) (oi := _) (v := ?_) rfl (by kernel_rfl) (by kernel_rfl) (by kernel_rfl) (fun _ _ _ h => h) (Or.inl ⟨by rfl, ?y9n2⟩) (by assumption) ?r9n2
      case y9n2 => (intro w hSw; (try dsimp only at hSw); go_simp; try with_reducible rfl)
      refine wpAnyH_take (i := 10) (oi := _) (v := ?_) rfl (by kernel_rfl) (by kernel_rfl) (by kernel_rfl) (fun _ _ _ h => h) (Or.inl ⟨by rfl, ?y10n3⟩) (by assumption) ?r10n3
      case y10n3 => (intro w hSw; (try dsimp only at hSw); go_simp; try with_reducible rfl)
      refine wpAnyH_ready (rs := [11]) (by kernel_rfl) (by simp) ?_
      refine AllReadyH.cons rfl (fun K hK => ?_) AllReadyH.nil
      obtain ⟨w5, ew5⟩ : ∃ x, World.alloc w4 (.cells #[.int .i64 0, .int .i64 0, .int .i64 0, .int .i64 0] 49 (0, 0)) = x := ⟨_, rfl⟩
      have K5 : Hid (Kept [] w2 w5) := Hid.mk (by rw [← ew5]; exact K4.out.alloc _)
      obtain ⟨P, eP⟩ : ∃ x, (w4).heap.size = x := ⟨_, rfl⟩
      have HP := Hid.mk (show w5.heap[P]? = some (.cells #[.int .i64 0, .int .i64 0, .int .i64 0, .int .i64 0] 49 (0, 0)) by rw [← ew5, ← eP]; exact heap_alloc_new _ _)
      have PB : Hid (B + 1 + 1 ≤ P) := Hid.mk (by have h7 := ZB.out.1; have h8 := K4.out.size; have h9 : (w4).heap.size = P := eP; omega)
      clear s0 s1 s2 s3
      obtain ⟨s0, s1, s2, s3⟩ := cel4 (K5.out.heap HS.out (by simp))
      go_simp
      try rw [ew5]
      refine hK.out _ _ ⟨s0, s1, s2, s3⟩ (fun hHeld => ?_)
      clear hK K
      clear ew5 eP
      refine wpAnyH_ready (rs := [12]) (by kernel_rfl) (by simp) ?_
      refine AllReadyH.cons rfl (fun K hK => ?_) AllReadyH.nil
      obtain ⟨⟨x0, x1, x2, x3⟩, f0, f1, f2, f3⟩ := Tl.four HP.out
      have s4 := Tl.set4 (.int .i64 x') (.int .i64 Y) (.int .i64 v') (.int .i64 h') HP.out
      obtain ⟨w8, e8⟩ : ∃ w8, (((w5.setCell ⟨P, 0, none⟩ (.int .i64 x')).setCell ⟨P, 1, none⟩ (.int .i64 Y)).setCell ⟨P, 2, none⟩ (.int .i64 v')).setCell ⟨P, 3, none⟩ (.int .i64 h') = w8 := ⟨_, rfl⟩
      rw [e8] at s4
      have S4 := Hid.mk s4
      clear s4
      have K8 : Hid (Kept [] w2 w8) := Hid.mk (K5.out.step S4.out.2 (fun z hz => by simp at hz; subst hz; exact .inr (by have := ZB.out; have := PB.out; omega)))
      clear s0 s1 s2 s3
      obtain ⟨s0, s1, s2, s3⟩ := cel4 (K8.out.heap HS.out (by simp))
      go_simp
      try rw [e8]
      refine hK.out _ _ ⟨s0, s1, s2, s3⟩ (fun hHeld => ?_)
      clear hK K
      refine wpAnyH_take (i := 13) (oi := _) (v := ?_) rfl (by kernel_rfl) (by kernel_rfl) (by kernel_rfl) (fun _ _ _ h => h) (Or.inl ⟨by rfl, ?y13n4⟩) (by assumption) ?r13n4
      case y13n4 => (intro w hSw; (try dsimp only at hSw); go_simp; try with_reducible rfl)
      refine wpAnyH_done (by kernel_rfl) ?_ _
      clear x0 x1 x2 x3 f0 f1 f2 f3 e8 s0 s1 s2 s3
      obtain ⟨a0, a1, a2, a3⟩ := cel4 S4.out.1
      have R7 := Hid.mk (K8.out.heap HR.out (by simp))
      have S9 := Tl.set4 (.int .i64 x') (.int .i64 Y) (.int .i64 v') (.int .i64 h') R7.out
      obtain ⟨w9, e9⟩ : ∃ w9, (((w8.setCell ⟨B + 1, 0, none⟩ (.int .i64 x')).setCell ⟨B + 1, 1, none⟩ (.int .i64 Y)).setCell ⟨B + 1, 2, none⟩ (.int .i64 v')).setCell ⟨B + 1, 3, none⟩ (.int .i64 h') = w9 := ⟨_, rfl⟩
      rw [e9] at S9
      have T9 := Hid.mk S9
      clear S9
      have HK9 : Hid (Kept [] w w9) := Hid.mk ((K2.out.trans K8.out).step T9.out.2 (fun z hz => by simp at hz; subst hz; exact .inr (by have := ZB.out; omega)))
      obtain ⟨⟨o0, o1, o2, o3⟩, p0, p1, p2, p3⟩ := Tl.four R7.out
      go_wp2
      refine bodyPost_ret (v := Tl.rcv x' Y v' h') ?_ rfl ⟨by rfl, HK9.out⟩
      exact results_cell_row rfl _ _ (B + 1) 49 _ (0, 0) _ rfl T9.out.1 Tryz.underlying49 rfl Tl.Tryz.info49
    · obtain ⟨w4, ew4⟩ : ∃ x, World.alloc w3 (.cells #[.int .i64 0, .int .i64 0, .int .i64 0, .int .i64 0] 49 (0, 0)) = x := ⟨_, rfl⟩
      have K4 : Hid (Kept [] w2 w4) := Hid.mk (by rw [← ew4]; exact K3.out.alloc _)
      obtain ⟨P, eP⟩ : ∃ x, (w3).heap.size = x := ⟨_, rfl⟩
      have HP := Hid.mk (show w4.heap[P]? = some (.cells #[.int .i64 0, .int .i64 0, .int .i64 0, .int .i64 0] 49 (0, 0)) by rw [← ew4, ← eP]; exact heap_alloc_new _ _)
      have PB : Hid (B + 1 + 1 ≤ P) := Hid.mk (by have h7 := ZB.out.1; have h8 := K3.out.size; have h9 : (w3).heap.size = P := eP; omega)
      clear s0 s1 s2 s3
      obtain ⟨s0, s1, s2, s3⟩ := cel4 (K4.out.heap HS.out (by simp))
      go_simp
      try rw [ew4]
      refine hK.out _ _ ⟨s0, s1, s2, s3⟩ (fun hHeld => ?_)
      clear hK K
      clear ew4 eP
      refine wpAnyH_ready (rs := [7]) (by kernel_rfl) (by simp) ?_
      refine AllReadyH.cons rfl (fun K hK => ?_) AllReadyH.nil
      have HP0 := HP
      clear HP
      go_simp
      go_at_call 41
      refine (C2.out _).mono ?_
      rintro e w5 ⟨rfl, k9⟩
      have K5 : Hid (Kept [] w2 w5) := Hid.mk (K4.out.trans k9)
      have HP := Hid.mk (k9.heap HP0.out (by simp))
      clear k9
      clear s0 s1 s2 s3
      obtain ⟨s0, s1, s2, s3⟩ := cel4 (K5.out.heap HS.out (by simp))
      refine hK.out _ _ ⟨s0, s1, s2, s3⟩ (fun hHeld => ?_)
      clear hK K
      refine wpAnyH_take (i := 8) (oi := _) (v := ?_) rfl (by kernel_rfl) (by kernel_rfl) (by kernel_rfl) (fun _ _ _ h => h) (Or.inl ⟨by rfl, ?y8n5⟩) (by assumption) ?r8n5
      case y8n5 => (intro w hSw; (try dsimp only at hSw); go_simp; try with_reducible rfl)
      refine wpAnyH_take (i := 9) (oi := _) (v := ?_) rfl (by kernel_rfl) (by kernel_rfl) (by kernel_rfl) (fun _ _ _ h => h) (Or.inl ⟨by rfl, ?y9n6⟩) (by assumption) ?r9n6
      case y9n6 => (intro w hSw; (try dsimp only at hSw); go_simp; try with_reducible rfl)
      refine wpAnyH_take (i := 10) (oi := _) (v := ?_) rfl (by kernel_rfl) (by kernel_rfl) (by kernel_rfl) (fun _ _ _ h => h) (Or.inl ⟨by rfl, ?y10n7⟩) (by assumption) ?r10n7
      case y10n7 => (intro w hSw; (try dsimp only at hSw); go_simp; try with_reducible rfl)
      refine wpAnyH_ready (rs := [12]) (by kernel_rfl) (by simp) ?_
      refine AllReadyH.cons rfl (fun K hK => ?_) AllReadyH.nil
      obtain ⟨⟨x0, x1, x2, x3⟩, f0, f1, f2, f3⟩ := Tl.four HP.out
      have s4 := Tl.set4 (.int .i64 x') (.int .i64 Y) (.int .i64 v') (.int .i64 h') HP.out
      obtain ⟨w8, e8⟩ : ∃ w8, (((w5.setCell ⟨P, 0, none⟩ (.int .i64 x')).setCell ⟨P, 1, none⟩ (.int .i64 Y)).setCell ⟨P, 2, none⟩ (.int .i64 v')).setCell ⟨P, 3, none⟩ (.int .i64 h') = w8 := ⟨_, rfl⟩
      rw [e8] at s4
      have S4 := Hid.mk s4
      clear s4
      have K8 : Hid (Kept [] w2 w8) := Hid.mk (K5.out.step S4.out.2 (fun z hz => by simp at hz; subst hz; exact .inr (by have := ZB.out; have := PB.out; omega)))
      clear s0 s1 s2 s3
      obtain ⟨s0, s1, s2, s3⟩ := cel4 (K8.out.heap HS.out (by simp))
      go_simp
      try rw [e8]
      refine hK.out _ _ ⟨s0, s1, s2, s3⟩ (fun hHeld => ?_)
      clear hK K
      refine wpAnyH_take (i := 13) (oi := _) (v := ?_) rfl (by kernel_rfl) (by kernel_rfl) (by kernel_rfl) (fun _ _ _ h => h) (Or.inl ⟨by rfl, ?y13n8⟩) (by assumption) ?r13n8
      case y13n8 => (intro w hSw; (try dsimp only at hSw); go_simp; try with_reducible rfl)
      refine wpAnyH_done (by kernel_rfl) ?_ _
      clear x0 x1 x2 x3 f0 f1 f2 f3 e8 s0 s1 s2 s3
      obtain ⟨a0, a1, a2, a3⟩ := cel4 S4.out.1
      have R7 := Hid.mk (K8.out.heap HR.out (by simp))
      have S9 := Tl.set4 (.int .i64 x') (.int .i64 Y) (.int .i64 v') (.int .i64 h') R7.out
      obtain ⟨w9, e9⟩ : ∃ w9, (((w8.setCell ⟨B + 1, 0, none⟩ (.int .i64 x')).setCell ⟨B + 1, 1, none⟩ (.int .i64 Y)).setCell ⟨B + 1, 2, none⟩ (.int .i64 v')).setCell ⟨B + 1, 3, none⟩ (.int .i64 h') = w9 := ⟨_, rfl⟩
      rw [e9] at S9
      have T9 := Hid.mk S9
      clear S9
      have HK9 : Hid (Kept [] w w9) := Hid.mk ((K2.out.trans K8.out).step T9.out.2 (fun z hz => by simp at hz; subst hz; exact .inr (by have := ZB.out; omega)))
      obtain ⟨⟨o0, o1, o2, o3⟩, p0, p1, p2, p3⟩ := Tl.four R7.out
      go_wp2
      refine bodyPost_ret (v := Tl.rcv x' Y v' h') ?_ rfl ⟨by rfl, HK9.out⟩
      exact results_cell_row rfl _ _ (B + 1) 49 _ (0, 0) _ rfl T9.out.1 Tryz.underlying49 rfl Tl.Tryz.info49
  · obtain ⟨w3, ew3⟩ : ∃ x, World.alloc w2.drew (.cells #[.int .i64 0, .int .i64 0, .int .i64 0, .int .i64 0] 49 (0, 0)) = x := ⟨_, rfl⟩
    have K3 : Hid (Kept [] w2 w3) := Hid.mk (by rw [← ew3]; exact ((Kept.refl [] w2).drew).alloc _)
    obtain ⟨P, eP⟩ : ∃ x, (w2.drew).heap.size = x := ⟨_, rfl⟩
    have HP0 := Hid.mk (show w3.heap[P]? = some (.cells #[.int .i64 0, .int .i64 0, .int .i64 0, .int .i64 0] 49 (0, 0)) by rw [← ew3, ← eP]; exact heap_alloc_new _ _)
    have PB : Hid (B + 1 + 1 ≤ P) := Hid.mk (by have h7 := ZB.out.1; have h8 := ((Kept.refl [] w2).drew).size; have h9 : (w2.drew).heap.size = P := eP; omega)
    clear s0 s1 s2 s3
    obtain ⟨s0, s1, s2, s3⟩ := cel4 (K3.out.heap HS.out (by simp))
    go_simp
    try rw [ew3]
    refine hK.out _ _ ⟨s0, s1, s2, s3⟩ (fun hHeld => ?_)
    clear hK K
    clear ew3 eP
    refine wpAnyH_ready (rs := [6]) (by kernel_rfl) (by simp) ?_
    refine AllReadyH.cons rfl (fun K hK => ?_) AllReadyH.nil
    go_simp
    go_at_call 42
    refine (C1.out _).mono ?_
    rintro e w4 ⟨rfl, k9⟩
    have K4 : Hid (Kept [] w2 w4) := Hid.mk (K3.out.trans k9)
    have HP1 := Hid.mk (k9.heap HP0.out (by simp))
    clear k9
    clear s0 s1 s2 s3
    obtain ⟨s0, s1, s2, s3⟩ := cel4 (K4.out.heap HS.out (by simp))
    refine hK.out _ _ ⟨s0, s1, s2, s3⟩ (fun hHeld => ?_)
    clear hK K
    refine wpAnyH_ready (rs := [7]) (by kernel_rfl) (by simp) ?_
    refine AllReadyH.cons rfl (fun K hK => ?_) AllReadyH.nil
    go_simp
    go_at_call 41
    refine (C2.out _).mono ?_
    rintro e w5 ⟨rfl, k9⟩
    have K5 : Hid (Kept [] w2 w5) := Hid.mk (K4.out.trans k9)
    have HP := Hid.mk (k9.heap HP1.out (by simp))
    clear k9
    clear s0 s1 s2 s3
    obtain ⟨s0, s1, s2, s3⟩ := cel4 (K5.out.heap HS.out (by simp))
    refine hK.out _ _ ⟨s0, s1, s2, s3⟩ (fun hHeld => ?_)
    clear hK K
    refine wpAnyH_take (i := 8) (oi := _) (v := ?_) rfl (by kernel_rfl) (by kernel_rfl) (by kernel_rfl) (fun _ _ _ h => h) (Or.inl ⟨by rfl, ?y8n9⟩) (by assumption) ?r8n9
    case y8n9 => (intro w hSw; (try dsimp only at hSw); go_simp; try with_reducible rfl)
    refine wpAnyH_take (i := 9) (oi := _) (v := ?_) rfl (by kernel_rfl) (by kernel_rfl) (by kernel_rfl) (fun _ _ _ h => h) (Or.inl ⟨by rfl, ?y9n10⟩) (by assumption) ?r9n10
    case y9n10 => (intro w hSw; (try dsimp only at hSw); go_simp; try with_reducible rfl)
    refine wpAnyH_take (i := 10) (oi := _) (v := ?_) rfl (by kernel_rfl) (by kernel_rfl) (by kernel_rfl) (fun _ _ _ h => h) (Or.inl ⟨by rfl, ?y10n11⟩) (by assumption) ?r10n11
    case y10n11 => (intro w hSw; (try dsimp only at hSw); go_simp; try with_reducible rfl)
    refine wpAnyH_ready (rs := [12]) (by kernel_rfl) (by simp) ?_
    refine AllReadyH.cons rfl (fun K hK => ?_) AllReadyH.nil
    obtain ⟨⟨x0, x1, x2, x3⟩, f0, f1, f2, f3⟩ := Tl.four HP.out
    have s4 := Tl.set4 (.int .i64 x') (.int .i64 Y) (.int .i64 v') (.int .i64 h') HP.out
    obtain ⟨w8, e8⟩ : ∃ w8, (((w5.setCell ⟨P, 0, none⟩ (.int .i64 x')).setCell ⟨P, 1, none⟩ (.int .i64 Y)).setCell ⟨P, 2, none⟩ (.int .i64 v')).setCell ⟨P, 3, none⟩ (.int .i64 h') = w8 := ⟨_, rfl⟩
    rw [e8] at s4
    have S4 := Hid.mk s4
    clear s4
    have K8 : Hid (Kept [] w2 w8) := Hid.mk (K5.out.step S4.out.2 (fun z hz => by simp at hz; subst hz; exact .inr (by have := ZB.out; have := PB.out; omega)))
    clear s0 s1 s2 s3
    obtain ⟨s0, s1, s2, s3⟩ := cel4 (K8.out.heap HS.out (by simp))
    go_simp
    try rw [e8]
    refine hK.out _ _ ⟨s0, s1, s2, s3⟩ (fun hHeld => ?_)
    clear hK K
    refine wpAnyH_take (i := 13) (oi := _) (v := ?_) rfl (by kernel_rfl) (by kernel_rfl) (by kernel_rfl) (fun _ _ _ h => h) (Or.inl ⟨by rfl, ?y13n12⟩) (by assumption) ?r13n12
    case y13n12 => (intro w hSw; (try dsimp only at hSw); go_simp; try with_reducible rfl)
    refine wpAnyH_done (by kernel_rfl) ?_ _
    clear x0 x1 x2 x3 f0 f1 f2 f3 e8 s0 s1 s2 s3
    obtain ⟨a0, a1, a2, a3⟩ := cel4 S4.out.1
    have R7 := Hid.mk (K8.out.heap HR.out (by simp))
    have S9 := Tl.set4 (.int .i64 x') (.int .i64 Y) (.int .i64 v') (.int .i64 h') R7.out
    obtain ⟨w9, e9⟩ : ∃ w9, (((w8.setCell ⟨B + 1, 0, none⟩ (.int .i64 x')).setCell ⟨B + 1, 1, none⟩ (.int .i64 Y)).setCell ⟨B + 1, 2, none⟩ (.int .i64 v')).setCell ⟨B + 1, 3, none⟩ (.int .i64 h') = w9 := ⟨_, rfl⟩
    rw [e9] at S9
    have T9 := Hid.mk S9
    clear S9
    have HK9 : Hid (Kept [] w w9) := Hid.mk ((K2.out.trans K8.out).step T9.out.2 (fun z hz => by simp at hz; subst hz; exact .inr (by have := ZB.out; omega)))
    obtain ⟨⟨o0, o1, o2, o3⟩, p0, p1, p2, p3⟩ := Tl.four R7.out
    go_wp2
    refine bodyPost_ret (v := Tl.rcv x' Y v' h') ?_ rfl ⟨by rfl, HK9.out⟩
    exact results_cell_row rfl _ _ (B + 1) 49 _ (0, 0) _ rfl T9.out.1 Tryz.underlying49 rfl Tl.Tryz.info49
end Go.Proofs.YtbhhkcgicajlcaaGreatDoor.Pc
