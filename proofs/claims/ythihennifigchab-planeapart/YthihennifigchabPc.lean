import Derived.Test.YthihennifigchabPb
import Derived.Test.YthihennifigchabNd
namespace Go.Proofs.Ythihennifigchab
open Go.RowKit

theorem smE_self (W H D : Int) (A : Bool) (n : Nat) (ln : Nat → Nat) (F : Nat → Nat → Nat) : smE W H D A n ln F W H D A n ln F = true := by
  rw [smE_eq]
  exact alF_yes (fun i _ => eqL_yes (fun j _ => rfl))
theorem erX_fine (W H D : Int) (A : Bool) (n : Nat) (ln : Nat → Nat) (F : Nat → Nat → Nat) (W2 H2 D2 : Int) (A2 : Bool) (m : Nat) (lm : Nat → Nat) (G : Nat → Nat → Nat) (p : Int) : (FloatKind.f64.format.order (erX (alE W H D A W2 H2 D2 A2 (vE W H D A n ln F) (vE W2 H2 D2 A2 m lm G)) p n ln F G) (erX (alE W H D A W2 H2 D2 A2 (vE W H D A n ln F) (vE W2 H2 D2 A2 m lm G)) p n ln F G) == some Ordering.eq) = true := by
  unfold erX
  split
  · rename_i hE
    split
    · rename_i hp
      obtain ⟨v1, v2, rfl, rfl, rfl, rfl⟩ := alE_zero hE
      have V1 := vE_zero.1 v1
      have V2 := vE_zero.1 v2
      obtain rfl : m = n := by rw [V1.num, V2.num]
      obtain ⟨P, rfl⟩ : ∃ P : Nat, p = (P : Int) := ⟨p.toNat, by omega⟩
      have hPm : P < m := by omega
      rw [Int.toNat_natCast]
      have hle : lm P = ln P := by have := V1.len P hPm; have := V2.len P hPm; omega
      have hL : 1 ≤ ln P ∧ ln P ≤ 16777216 := by
        have h := V1.len P hPm
        have := wpH (P : Int) V1.shp.1.1 V1.shp.1.2 V1.shp.2.1.1 V1.shp.2.1.2
        omega
      have hm0 := mx_le D
      have hsq := sqs_le (f := F P) (g := G P) (n := ln P) (fun i hi => Nat.le_trans (V1.top P hPm i hi) hm0) (fun i hi => Nat.le_trans (V2.top P hPm i (by rw [hle]; exact hi)) hm0) (ln P) (Nat.le_refl _)
      exact (meB_ok (sqs (F P) (G P) (ln P)) (ln P) (by omega) hL.1 (by omega)).2
    · decide
  · decide

set_option maxHeartbeats 16000000 in
set_option maxRecDepth 1000000 in
theorem apart10_any (W H D : Int) (A : Bool) (po1 po2 : Option Addr) (n c1 c2 : Nat) (ln : Nat → Nat) (F : Nat → Nat → Nat) (W2 H2 D2 : Int) (A2 : Bool) (qo1 qo2 : Option Addr) (m d1 d2 : Nat) (lm : Nat → Nat) (G : Nat → Nat → Nat) (p : Int) (w : World) (hx : Pl w po1 n ln F) (hy : Pl w qo1 m lm G) (ha : Pl w po2 n ln F) (hb : Pl w qo2 m lm G) (hn : n ≤ 9223372036854775807) (hln : ∀ i, i < n → ln i ≤ 9223372036854775807) (hm : m ≤ 9223372036854775807) (hlm : ∀ i, i < m → lm i ≤ 9223372036854775807) (hF : ∀ i j, F i j < 65536) (hG : ∀ i j, G i j < 65536) :
    Calls Try.prog 10 #[frv W H D A po1 n c1, frv W2 H2 D2 A2 qo1 m d1, frv W H D A po2 n c2, frv W2 H2 D2 A2 qo2 m d2, .int .i64 p] w fun e w' => e = .returned (.bool true) ∧ Kept [] w w' := by
  have hfine := erX_fine W H D A n ln F W2 H2 D2 A2 m lm G p
  obtain ⟨E1, eE1⟩ : ∃ E1, E1 = (alE W H D A W2 H2 D2 A2 (vE W H D A n ln F) (vE W2 H2 D2 A2 m lm G)) := ⟨_, rfl⟩
  obtain ⟨E2, eE2⟩ : ∃ E2, E2 = (alE W2 H2 D2 A2 W H D A (vE W2 H2 D2 A2 m lm G) (vE W H D A n ln F)) := ⟨_, rfl⟩
  obtain ⟨h1, eh1⟩ : ∃ h1 : Nat → Int, h1 = if E1 = 0 then rgF n ln F G else fun _ => 0 := ⟨_, rfl⟩
  obtain ⟨h2, eh2⟩ : ∃ h2 : Nat → Int, h2 = if E2 = 0 then rgF m lm G F else fun _ => 0 := ⟨_, rfl⟩
  obtain ⟨X1, eX1⟩ : ∃ X1, X1 = erX E1 p n ln F G := ⟨_, rfl⟩
  obtain ⟨R1, eR1⟩ : ∃ R1, R1 = erE E1 p n := ⟨_, rfl⟩
  obtain ⟨S1, eS1⟩ : ∃ S1, S1 = smE W H D A n ln F W2 H2 D2 A2 m lm G := ⟨_, rfl⟩
  have C1 : Hid (∀ u, Pl u qo1 m lm G → Pl u po1 n ln F → Calls Try.prog 27 #[frv W2 H2 D2 A2 qo1 m d1, frv W H D A po1 n c1] u fun e w' => e = .returned (.tuple #[rgv h2, .int .i64 E2]) ∧ Kept [] u w') := Hid.mk (fun u q1 q2 => by
    have h9 := apart_any W2 H2 D2 A2 qo1 m d1 lm G W H D A po1 n c1 ln F u q1 q2 hm hlm hn hln hG hF
    rw [← eE2, ← eh2] at h9
    exact h9)
  have C2 : Hid (∀ u, Pl u qo2 m lm G → Pl u po2 n ln F → Calls Try.prog 32 #[frv W2 H2 D2 A2 qo2 m d2, frv W H D A po2 n c2] u fun e w' => e = .returned (.tuple #[rgv h2, .int .i64 E2]) ∧ Kept [] u w') := Hid.mk (fun u q1 q2 => by
    have h9 := rapart_any W2 H2 D2 A2 qo2 m d2 lm G W H D A po2 n c2 ln F u q1 q2 hm hlm hn hln hG hF
    rw [← eE2, ← eh2] at h9
    exact h9)
  have C3 : Hid (∀ u, Pl u po1 n ln F → Pl u po1 n ln F → Calls Try.prog 19 #[frv W H D A po1 n c1, frv W H D A po1 n c1] u fun e w' => e = .returned (.bool true) ∧ Kept [] u w') := Hid.mk (fun u q1 q2 => by
    have h9 := psame_any W H D A po1 n c1 ln F W H D A po1 n c1 ln F u q1 q2 hn hln hn hln
    rw [smE_self] at h9
    exact h9)
  have C4 : Hid (∀ u, Pl u po1 n ln F → Pl u qo1 m lm G → Calls Try.prog 27 #[frv W H D A po1 n c1, frv W2 H2 D2 A2 qo1 m d1] u fun e w' => e = .returned (.tuple #[rgv h1, .int .i64 E1]) ∧ Kept [] u w') := Hid.mk (fun u q1 q2 => by
    have h9 := apart_any W H D A po1 n c1 ln F W2 H2 D2 A2 qo1 m d1 lm G u q1 q2 hn hln hm hlm hF hG
    rw [← eE1, ← eh1] at h9
    exact h9)
  have C5 : Hid (∀ u, Pl u po2 n ln F → Pl u qo2 m lm G → Calls Try.prog 32 #[frv W H D A po2 n c2, frv W2 H2 D2 A2 qo2 m d2] u fun e w' => e = .returned (.tuple #[rgv h1, .int .i64 E1]) ∧ Kept [] u w') := Hid.mk (fun u q1 q2 => by
    have h9 := rapart_any W H D A po2 n c2 ln F W2 H2 D2 A2 qo2 m d2 lm G u q1 q2 hn hln hm hlm hF hG
    rw [← eE1, ← eh1] at h9
    exact h9)
  have C6 : Hid (∀ u, Pl u po1 n ln F → Pl u qo1 m lm G → Calls Try.prog 28 #[frv W H D A po1 n c1, frv W2 H2 D2 A2 qo1 m d1, .int .i64 p] u fun e w' => e = .returned (.tuple #[.float .f64 X1, .int .i64 R1]) ∧ Kept [] u w') := Hid.mk (fun u q1 q2 => by
    have h9 := error_any W H D A po1 n c1 ln F W2 H2 D2 A2 qo1 m d1 lm G p u q1 q2 hn hln hm hlm hF hG
    rw [← eE1, ← eX1, ← eR1] at h9
    exact h9)
  have C7 : Hid (∀ u, Pl u po2 n ln F → Pl u qo2 m lm G → Calls Try.prog 33 #[frv W H D A po2 n c2, frv W2 H2 D2 A2 qo2 m d2, .int .i64 p] u fun e w' => e = .returned (.tuple #[.float .f64 X1, .int .i64 R1]) ∧ Kept [] u w') := Hid.mk (fun u q1 q2 => by
    have h9 := rerror_any W H D A po2 n c2 ln F W2 H2 D2 A2 qo2 m d2 lm G p u q1 q2 hn hln hm hlm hF hG
    rw [← eE1, ← eX1, ← eR1] at h9
    exact h9)
  have C8 : Hid (∀ u, Pl u po1 n ln F → Pl u qo1 m lm G → Calls Try.prog 19 #[frv W H D A po1 n c1, frv W2 H2 D2 A2 qo1 m d1] u fun e w' => e = .returned (.bool S1) ∧ Kept [] u w') := Hid.mk (fun u q1 q2 => by
    have h9 := psame_any W H D A po1 n c1 ln F W2 H2 D2 A2 qo1 m d1 lm G u q1 q2 hn hln hm hlm
    rw [← eS1] at h9
    exact h9)
  have C9 : Hid (∀ u, Pl u po2 n ln F → Pl u qo2 m lm G → Calls Try.prog 34 #[frv W H D A po2 n c2, frv W2 H2 D2 A2 qo2 m d2] u fun e w' => e = .returned (.bool S1) ∧ Kept [] u w') := Hid.mk (fun u q1 q2 => by
    have h9 := rsame_any W H D A po2 n c2 ln F W2 H2 D2 A2 qo2 m d2 lm G u q1 q2 hn hln hm hlm
    rw [← eS1] at h9
    exact h9)
  rw [← eE1, ← eX1] at hfine
  have n0 := heap_alloc_new w (.cells #[.int .i64 W, .int .i64 H, .int .i64 D, .bool A, .slice po1 n c1] 26)
  have k0 := alloc_kept w (.cells #[.int .i64 W, .int .i64 H, .int .i64 D, .bool A, .slice po1 n c1] 26)
  have n1 := heap_alloc_new (w.alloc (.cells #[.int .i64 W, .int .i64 H, .int .i64 D, .bool A, .slice po1 n c1] 26)) (.cells #[.int .i64 W2, .int .i64 H2, .int .i64 D2, .bool A2, .slice qo1 m d1] 26)
  have k1 := alloc_kept (w.alloc (.cells #[.int .i64 W, .int .i64 H, .int .i64 D, .bool A, .slice po1 n c1] 26)) (.cells #[.int .i64 W2, .int .i64 H2, .int .i64 D2, .bool A2, .slice qo1 m d1] 26)
  have n2 := heap_alloc_new ((w.alloc (.cells #[.int .i64 W, .int .i64 H, .int .i64 D, .bool A, .slice po1 n c1] 26)).alloc (.cells #[.int .i64 W2, .int .i64 H2, .int .i64 D2, .bool A2, .slice qo1 m d1] 26)) (.cells #[.int .i64 W, .int .i64 H, .int .i64 D, .bool A, .slice po2 n c2] 26)
  have k2 := alloc_kept ((w.alloc (.cells #[.int .i64 W, .int .i64 H, .int .i64 D, .bool A, .slice po1 n c1] 26)).alloc (.cells #[.int .i64 W2, .int .i64 H2, .int .i64 D2, .bool A2, .slice qo1 m d1] 26)) (.cells #[.int .i64 W, .int .i64 H, .int .i64 D, .bool A, .slice po2 n c2] 26)
  have n3 := heap_alloc_new (((w.alloc (.cells #[.int .i64 W, .int .i64 H, .int .i64 D, .bool A, .slice po1 n c1] 26)).alloc (.cells #[.int .i64 W2, .int .i64 H2, .int .i64 D2, .bool A2, .slice qo1 m d1] 26)).alloc (.cells #[.int .i64 W, .int .i64 H, .int .i64 D, .bool A, .slice po2 n c2] 26)) (.cells #[.int .i64 W2, .int .i64 H2, .int .i64 D2, .bool A2, .slice qo2 m d2] 26)
  have k3 := alloc_kept (((w.alloc (.cells #[.int .i64 W, .int .i64 H, .int .i64 D, .bool A, .slice po1 n c1] 26)).alloc (.cells #[.int .i64 W2, .int .i64 H2, .int .i64 D2, .bool A2, .slice qo1 m d1] 26)).alloc (.cells #[.int .i64 W, .int .i64 H, .int .i64 D, .bool A, .slice po2 n c2] 26)) (.cells #[.int .i64 W2, .int .i64 H2, .int .i64 D2, .bool A2, .slice qo2 m d2] 26)
  rw [World.size_alloc] at n1
  rw [World.size_alloc, World.size_alloc] at n2
  rw [World.size_alloc, World.size_alloc, World.size_alloc] at n3
  have n0' := k3.heap (k2.heap (k1.heap n0 (by simp)) (by simp)) (by simp)
  have n1' := k3.heap (k2.heap n1 (by simp)) (by simp)
  have n2' := k3.heap n2 (by simp)
  have K1 := Hid.mk (((k0.trans k1).trans k2).trans k3)
  have P1 := Hid.mk (And.intro n0' (And.intro n1' (And.intro n2' n3)))
  have HP := Hid.mk (And.intro hx (And.intro hy (And.intro ha hb)))
  have hab : (A == A) = true := by cases A <;> rfl
  have HFN := Hid.mk hfine
  clear hx hy ha hb hln hlm hF hG eE1 eE2 eh1 eh2 eX1 eR1 eS1 n0 n1 n2 n3 k0 k1 k2 k3 n0' n1' n2' hfine
  go_enter Try.func10, Try.ntmps10
  go_wp2_with (fail)
  obtain ⟨w1, ew1⟩ : ∃ w1, w1 = ((((w.alloc (.cells #[.int .i64 W, .int .i64 H, .int .i64 D, .bool A, .slice po1 n c1] 26)).alloc (.cells #[.int .i64 W2, .int .i64 H2, .int .i64 D2, .bool A2, .slice qo1 m d1] 26)).alloc (.cells #[.int .i64 W, .int .i64 H, .int .i64 D, .bool A, .slice po2 n c2] 26)).alloc (.cells #[.int .i64 W2, .int .i64 H2, .int .i64 D2, .bool A2, .slice qo2 m d2] 26)) := ⟨_, rfl⟩
  rw [← ew1] at P1 K1 ⊢
  obtain ⟨XB, eXB⟩ : ∃ XB, XB = w.heap.size := ⟨_, rfl⟩
  obtain ⟨YB, eYB⟩ : ∃ YB, YB = w.heap.size + 1 := ⟨_, rfl⟩
  obtain ⟨AB, eAB⟩ : ∃ AB, AB = w.heap.size + 1 + 1 := ⟨_, rfl⟩
  obtain ⟨BB, eBB⟩ : ∃ BB, BB = w.heap.size + 1 + 1 + 1 := ⟨_, rfl⟩
  rw [← eBB, ← eAB, ← eYB, ← eXB] at P1 ⊢
  clear ew1 eXB eYB eAB eBB
  refine (C1.out _ (HP.out.2.1.keep K1.out) (HP.out.1.keep K1.out)).mono ?_
  rintro e u0 ⟨rfl, q0⟩
  have t0 := q0.trans (alloc_kept u0 (.cells #[.int .i64 (h2 0), .int .i64 (h2 1), .int .i64 (h2 2), .int .i64 (h2 3)] 67))
  have KK0 := Hid.mk (K1.out.trans t0)
  have PP0 := Hid.mk (And.intro (t0.heap P1.out.1 (by simp)) (And.intro (t0.heap P1.out.2.1 (by simp)) (And.intro (t0.heap P1.out.2.2.1 (by simp)) (t0.heap P1.out.2.2.2 (by simp)))))
  have T0 := Hid.mk (heap_alloc_new u0 (.cells #[.int .i64 (h2 0), .int .i64 (h2 1), .int .i64 (h2 2), .int .i64 (h2 3)] 67))
  clear q0 t0 K1 P1
  obtain ⟨⟨x0, x1, x2, x3, x4⟩, _⟩ := five PP0.out.1
  obtain ⟨⟨y0, y1, y2, y3, y4⟩, _⟩ := five PP0.out.2.1
  obtain ⟨⟨a0, a1, a2, a3, a4⟩, _⟩ := five PP0.out.2.2.1
  obtain ⟨⟨b0, b1, b2, b3, b4⟩, _⟩ := five PP0.out.2.2.2
  go_wp2_with (fail)
  refine (C2.out _ (HP.out.2.2.2.keep KK0.out) (HP.out.2.2.1.keep KK0.out)).mono ?_
  rintro e u1 ⟨rfl, q1⟩
  have t1 := q1.trans (alloc_kept u1 (.cells #[.int .i64 (h2 0), .int .i64 (h2 1), .int .i64 (h2 2), .int .i64 (h2 3)] 67))
  have KK1 := Hid.mk (KK0.out.trans t1)
  have PP1 := Hid.mk (And.intro (t1.heap PP0.out.1 (by simp)) (And.intro (t1.heap PP0.out.2.1 (by simp)) (And.intro (t1.heap PP0.out.2.2.1 (by simp)) (t1.heap PP0.out.2.2.2 (by simp)))))
  have T1 := Hid.mk (t1.heap T0.out (by simp))
  have U1 := Hid.mk (heap_alloc_new u1 (.cells #[.int .i64 (h2 0), .int .i64 (h2 1), .int .i64 (h2 2), .int .i64 (h2 3)] 67))
  clear q1 t1 KK0 PP0 T0 x0 x1 x2 x3 x4 y0 y1 y2 y3 y4 a0 a1 a2 a3 a4 b0 b1 b2 b3 b4
  obtain ⟨⟨x0, x1, x2, x3, x4⟩, _⟩ := five PP1.out.1
  obtain ⟨⟨y0, y1, y2, y3, y4⟩, _⟩ := five PP1.out.2.1
  obtain ⟨⟨a0, a1, a2, a3, a4⟩, _⟩ := five PP1.out.2.2.1
  obtain ⟨⟨b0, b1, b2, b3, b4⟩, _⟩ := five PP1.out.2.2.2
  go_wp2_with (fail)
  refine (C3.out _ (HP.out.1.keep KK1.out) (HP.out.1.keep KK1.out)).mono ?_
  rintro e u2 ⟨rfl, q2⟩
  have KK2 := Hid.mk (KK1.out.trans q2)
  have PP2 := Hid.mk (And.intro (q2.heap PP1.out.1 (by simp)) (And.intro (q2.heap PP1.out.2.1 (by simp)) (And.intro (q2.heap PP1.out.2.2.1 (by simp)) (q2.heap PP1.out.2.2.2 (by simp)))))
  have T2 := Hid.mk (q2.heap T1.out (by simp))
  have U2 := Hid.mk (q2.heap U1.out (by simp))
  clear q2 KK1 PP1 T1 U1 x0 x1 x2 x3 x4 y0 y1 y2 y3 y4 a0 a1 a2 a3 a4 b0 b1 b2 b3 b4
  obtain ⟨⟨x0, x1, x2, x3, x4⟩, _⟩ := five PP2.out.1
  obtain ⟨⟨y0, y1, y2, y3, y4⟩, _⟩ := five PP2.out.2.1
  obtain ⟨⟨a0, a1, a2, a3, a4⟩, _⟩ := five PP2.out.2.2.1
  obtain ⟨⟨b0, b1, b2, b3, b4⟩, _⟩ := five PP2.out.2.2.2
  go_wp2_with (fail)
  refine (C4.out _ (HP.out.1.keep KK2.out) (HP.out.2.1.keep KK2.out)).mono ?_
  rintro e u3 ⟨rfl, q3⟩
  have t3 := q3.trans (alloc_kept u3 (.cells #[.int .i64 (h1 0), .int .i64 (h1 1), .int .i64 (h1 2), .int .i64 (h1 3)] 67))
  have KK3 := Hid.mk (KK2.out.trans t3)
  have PP3 := Hid.mk (And.intro (t3.heap PP2.out.1 (by simp)) (And.intro (t3.heap PP2.out.2.1 (by simp)) (And.intro (t3.heap PP2.out.2.2.1 (by simp)) (t3.heap PP2.out.2.2.2 (by simp)))))
  have T3 := Hid.mk (t3.heap T2.out (by simp))
  have U3 := Hid.mk (t3.heap U2.out (by simp))
  have R3 := Hid.mk (heap_alloc_new u3 (.cells #[.int .i64 (h1 0), .int .i64 (h1 1), .int .i64 (h1 2), .int .i64 (h1 3)] 67))
  clear q3 t3 KK2 PP2 T2 U2 x0 x1 x2 x3 x4 y0 y1 y2 y3 y4 a0 a1 a2 a3 a4 b0 b1 b2 b3 b4
  obtain ⟨⟨x0, x1, x2, x3, x4⟩, _⟩ := five PP3.out.1
  obtain ⟨⟨y0, y1, y2, y3, y4⟩, _⟩ := five PP3.out.2.1
  obtain ⟨⟨a0, a1, a2, a3, a4⟩, _⟩ := five PP3.out.2.2.1
  obtain ⟨⟨b0, b1, b2, b3, b4⟩, _⟩ := five PP3.out.2.2.2
  go_wp2_with (fail)
  refine (C5.out _ (HP.out.2.2.1.keep KK3.out) (HP.out.2.2.2.keep KK3.out)).mono ?_
  rintro e u4 ⟨rfl, q4⟩
  have t4 := q4.trans (alloc_kept u4 (.cells #[.int .i64 (h1 0), .int .i64 (h1 1), .int .i64 (h1 2), .int .i64 (h1 3)] 67))
  have KK4 := Hid.mk (KK3.out.trans t4)
  have PP4 := Hid.mk (And.intro (t4.heap PP3.out.1 (by simp)) (And.intro (t4.heap PP3.out.2.1 (by simp)) (And.intro (t4.heap PP3.out.2.2.1 (by simp)) (t4.heap PP3.out.2.2.2 (by simp)))))
  have T4 := Hid.mk (t4.heap T3.out (by simp))
  have U4 := Hid.mk (t4.heap U3.out (by simp))
  have R4 := Hid.mk (t4.heap R3.out (by simp))
  have S4 := Hid.mk (heap_alloc_new u4 (.cells #[.int .i64 (h1 0), .int .i64 (h1 1), .int .i64 (h1 2), .int .i64 (h1 3)] 67))
  clear q4 t4 KK3 PP3 T3 U3 R3 x0 x1 x2 x3 x4 y0 y1 y2 y3 y4 a0 a1 a2 a3 a4 b0 b1 b2 b3 b4
  obtain ⟨⟨x0, x1, x2, x3, x4⟩, _⟩ := five PP4.out.1
  obtain ⟨⟨y0, y1, y2, y3, y4⟩, _⟩ := five PP4.out.2.1
  obtain ⟨⟨a0, a1, a2, a3, a4⟩, _⟩ := five PP4.out.2.2.1
  obtain ⟨⟨b0, b1, b2, b3, b4⟩, _⟩ := five PP4.out.2.2.2
  go_wp2_with (fail)
  refine (C6.out _ (HP.out.1.keep KK4.out) (HP.out.2.1.keep KK4.out)).mono ?_
  rintro e u5 ⟨rfl, q5⟩
  have KK5 := Hid.mk (KK4.out.trans q5)
  have PP5 := Hid.mk (And.intro (q5.heap PP4.out.1 (by simp)) (And.intro (q5.heap PP4.out.2.1 (by simp)) (And.intro (q5.heap PP4.out.2.2.1 (by simp)) (q5.heap PP4.out.2.2.2 (by simp)))))
  have T5 := Hid.mk (q5.heap T4.out (by simp))
  have U5 := Hid.mk (q5.heap U4.out (by simp))
  have R5 := Hid.mk (q5.heap R4.out (by simp))
  have S5 := Hid.mk (q5.heap S4.out (by simp))
  clear q5 KK4 PP4 T4 U4 R4 S4 x0 x1 x2 x3 x4 y0 y1 y2 y3 y4 a0 a1 a2 a3 a4 b0 b1 b2 b3 b4
  obtain ⟨⟨x0, x1, x2, x3, x4⟩, _⟩ := five PP5.out.1
  obtain ⟨⟨y0, y1, y2, y3, y4⟩, _⟩ := five PP5.out.2.1
  obtain ⟨⟨a0, a1, a2, a3, a4⟩, _⟩ := five PP5.out.2.2.1
  obtain ⟨⟨b0, b1, b2, b3, b4⟩, _⟩ := five PP5.out.2.2.2
  go_wp2_with (fail)
  refine (C7.out _ (HP.out.2.2.1.keep KK5.out) (HP.out.2.2.2.keep KK5.out)).mono ?_
  rintro e u6 ⟨rfl, q6⟩
  have KK6 := Hid.mk (KK5.out.trans q6)
  have PP6 := Hid.mk (And.intro (q6.heap PP5.out.1 (by simp)) (And.intro (q6.heap PP5.out.2.1 (by simp)) (And.intro (q6.heap PP5.out.2.2.1 (by simp)) (q6.heap PP5.out.2.2.2 (by simp)))))
  have T6 := Hid.mk (q6.heap T5.out (by simp))
  have U6 := Hid.mk (q6.heap U5.out (by simp))
  have R6 := Hid.mk (q6.heap R5.out (by simp))
  have S6 := Hid.mk (q6.heap S5.out (by simp))
  clear q6 KK5 PP5 T5 U5 R5 S5 x0 x1 x2 x3 x4 y0 y1 y2 y3 y4 a0 a1 a2 a3 a4 b0 b1 b2 b3 b4
  obtain ⟨⟨x0, x1, x2, x3, x4⟩, _⟩ := five PP6.out.1
  obtain ⟨⟨y0, y1, y2, y3, y4⟩, _⟩ := five PP6.out.2.1
  obtain ⟨⟨a0, a1, a2, a3, a4⟩, _⟩ := five PP6.out.2.2.1
  obtain ⟨⟨b0, b1, b2, b3, b4⟩, _⟩ := five PP6.out.2.2.2
  go_wp2_with (fail)
  refine (C8.out _ (HP.out.1.keep KK6.out) (HP.out.2.1.keep KK6.out)).mono ?_
  rintro e u7 ⟨rfl, q7⟩
  have KK7 := Hid.mk (KK6.out.trans q7)
  have PP7 := Hid.mk (And.intro (q7.heap PP6.out.1 (by simp)) (And.intro (q7.heap PP6.out.2.1 (by simp)) (And.intro (q7.heap PP6.out.2.2.1 (by simp)) (q7.heap PP6.out.2.2.2 (by simp)))))
  have T7 := Hid.mk (q7.heap T6.out (by simp))
  have U7 := Hid.mk (q7.heap U6.out (by simp))
  have R7 := Hid.mk (q7.heap R6.out (by simp))
  have S7 := Hid.mk (q7.heap S6.out (by simp))
  clear q7 KK6 PP6 T6 U6 R6 S6 x0 x1 x2 x3 x4 y0 y1 y2 y3 y4 a0 a1 a2 a3 a4 b0 b1 b2 b3 b4
  obtain ⟨⟨x0, x1, x2, x3, x4⟩, _⟩ := five PP7.out.1
  obtain ⟨⟨y0, y1, y2, y3, y4⟩, _⟩ := five PP7.out.2.1
  obtain ⟨⟨a0, a1, a2, a3, a4⟩, _⟩ := five PP7.out.2.2.1
  obtain ⟨⟨b0, b1, b2, b3, b4⟩, _⟩ := five PP7.out.2.2.2
  obtain ⟨⟨vt0, vt1, vt2, vt3⟩, _⟩ := four T7.out
  obtain ⟨⟨vu0, vu1, vu2, vu3⟩, _⟩ := four U7.out
  obtain ⟨⟨vr0, vr1, vr2, vr3⟩, _⟩ := four R7.out
  obtain ⟨⟨vs0, vs1, vs2, vs3⟩, _⟩ := four S7.out
  have aq1 := arr_eq h1
  have aq2 := arr_eq h2
  have hfe := HFN.out
  have hSS : (S1 == S1) = true := by cases S1 <;> rfl
  go_wp2_with (fail)
  refine (C9.out _ (HP.out.2.2.1.keep KK7.out) (HP.out.2.2.2.keep KK7.out)).mono ?_
  rintro e uZ ⟨rfl, qZ⟩
  go_wp2
  go_ret
  exact ⟨rfl, KK7.out.trans qZ⟩
end Go.Proofs.Ythihennifigchab
