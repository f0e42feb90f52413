import Derived.Test.YtkjhegedkamjaaaT2
import Derived.Test.YtkjhegedkamjaaaT3
namespace Go.Proofs.Ytkjhegedkamjaaa
open Go.RowKit

/-- A slice's rectangle. -/
abbrev sR (W H sw sh c k : Int) : Value := rcv (sX c sw k) (sY c sh k) (min sw (W - sX c sw k)) (min sh (H - sY c sh k))
set_option maxHeartbeats 4000000 in
set_option maxRecDepth 1000000 in
theorem trect_ok (P : Nat) (W H D sw sh c r k : Int) (A : Bool) (w : World) (hg : Gr w P W H D A sw sh c r) (g : Gd W H sw sh c r) (k0 : 0 ≤ k) (k1 : k < c * r) :
    Calls Try.prog 14 #[.pointer (some ⟨P, 0, none⟩), .int .i64 k] w fun e w' => e = .returned (.tuple #[sR W H sw sh c k, .int .i64 0]) ∧ Kept [] w w' := by
  obtain ⟨w1, ew1, hk1, hb1⟩ := one_new w #[.int .i64 0, .int .i64 0, .int .i64 0, .int .i64 0] 34
  have EW := Hid.mk ew1
  have HG := Hid.mk (hg.keep hk1 (by simp))
  have C1 := Hid.mk (fun u (h : Gr u P W H D A sw sh c r) => count_any' P W H D sw sh c r A u h g.c0 g.c1 g.r0 g.r1)
  have C2 := Hid.mk (fun u (h : Gr u P W H D A sw sh c r) => rect_any' P W H D sw sh c r k A u h g k0 k1)
  clear ew1 hg g
  unfold sR
  obtain ⟨n, hn⟩ : ∃ n, n = c * r := ⟨_, rfl⟩
  obtain ⟨X, eX⟩ : ∃ X, X = sX c sw k := ⟨_, rfl⟩
  obtain ⟨Y, eY⟩ : ∃ Y, Y = sY c sh k := ⟨_, rfl⟩
  obtain ⟨w', eW⟩ : ∃ X', X' = min sw (W - X) := ⟨_, rfl⟩
  obtain ⟨h', eH⟩ : ∃ X', X' = min sh (H - Y) := ⟨_, rfl⟩
  simp only [← eX, ← eY, ← eW, ← eH, ← hn] at C1 C2 k1 ⊢
  clear eX eY eW eH hn
  go_enter Try.func14, Try.ntmps14
  go_wp2_with (first | (go_at_call 13; rw [← EW.out]; refine (C1.out _ HG.out).mono ?_; rintro e w2 ⟨rfl, hk2⟩) | (go_at_call 31; refine (C2.out _ (HG.out.keep hk2 (by simp))).mono ?_; rintro e w3 ⟨rfl, hk3⟩; have HB := Hid.mk ((hk2.trans hk3).heap hb1 (by simp)); obtain ⟨⟨z0, z1, z2, z3⟩, f0, f1, f2, f3⟩ := four HB.out))
  have s4 := set4 (.int .i64 X) (.int .i64 Y) (.int .i64 w') (.int .i64 h') HB.out
  refine bodyPost_ret (v := .tuple #[rcv X Y w' h', .int .i64 0]) ?_ rfl ⟨rfl, ((hk1.trans hk2).trans hk3).step s4.2 (fun x hx => by simp at hx; subst hx; exact .inr (by omega))⟩
  exact results_two rfl _ _ w.heap.size 34 _ (0, 0) _ _ rfl s4.1 Try.underlying34 Try.info51 rfl

set_option maxHeartbeats 4000000 in
set_option maxRecDepth 1000000 in
theorem trect_no (P : Nat) (W H D sw sh c r k : Int) (A : Bool) (w : World) (hg : Gr w P W H D A sw sh c r) (g : Gd W H sw sh c r) (kn : k < 0 ∨ c * r ≤ k) :
    Calls Try.prog 14 #[.pointer (some ⟨P, 0, none⟩), .int .i64 k] w fun e w' => e = .returned (.tuple #[rcv 0 0 0 0, .int .i64 82]) ∧ Kept [] w w' := by
  obtain ⟨w1, ew1, hk1, hb1⟩ := one_new w #[.int .i64 0, .int .i64 0, .int .i64 0, .int .i64 0] 34
  have EW := Hid.mk ew1
  have HG := Hid.mk (hg.keep hk1 (by simp))
  have C1 := Hid.mk (fun u (h : Gr u P W H D A sw sh c r) => count_any' P W H D sw sh c r A u h g.c0 g.c1 g.r0 g.r1)
  clear ew1 hg g
  obtain ⟨n, hn⟩ : ∃ n, n = c * r := ⟨_, rfl⟩
  simp only [← hn] at C1 kn
  clear hn
  by_cases h0 : k < 0
  · clear kn
    have HB := Hid.mk hb1
    obtain ⟨⟨z0, z1, z2, z3⟩, f0, f1, f2, f3⟩ := four HB.out
    go_enter Try.func14, Try.ntmps14
    go_wp2_with (fail)
    rw [← EW.out]
    refine bodyPost_ret (v := .tuple #[rcv 0 0 0 0, .int .i64 82]) ?_ rfl ⟨rfl, hk1⟩
    exact results_two rfl _ _ w.heap.size 34 _ (0, 0) _ _ rfl HB.out Try.underlying34 Try.info51 rfl
  · have h1 : n ≤ k := by omega
    have h2 : 0 ≤ k := by omega
    clear kn
    go_enter Try.func14, Try.ntmps14
    go_wp2_with (first | (go_at_call 13; rw [← EW.out]; refine (C1.out _ HG.out).mono ?_; rintro e w2 ⟨rfl, hk2⟩; have HB := Hid.mk (hk2.heap hb1 (by simp)); obtain ⟨⟨z0, z1, z2, z3⟩, f0, f1, f2, f3⟩ := four HB.out))
    have s4 := set4 (.int .i64 0) (.int .i64 0) (.int .i64 0) (.int .i64 0) HB.out
    refine bodyPost_ret (v := .tuple #[rcv 0 0 0 0, .int .i64 82]) ?_ rfl ⟨rfl, (hk1.trans hk2).step s4.2 (fun x hx => by simp at hx; subst hx; exact .inr (by omega))⟩
    exact results_two rfl _ _ w.heap.size 34 _ (0, 0) _ _ rfl s4.1 Try.underlying34 Try.info51 rfl

set_option maxHeartbeats 4000000 in
set_option maxRecDepth 1000000 in
theorem tat_ok (P : Nat) (W H D sw sh c r x y : Int) (A : Bool) (w : World) (hg : Gr w P W H D A sw sh c r) (g : Gd W H sw sh c r) (x0 : 0 ≤ x) (x1 : x < W) (y0 : 0 ≤ y) (y1 : y < H) :
    Calls Try.prog 12 #[.pointer (some ⟨P, 0, none⟩), .int .i64 x, .int .i64 y] w fun e w' => e = .returned (.tuple #[.int .i64 (sA c sw sh x y), .int .i64 0]) ∧ Kept [] w w' := by
  have HG := Hid.mk hg
  have C1 := Hid.mk (fun u (h : Gr u P W H D A sw sh c r) => thas_any P W H D sw sh c r x y 1 1 A u h g (by have := g.w1; omega) (by have := g.h1; omega))
  rw [show inF W H x y 1 1 = true from decide_eq_true (by omega)] at C1
  have C2 := Hid.mk (fun u (h : Gr u P W H D A sw sh c r) => at_any' P W H D sw sh c r x y A u h g x0 x1 y0 y1)
  clear hg g
  obtain ⟨n, hn⟩ : ∃ n, n = sA c sw sh x y := ⟨_, rfl⟩
  simp only [← hn] at C2 ⊢
  clear hn
  go_enter Try.func12, Try.ntmps12
  go_wp2_with (first | (go_at_call 29; refine (C1.out _ HG.out).mono ?_; rintro e w2 ⟨rfl, hk2⟩) | (go_at_call 30; refine (C2.out _ (HG.out.keep hk2 (by simp))).mono ?_; rintro e w3 ⟨rfl, hk3⟩))
  go_ret2
  exact ⟨rfl, hk2.trans hk3⟩

set_option maxHeartbeats 4000000 in
set_option maxRecDepth 1000000 in
theorem tat_no (P : Nat) (W H D sw sh c r x y : Int) (A : Bool) (w : World) (hg : Gr w P W H D A sw sh c r) (g : Gd W H sw sh c r) (xb : x ≤ 9223372036854775807) (yb : y ≤ 9223372036854775807) (hn : ¬ (0 ≤ x ∧ x < W ∧ 0 ≤ y ∧ y < H)) :
    Calls Try.prog 12 #[.pointer (some ⟨P, 0, none⟩), .int .i64 x, .int .i64 y] w fun e w' => e = .returned (.tuple #[.int .i64 0, .int .i64 83]) ∧ Kept [] w w' := by
  have HG := Hid.mk hg
  have C1 := Hid.mk (fun u (h : Gr u P W H D A sw sh c r) => thas_any P W H D sw sh c r x y 1 1 A u h g xb yb)
  rw [show inF W H x y 1 1 = false from decide_eq_false (by omega)] at C1
  clear hg g hn
  go_enter Try.func12, Try.ntmps12
  go_wp2_with (first | (go_at_call 29; refine (C1.out _ HG.out).mono ?_; rintro e w2 ⟨rfl, hk2⟩))
  go_ret2
  exact ⟨rfl, hk2⟩
end Go.Proofs.Ytkjhegedkamjaaa
