import Derived.Test.YthhegomjipbdbaaGreatDoorpHZ
namespace Go.Proofs.YthhegomjipbdbaaGreatDoor.Pc
open Go.RowKit

/-- Which of n things a raw number speaks of. -/
def tpick (c : Int) (n : Int) : Int := if c < 0 then (-(c + 1)) % n else c % n
theorem tpick_lo (c n : Int) (h : 0 < n) : 0 ≤ tpick c n := by
  unfold tpick; split <;> exact Int.emod_nonneg _ (by omega)
theorem tpick_hi (c n : Int) (h : 0 < n) : tpick c n < n := by
  unfold tpick; split <;> exact Int.emod_lt_of_pos _ h

set_option maxHeartbeats 400000 in
theorem tpick_any (c n : Int) (w : World) (c0 : -9223372036854775808 ≤ c) (c1 : c ≤ 9223372036854775807) (h : 0 < n) :
    Calls Tryz.prog 14 #[.int .i64 c, .int .i64 n] w fun e w' => e = .returned (.int .i64 (tpick c n)) ∧ w' = w := by
  by_cases hc : c < 0
  · go_enter Tryz.func14, Tryz.ntmps14
    go_wp2
    go_ret
    exact ⟨ret_int (by unfold tpick; rw [if_pos hc, ← Int.neg_tmod, Int.tmod_eq_emod_of_nonneg (by omega)]), rfl⟩
  · go_enter Tryz.func14, Tryz.ntmps14
    go_wp2
    go_ret
    exact ⟨ret_int (by unfold tpick; rw [if_neg (by omega)]), rfl⟩

set_option maxHeartbeats 4000000 in
set_option maxRecDepth 1000000 in
/-- How many columns, how many slices. -/
theorem tgrid_any (W H D : Int) (A : Bool) (sw sh : Int) (lo : Option Addr) (n d : Nat) (cap p c r : Int) (w : World) (g : Tl.Gd W H sw sh c r) (hc : c = Tl.cl W sw) (hr : r = Tl.cl H sh) :
    Calls Tryz.prog 13 #[Tl.shv W H D A, cfv sw sh lo n d cap p] w fun e w' => e = .returned (.tuple #[.int .i64 c, .int .i64 (c * r)]) ∧ Kept [] w w' := by
  obtain ⟨w1, e1⟩ : ∃ w1, w.alloc (.cells #[.int .i64 W, .int .i64 H, .int .i64 D, .bool A] 23 (0, 0)) = w1 := ⟨_, rfl⟩
  obtain ⟨w2, e2⟩ : ∃ w2, w1.alloc (.cells #[.int .i64 sw, .int .i64 sh, .slice lo n d, .int .i64 cap, .int .i64 p] 45 (0, 0)) = w2 := ⟨_, rfl⟩
  obtain ⟨B, eB⟩ : ∃ B, w.heap.size = B := ⟨_, rfl⟩
  have z1 : w1.heap.size = B + 1 := by rw [← e1, ← eB]; exact Array.size_push _
  have k1 : Kept [] w w1 := by rw [← e1]; exact (Kept.refl [] w).alloc _
  have k2 : Kept [] w1 w2 := by rw [← e2]; exact (Kept.refl [] w1).alloc _
  have HS := Hid.mk (k2.heap (show w1.heap[B]? = some (.cells #[.int .i64 W, .int .i64 H, .int .i64 D, .bool A] 23 (0, 0)) by rw [← e1, ← eB]; exact heap_alloc_new _ _) (by simp))
  have HC := Hid.mk (show w2.heap[B + 1]? = some (.cells #[.int .i64 sw, .int .i64 sh, .slice lo n d, .int .i64 cap, .int .i64 p] 45 (0, 0)) by rw [← e2, ← z1]; exact heap_alloc_new _ _)
  have K2 := Hid.mk (k1.trans k2)
  obtain ⟨w0', w1', h0', h1', s0', s1', _, t0', t1', c0', c1', r0', r1', _, _, _, _⟩ := g
  have hcr : c * r ≤ 65536 := Int.mul_le_mul (a := c) (b := r) (c := 256) (d := 256) c1' r1' (by omega) (by omega)
  have hcr0 : 0 ≤ c * r := Int.mul_nonneg (by omega) (by omega)
  have q1 : wrap64 ((W + sw - 1).tdiv sw) = c := by
    rw [Int.tdiv_eq_ediv_of_nonneg (by omega), hc]; unfold Tl.cl at hc ⊢
    rw [← hc]; exact Tl.w64_in (by omega) (by omega)
  have q1' : IntKind.i64.wrap ((W + sw - 1).tdiv sw) = c := by
    rw [Int.tdiv_eq_ediv_of_nonneg (by omega), hc]; unfold Tl.cl at hc ⊢
    rw [← hc]; exact Tl.wrap_i (by omega) (by omega)
  have q2 : wrap64 ((H + sh - 1).tdiv sh) = r := by
    rw [Int.tdiv_eq_ediv_of_nonneg (by omega), hr]; unfold Tl.cl at hr ⊢
    rw [← hr]; exact Tl.w64_in (by omega) (by omega)
  have q2' : IntKind.i64.wrap ((H + sh - 1).tdiv sh) = r := by
    rw [Int.tdiv_eq_ediv_of_nonneg (by omega), hr]; unfold Tl.cl at hr ⊢
    rw [← hr]; exact Tl.wrap_i (by omega) (by omega)
  have q3 : wrap64 (c * r) = c * r := Tl.w64_in (by omega) (by omega)
  have q3' : IntKind.i64.wrap (c * r) = c * r := Tl.wrap_i (by omega) (by omega)
  have n1 : sw ≠ 0 := by omega
  have n2 : sh ≠ 0 := by omega
  clear k1 k2 hc hr
  obtain ⟨s0, s1, s2, s3⟩ := cel4 HS.out
  obtain ⟨y0, y1, y2, y3, y4⟩ := cel5 HC.out
  go_enter Tryz.func13, Tryz.ntmps13
  go_wp2
  go_quiet (fail)
  go_wp2
  go_ret2
  exact ⟨by first | rfl | (rw [q1', q2', q3']), by first | exact K2.out | exact K2.out.drewN _⟩
end Go.Proofs.YthhegomjipbdbaaGreatDoor.Pc

namespace Go.Proofs.YthhegomjipbdbaaGreatDoor.Pc
open Go.RowKit

set_option maxHeartbeats 4000000 in
set_option maxRecDepth 1000000 in
/-- The luma's rectangle of slice k. -/
theorem tplace_any (W H D : Int) (A : Bool) (sw sh : Int) (lo : Option Addr) (n d : Nat) (cap p c r k : Int) (w : World) (g : Tl.Gd W H sw sh c r) (hc : c = Tl.cl W sw) (hr : r = Tl.cl H sh) (k0 : 0 ≤ k) (k1 : k < c * r) :
    Calls Tryz.prog 16 #[Tl.shv W H D A, cfv sw sh lo n d cap p, .int .i64 k] w fun e w' => e = .returned (Tl.rcv (Tl.sX c sw k) (Tl.sY c sh k) (min sw (W - Tl.sX c sw k)) (min sh (H - Tl.sY c sh k))) ∧ Kept [] w w' := by
  obtain ⟨w1, e1⟩ : ∃ w1, w.alloc (.cells #[.int .i64 W, .int .i64 H, .int .i64 D, .bool A] 23 (0, 0)) = w1 := ⟨_, rfl⟩
  obtain ⟨w1', e1'⟩ : ∃ w1', w1.alloc (.cells #[.int .i64 sw, .int .i64 sh, .slice lo n d, .int .i64 cap, .int .i64 p] 45 (0, 0)) = w1' := ⟨_, rfl⟩
  obtain ⟨w2, e2⟩ : ∃ w2, w1'.alloc (.cells #[.int .i64 0, .int .i64 0, .int .i64 0, .int .i64 0] 54 (0, 0)) = w2 := ⟨_, rfl⟩
  obtain ⟨B, eB⟩ : ∃ B, w.heap.size = B := ⟨_, rfl⟩
  have z1 : w1.heap.size = B + 1 := by rw [← e1, ← eB]; exact Array.size_push _
  have z1' : w1'.heap.size = B + 1 + 1 := by rw [← e1', ← z1]; exact Array.size_push _
  have z2 : w2.heap.size = B + 1 + 1 + 1 := by rw [← e2, ← z1']; exact Array.size_push _
  have k1' : Kept [] w w1 := by rw [← e1]; exact (Kept.refl [] w).alloc _
  have k1c : Kept [] w1 w1' := by rw [← e1']; exact (Kept.refl [] w1).alloc _
  have k2 : Kept [] w1' w2 := by rw [← e2]; exact (Kept.refl [] w1').alloc _
  have HS := Hid.mk ((k1c.trans k2).heap (show w1.heap[B]? = some (.cells #[.int .i64 W, .int .i64 H, .int .i64 D, .bool A] 23 (0, 0)) by rw [← e1, ← eB]; exact heap_alloc_new _ _) (by simp))
  have HC := Hid.mk (k2.heap (show w1'.heap[B + 1]? = some (.cells #[.int .i64 sw, .int .i64 sh, .slice lo n d, .int .i64 cap, .int .i64 p] 45 (0, 0)) by rw [← e1', ← z1]; exact heap_alloc_new _ _) (by simp))
  have HR := Hid.mk (show w2.heap[B + 1 + 1]? = some (.cells #[.int .i64 0, .int .i64 0, .int .i64 0, .int .i64 0] 54 (0, 0)) by rw [← e2, ← z1']; exact heap_alloc_new _ _)
  have K2 := Hid.mk ((k1'.trans k1c).trans k2)
  clear k1' k1c k2
  have C1 : Hid (∀ u, Calls Tryz.prog 13 #[Tl.shv W H D A, cfv sw sh lo n d cap p] u fun e w' => e = .returned (.tuple #[.int .i64 c, .int .i64 (c * r)]) ∧ Kept [] u w') := Hid.mk (fun u => tgrid_any W H D A sw sh lo n d cap p c r u g hc hr)
  have hx := Tl.sX_in g k
  have hy := Tl.sY_in g k0 k1
  have cn : c ≠ 0 := by have := g.c0; omega
  have hcr : c * r ≤ 65536 := Int.mul_le_mul (a := c) (b := r) (c := 256) (d := 256) g.c1 g.r1 (by have := g.r0; omega) (by omega)
  have i1 : 0 ≤ k % c * sw ∧ k % c * sw ≤ 4096 := by have h1 := hx.1; have h2 := hx.2.1; have h3 := g.w1; unfold Tl.sX at h1 h2; omega
  have i2 : 0 ≤ k / c * sh ∧ k / c * sh ≤ 4096 := by have h1 := hy.1; have h2 := hy.2; have h3 := g.h1; unfold Tl.sY at h1 h2; omega
  have i3 : 0 ≤ k / c ∧ k / c ≤ 65536 := ⟨Int.ediv_nonneg k0 (show 0 ≤ c by have := g.c0; omega), by have := Int.ediv_le_self c k0; omega⟩
  have q1 : wrap64 (k % c * sw) = Tl.sX c sw k := Tl.w64_in (by omega) (by omega)
  have q1' : IntKind.i64.wrap (k % c * sw) = Tl.sX c sw k := Tl.wrap_i (by omega) (by omega)
  have q2 : wrap64 (k / c * sh) = Tl.sY c sh k := Tl.w64_in (by omega) (by omega)
  have q2' : IntKind.i64.wrap (k / c * sh) = Tl.sY c sh k := Tl.wrap_i (by omega) (by omega)
  have q3 : wrap64 (k.tdiv c) = k / c := by
    rw [Int.tdiv_eq_ediv_of_nonneg k0]
    exact Tl.w64_in (by omega) (by omega)
  have q3' : IntKind.i64.wrap (k.tdiv c) = k / c := by
    rw [Int.tdiv_eq_ediv_of_nonneg k0]
    exact Tl.wrap_i (by omega) (by omega)
  have q4 : k.tmod c = k % c := Int.tmod_eq_emod_of_nonneg k0
  have NB : Hid (0 ≤ Tl.sX c sw k ∧ Tl.sX c sw k < W ∧ W ≤ 4096 ∧ 0 ≤ Tl.sY c sh k ∧ Tl.sY c sh k < H ∧ H ≤ 4096 ∧ 16 ≤ sw ∧ sw ≤ 4096 ∧ 16 ≤ sh ∧ sh ≤ 4096) := Hid.mk ⟨hx.1, hx.2.1, g.w1, hy.1, hy.2, g.h1, g.s0, g.s1, g.t0, g.t1⟩
  clear hx hy hcr g k1 hc hr i1 i2 i3
  obtain ⟨X, eX⟩ : ∃ X, Tl.sX c sw k = X := ⟨_, rfl⟩
  obtain ⟨Y, eY⟩ : ∃ Y, Tl.sY c sh k = Y := ⟨_, rfl⟩
  rw [eX] at q1 q1'
  rw [eY] at q2 q2'
  rw [eX, eY] at NB ⊢
  clear eX eY
  obtain ⟨w', ew'⟩ : ∃ x, min sw (W - X) = x := ⟨_, rfl⟩
  obtain ⟨h', eh'⟩ : ∃ x, min sh (H - Y) = x := ⟨_, rfl⟩
  rw [ew', eh']
  have EW := Hid.mk ew'
  have EH := Hid.mk eh'
  clear ew' eh'
  obtain ⟨s0, s1, s2, s3⟩ := cel4 HS.out
  obtain ⟨y0, y1, y2, y3, y4⟩ := cel5 HC.out
  go_enter Tryz.func16, Tryz.ntmps16
  go_wp2_with (fail)
  refine (C1.out _).mono ?_
  rintro e w3 ⟨rfl, hk3⟩
  have K3 := Hid.mk hk3
  clear e1 e1' e2 s0 s1 s2 s3 y0 y1 y2 y3 y4 hk3
  obtain ⟨s0, s1, s2, s3⟩ := cel4 (K3.out.heap HS.out (by simp))
  obtain ⟨y0, y1, y2, y3, y4⟩ := cel5 (K3.out.heap HC.out (by simp))
  obtain ⟨P, eP⟩ : ∃ P, w3.heap.size = P := ⟨_, rfl⟩
  have hP : B + 1 + 1 + 1 ≤ P := by
    have := K3.out.size
    omega
  go_wp2_with (fail)
  refine wp_region_held_drew (S := fun w => w.cell? ⟨B + 1, 0, none⟩ = some (.int .i64 sw) ∧ w.cell? ⟨B + 1, 1, none⟩ = some (.int .i64 sh)) (by kernel_rfl) ⟨y0, y1⟩ (fun hHeld => ?_)
  refine wpAnyH_take (i := 0) (oi := _) (v := ?_) rfl (by kernel_rfl) (by kernel_rfl) (by kernel_rfl) (fun _ _ _ h => h) (Or.inl ⟨by rfl, ?y0⟩) (by assumption) ?r0
  case y0 => (intro w hSw; obtain ⟨ha, hb⟩ := hSw; go_simp; try with_reducible rfl)
  refine wpAnyH_take (i := 1) (oi := _) (v := ?_) rfl (by kernel_rfl) (by kernel_rfl) (by kernel_rfl) (fun _ _ _ h => h) (Or.inl ⟨by rfl, ?y1⟩) (by assumption) ?r1
  case y1 => (intro w hSw; obtain ⟨ha, hb⟩ := hSw; go_simp; try with_reducible rfl)
  refine wpAnyH_take (i := 2) (oi := _) (v := ?_) rfl (by kernel_rfl) (by kernel_rfl) (by kernel_rfl) (fun _ _ _ h => h) (Or.inl ⟨by rfl, ?y2⟩) (by assumption) ?r2
  case y2 => (intro w hSw; obtain ⟨ha, hb⟩ := hSw; go_simp; try with_reducible rfl)
  refine wpAnyH_take (i := 3) (oi := _) (v := ?_) rfl (by kernel_rfl) (by kernel_rfl) (by kernel_rfl) (fun _ _ _ h => h) (Or.inl ⟨by rfl, ?y3⟩) (by assumption) ?r3
  case y3 => (intro w hSw; obtain ⟨ha, hb⟩ := hSw; go_simp; try with_reducible rfl)
  refine wpAnyH_take (i := 4) (oi := _) (v := ?_) rfl (by kernel_rfl) (by kernel_rfl) (by kernel_rfl) (fun _ _ _ h => h) (Or.inl ⟨by rfl, ?y4⟩) (by assumption) ?r4
  case y4 => (intro w hSw; obtain ⟨ha, hb⟩ := hSw; go_simp; try with_reducible rfl)
  refine wpAnyH_take (i := 5) (oi := _) (v := ?_) rfl (by kernel_rfl) (by kernel_rfl) (by kernel_rfl) (fun _ _ _ h => h) (Or.inl ⟨by rfl, ?y5⟩) (by assumption) ?r5
  case y5 => (intro w hSw; obtain ⟨ha, hb⟩ := hSw; go_simp; try with_reducible rfl)
  refine wpAnyH_take (i := 6) (oi := _) (v := ?_) rfl (by kernel_rfl) (by kernel_rfl) (by kernel_rfl) (fun _ _ _ h => h) (Or.inl ⟨by rfl, ?y6⟩) (by assumption) ?r6
  case y6 => (intro w hSw; obtain ⟨ha, hb⟩ := hSw; go_simp; try with_reducible rfl)
  refine wpAnyH_take (i := 7) (oi := _) (v := ?_) rfl (by kernel_rfl) (by kernel_rfl) (by kernel_rfl) (fun _ _ _ h => h) (Or.inl ⟨by rfl, ?y7⟩) (by assumption) ?r7
  case y7 => (intro w hSw; obtain ⟨ha, hb⟩ := hSw; go_simp; try with_reducible rfl)
  refine wpAnyH_take (i := 8) (oi := _) (v := ?_) rfl (by kernel_rfl) (by kernel_rfl) (by kernel_rfl) (fun _ _ _ h => h) (Or.inl ⟨by rfl, ?y8⟩) (by assumption) ?r8
  case y8 => (intro w hSw; obtain ⟨ha, hb⟩ := hSw; go_simp; try with_reducible rfl)
  refine wpAnyH_take (i := 9) (oi := _) (v := ?_) rfl (by kernel_rfl) (by kernel_rfl) (by kernel_rfl) (fun _ _ _ h => h) (Or.inl ⟨by rfl, ?y9⟩) (by assumption) ?r9
  case y9 => (intro w hSw; obtain ⟨ha, hb⟩ := hSw; go_simp; try with_reducible rfl)
  refine wpAnyH_take (i := 10) (oi := _) (v := ?_) rfl (by kernel_rfl) (by kernel_rfl) (by kernel_rfl) (fun _ _ _ h => h) (Or.inl ⟨by rfl, ?y10⟩) (by assumption) ?r10
  case y10 => (intro w hSw; obtain ⟨ha, hb⟩ := hSw; go_simp; try with_reducible rfl)
  refine wpAnyH_take (i := 11) (oi := _) (v := ?_) rfl (by kernel_rfl) (by kernel_rfl) (by kernel_rfl) (fun _ _ _ h => h) (Or.inl ⟨by rfl, ?y11⟩) (by assumption) ?r11
  case y11 => (intro w hSw; obtain ⟨ha, hb⟩ := hSw; go_simp; try with_reducible rfl)
  refine wpAnyH_take (i := 12) (oi := _) (v := ?_) rfl (by kernel_rfl) (by kernel_rfl) (by kernel_rfl) (fun _ _ _ h => h) (Or.inl ⟨by rfl, ?y12⟩) (by assumption) ?r12
  case y12 => (intro w hSw; obtain ⟨ha, hb⟩ := hSw; go_simp; try with_reducible rfl)
  obtain ⟨w4, e4⟩ : ∃ w4, w3.drew.alloc (.cells #[.int .i64 0, .int .i64 0, .int .i64 0, .int .i64 0] 54 (0, 0)) = w4 := ⟨_, rfl⟩
  have K4 : Hid (Kept [] w3 w4) := Hid.mk (by rw [← e4]; exact ((Kept.refl [] w3).drew).alloc _)
  have z2d : w3.drew.heap.size = P := eP
  have HQ := Hid.mk (show w4.heap[P]? = some (.cells #[.int .i64 0, .int .i64 0, .int .i64 0, .int .i64 0] 54 (0, 0)) by rw [← e4, ← z2d]; exact heap_alloc_new _ _)
  refine wpAnyH_ready (rs := [13]) (by kernel_rfl) (by simp) ?_
  refine AllReadyH.cons rfl (fun K hK => ?_) AllReadyH.nil
  go_simp
  refine hK.out _ _ (by have h := cel5 (K4.out.heap (K3.out.heap HC.out (by simp)) (by simp)); first | exact ⟨h.1, h.2.1⟩ | (rw [e4]; exact ⟨h.1, h.2.1⟩)) (fun hHeld => ?_)
  clear hK K
  refine wpAnyH_ready (rs := [14]) (by kernel_rfl) (by simp) ?_
  refine AllReadyH.cons rfl (fun K hK => ?_) AllReadyH.nil
  obtain ⟨⟨x0, x1, x2, x3⟩, f0, f1, f2, f3⟩ := Tl.four HQ.out
  try rw [e4]
  have s4 := Tl.set4 (.int .i64 X) (.int .i64 Y) (.int .i64 0) (.int .i64 0) HQ.out
  obtain ⟨w5, e5⟩ : ∃ w5, (((w4.setCell ⟨P, 0, none⟩ (.int .i64 X)).setCell ⟨P, 1, none⟩ (.int .i64 Y)).setCell ⟨P, 2, none⟩ (.int .i64 0)).setCell ⟨P, 3, none⟩ (.int .i64 0) = w5 := ⟨_, rfl⟩
  rw [e5] at s4
  have S4 := Hid.mk s4
  clear s4
  have K5 : Hid (Kept [] w3 w5) := Hid.mk (K4.out.step S4.out.2 (fun z hz => by simp at hz; subst hz; exact .inr (by omega)))
  go_simp
  refine hK.out _ _ (by have h := cel5 (K5.out.heap (K3.out.heap HC.out (by simp)) (by simp)); first | exact ⟨h.1, h.2.1⟩ | (rw [e5]; exact ⟨h.1, h.2.1⟩)) (fun hHeld => ?_)
  clear hK K
  refine wpAnyH_done (by kernel_rfl) ?_ _
  clear x0 x1 x2 x3 f0 f1 f2 f3 e4
  try rw [e5]
  clear e5
  have HS5 := Hid.mk (K5.out.heap (K3.out.heap HS.out (by simp)) (by simp))
  have HC5 := Hid.mk (K5.out.heap (K3.out.heap HC.out (by simp)) (by simp))
  have HR5 := Hid.mk (K5.out.heap (K3.out.heap HR.out (by simp)) (by simp))
  clear s0 s1 s2 s3 y0 y1 y2 y3 y4 q1 q1' q2 q2' q3 q3' q4 cn k0
  have m1 : wrap64 (W - X) = W - X := Tl.w64_in (by have := NB.out; omega) (by have := NB.out; omega)
  have m1' : IntKind.i64.wrap (W - X) = W - X := Tl.wrap_i (by have := NB.out; clear m1; omega) (by have := NB.out; clear m1; omega)
  have m2 : wrap64 (H - Y) = H - Y := Tl.w64_in (by have := NB.out; clear m1 m1'; omega) (by have := NB.out; clear m1 m1'; omega)
  have m2' : IntKind.i64.wrap (H - Y) = H - Y := Tl.wrap_i (by have := NB.out; clear m1 m1' m2; omega) (by have := NB.out; clear m1 m1' m2; omega)
  have m3 := EW.out
  have m4 := EH.out
  obtain ⟨s0, s1, s2, s3⟩ := cel4 HS5.out
  obtain ⟨y0, y1, y2, y3, y4⟩ := cel5 HC5.out
  obtain ⟨⟨x0, x1, x2, x3⟩, f0, f1, f2, f3⟩ := Tl.four S4.out.1
  clear s2 s3 y2 y3 y4 z2d hHeld
  obtain ⟨⟨o0, o1, o2, o3⟩, p0, p1, p2, p3⟩ := Tl.four HR5.out
  have hne1 : P ≠ B + 1 + 1 := by omega
  have hne2 : B + 1 + 1 ≠ P := by omega
  have FK : Hid (Kept [] w ((((((w5.setCell ⟨P, 2, none⟩ (.int .i64 w')).setCell ⟨P, 3, none⟩ (.int .i64 h')).setCell ⟨B + 1 + 1, 0, none⟩ (.int .i64 X)).setCell ⟨B + 1 + 1, 1, none⟩ (.int .i64 Y)).setCell ⟨B + 1 + 1, 2, none⟩ (.int .i64 w')).setCell ⟨B + 1 + 1, 3, none⟩ (.int .i64 h'))) := Hid.mk (by
    refine ((K2.out.trans K3.out).trans K5.out).step ((((((((Kept.refl [P, B + 1 + 1] w5).setCell (p := ⟨P, 2, none⟩) (.inl (by simp)) _).setCell (p := ⟨P, 3, none⟩) (.inl (by simp)) _).setCell (p := ⟨B + 1 + 1, 0, none⟩) (.inl (by simp)) _).setCell (p := ⟨B + 1 + 1, 1, none⟩) (.inl (by simp)) _).setCell (p := ⟨B + 1 + 1, 2, none⟩) (.inl (by simp)) _).setCell (p := ⟨B + 1 + 1, 3, none⟩) (.inl (by simp)) _)) (fun z hz => ?_)
    simp at hz
    rcases hz with rfl | rfl <;> exact .inr (by omega))
  have R7 : ((w5.setCell ⟨P, 2, none⟩ (.int .i64 w')).setCell ⟨P, 3, none⟩ (.int .i64 h')).heap[B + 1 + 1]? = some (.cells #[.int .i64 0, .int .i64 0, .int .i64 0, .int .i64 0] 54 (0, 0)) :=
    (((Kept.refl [P] w5).setCell (p := ⟨P, 2, none⟩) (.inl (by simp)) _).setCell (p := ⟨P, 3, none⟩) (.inl (by simp)) _).heap HR5.out (by simp; omega)
  have T9 := Hid.mk (Tl.set4 (.int .i64 X) (.int .i64 Y) (.int .i64 w') (.int .i64 h') R7)
  clear R7
  go_wp2_with (fail)
  refine bodyPost_ret (v := Tl.rcv X Y w' h') ?_ rfl ⟨by rfl, FK.out⟩
  exact results_cell_row rfl _ _ (B + 1 + 1) 54 _ (0, 0) _ rfl T9.out.1 Tryz.underlying54 rfl Tl.Tryz.info54
end Go.Proofs.YthhegomjipbdbaaGreatDoor.Pc

namespace Go.Proofs.YthhegomjipbdbaaGreatDoor.Pc
open Go.RowKit

set_option maxHeartbeats 4000000 in
set_option maxRecDepth 1000000 in
/-- Which samples of a plane belong to a rectangle of luma: a plane of chroma. -/
theorem tpart_half (W H D : Int) (A : Bool) (q x y a b : Int) (w : World) (hq : q = 1 ∨ q = 2) (hW : 0 ≤ W ∧ W ≤ 4096) (hx : 0 ≤ x ∧ x ≤ 4096) (ha : 0 ≤ a ∧ a ≤ 4096) :
    Calls Tryz.prog 40 #[Tl.shv W H D A, .int .i64 q, Tl.rcv x y a b] w fun e w' => e = .returned (.tuple #[Tl.rcv (x / 2) y ((a + 1) / 2) b, .int .i64 ((W + 1) / 2)]) ∧ Kept [] w w' := by
  obtain ⟨w1, e1⟩ : ∃ w1, w.alloc (.cells #[.int .i64 W, .int .i64 H, .int .i64 D, .bool A] 23 (0, 0)) = w1 := ⟨_, rfl⟩
  obtain ⟨w2, e2⟩ : ∃ w2, w1.alloc (.cells #[.int .i64 x, .int .i64 y, .int .i64 a, .int .i64 b] 54 (0, 0)) = w2 := ⟨_, rfl⟩
  obtain ⟨w3, e3⟩ : ∃ w3, w2.alloc (.cells #[.int .i64 0, .int .i64 0, .int .i64 0, .int .i64 0] 54 (0, 0)) = w3 := ⟨_, rfl⟩
  obtain ⟨B, eB⟩ : ∃ B, w.heap.size = B := ⟨_, rfl⟩
  have z1 : w1.heap.size = B + 1 := by rw [← e1, ← eB]; exact Array.size_push _
  have z2 : w2.heap.size = B + 1 + 1 := by rw [← e2, ← z1]; exact Array.size_push _
  have k1 : Kept [] w w1 := by rw [← e1]; exact (Kept.refl [] w).alloc _
  have k2 : Kept [] w1 w2 := by rw [← e2]; exact (Kept.refl [] w1).alloc _
  have k3 : Kept [] w2 w3 := by rw [← e3]; exact (Kept.refl [] w2).alloc _
  have HS := Hid.mk ((k2.trans k3).heap (show w1.heap[B]? = some (.cells #[.int .i64 W, .int .i64 H, .int .i64 D, .bool A] 23 (0, 0)) by rw [← e1, ← eB]; exact heap_alloc_new _ _) (by simp))
  have HC := Hid.mk (k3.heap (show w2.heap[B + 1]? = some (.cells #[.int .i64 x, .int .i64 y, .int .i64 a, .int .i64 b] 54 (0, 0)) by rw [← e2, ← z1]; exact heap_alloc_new _ _) (by simp))
  have HR := Hid.mk (show w3.heap[B + 1 + 1]? = some (.cells #[.int .i64 0, .int .i64 0, .int .i64 0, .int .i64 0] 54 (0, 0)) by rw [← e3, ← z2]; exact heap_alloc_new _ _)
  have K3 := Hid.mk ((k1.trans k2).trans k3)
  have T9 := Hid.mk (Tl.set4 (w := w3.drew) (.int .i64 (x / 2)) (.int .i64 y) (.int .i64 ((a + 1) / 2)) (.int .i64 b) HR.out)
  have FK := Hid.mk (K3.out.drew.step T9.out.2 (fun z hz => by simp at hz; subst hz; exact .inr (by omega)))
  clear k1 k2 k3
  have q1 : IntKind.i64.wrap (x.tdiv 2) = x / 2 := by rw [Int.tdiv_eq_ediv_of_nonneg (by omega)]; exact Tl.wrap_i (by omega) (by omega)
  have q1' : wrap64 (x.tdiv 2) = x / 2 := by rw [Int.tdiv_eq_ediv_of_nonneg (by omega)]; exact Tl.w64_in (by omega) (by omega)
  have q2 : IntKind.i64.wrap ((a + 1).tdiv 2) = (a + 1) / 2 := by rw [Int.tdiv_eq_ediv_of_nonneg (by omega)]; exact Tl.wrap_i (by omega) (by omega)
  have q2' : wrap64 ((a + 1).tdiv 2) = (a + 1) / 2 := by rw [Int.tdiv_eq_ediv_of_nonneg (by omega)]; exact Tl.w64_in (by omega) (by omega)
  have q3 : IntKind.i64.wrap ((W + 1).tdiv 2) = (W + 1) / 2 := by rw [Int.tdiv_eq_ediv_of_nonneg (by omega)]; exact Tl.wrap_i (by omega) (by omega)
  have q3' : wrap64 ((W + 1).tdiv 2) = (W + 1) / 2 := by rw [Int.tdiv_eq_ediv_of_nonneg (by omega)]; exact Tl.w64_in (by omega) (by omega)
  have m1 : IntKind.i64.wrap (a + 1) = a + 1 := Tl.wrap_i (by omega) (by omega)
  have m2 : IntKind.i64.wrap (W + 1) = W + 1 := Tl.wrap_i (by omega) (by omega)
  have n1 : wrap64 (a + 1) = a + 1 := Tl.w64_in (by omega) (by omega)
  have n2 : wrap64 (W + 1) = W + 1 := Tl.w64_in (by omega) (by omega)
  obtain ⟨s0, s1, s2, s3⟩ := cel4 HS.out
  obtain ⟨y0, y1, y2, y3⟩ := cel4 HC.out
  obtain ⟨⟨o0, o1, o2, o3⟩, p0, p1, p2, p3⟩ := Tl.four HR.out
  clear hW hx ha s1 s2 s3
  rcases hq with rfl | rfl
  · go_enter Tryz.func40, Tryz.ntmps40
    go_wp2_with (fail)
    refine wp_region_held_drew (S := fun w => w.cell? ⟨B, 0, none⟩ = some (.int .i64 W) ∧ w.cell? ⟨B + 1, 0, none⟩ = some (.int .i64 x) ∧ w.cell? ⟨B + 1, 1, none⟩ = some (.int .i64 y) ∧ w.cell? ⟨B + 1, 2, none⟩ = some (.int .i64 a) ∧ w.cell? ⟨B + 1, 3, none⟩ = some (.int .i64 b)) (by kernel_rfl) ⟨s0, y0, y1, y2, y3⟩ (fun hHeld => ?_)
    refine wpAnyH_take (i := 0) (oi := _) (v := ?_) rfl (by kernel_rfl) (by kernel_rfl) (by kernel_rfl) (fun _ _ _ h => h) (Or.inl ⟨by rfl, ?y0⟩) (by assumption) ?r0
    case y0 => (intro w hSw; obtain ⟨h0, h1, h2, h3, h4⟩ := hSw; go_simp; try with_reducible rfl)
    refine wpAnyH_take (i := 1) (oi := _) (v := ?_) rfl (by kernel_rfl) (by kernel_rfl) (by kernel_rfl) (fun _ _ _ h => h) (Or.inl ⟨by rfl, ?y1⟩) (by assumption) ?r1
    case y1 => (intro w hSw; obtain ⟨h0, h1, h2, h3, h4⟩ := hSw; go_simp; try with_reducible rfl)
    refine wpAnyH_take (i := 2) (oi := _) (v := ?_) rfl (by kernel_rfl) (by kernel_rfl) (by kernel_rfl) (fun _ _ _ h => h) (Or.inl ⟨by rfl, ?y2⟩) (by assumption) ?r2
    case y2 => (intro w hSw; obtain ⟨h0, h1, h2, h3, h4⟩ := hSw; go_simp; try with_reducible rfl)
    refine wpAnyH_take (i := 3) (oi := _) (v := ?_) rfl (by kernel_rfl) (by kernel_rfl) (by kernel_rfl) (fun _ _ _ h => h) (Or.inl ⟨by rfl, ?y3⟩) (by assumption) ?r3
    case y3 => (intro w hSw; obtain ⟨h0, h1, h2, h3, h4⟩ := hSw; go_simp; try with_reducible rfl)
    refine wpAnyH_take (i := 4) (oi := _) (v := ?_) rfl (by kernel_rfl) (by kernel_rfl) (by kernel_rfl) (fun _ _ _ h => h) (Or.inl ⟨by rfl, ?y4⟩) (by assumption) ?r4
    case y4 => (intro w hSw; obtain ⟨h0, h1, h2, h3, h4⟩ := hSw; go_simp; try with_reducible rfl)
    refine wpAnyH_take (i := 5) (oi := _) (v := ?_) rfl (by kernel_rfl) (by kernel_rfl) (by kernel_rfl) (fun _ _ _ h => h) (Or.inl ⟨by rfl, ?y5⟩) (by assumption) ?r5
    case y5 => (intro w hSw; obtain ⟨h0, h1, h2, h3, h4⟩ := hSw; go_simp; try with_reducible rfl)
    refine wpAnyH_take (i := 6) (oi := _) (v := ?_) rfl (by kernel_rfl) (by kernel_rfl) (by kernel_rfl) (fun _ _ _ h => h) (Or.inl ⟨by rfl, ?y6⟩) (by assumption) ?r6
    case y6 => (intro w hSw; obtain ⟨h0, h1, h2, h3, h4⟩ := hSw; go_simp; try with_reducible rfl)
    refine wpAnyH_take (i := 7) (oi := _) (v := ?_) rfl (by kernel_rfl) (by kernel_rfl) (by kernel_rfl) (fun _ _ _ h => h) (Or.inl ⟨by rfl, ?y7⟩) (by assumption) ?r7
    case y7 => (intro w hSw; obtain ⟨h0, h1, h2, h3, h4⟩ := hSw; go_simp; try with_reducible rfl)
    refine wpAnyH_take (i := 8) (oi := _) (v := ?_) rfl (by kernel_rfl) (by kernel_rfl) (by kernel_rfl) (fun _ _ _ h => h) (Or.inl ⟨by rfl, ?y8⟩) (by assumption) ?r8
    case y8 => (intro w hSw; obtain ⟨h0, h1, h2, h3, h4⟩ := hSw; go_simp; try with_reducible rfl)
    refine wpAnyH_take (i := 9) (oi := _) (v := ?_) rfl (by kernel_rfl) (by kernel_rfl) (by kernel_rfl) (fun _ _ _ h => h) (Or.inl ⟨by rfl, ?y9⟩) (by assumption) ?r9
    case y9 => (intro w hSw; obtain ⟨h0, h1, h2, h3, h4⟩ := hSw; go_simp; try with_reducible rfl)
    refine wpAnyH_take (i := 10) (oi := _) (v := ?_) rfl (by kernel_rfl) (by kernel_rfl) (by kernel_rfl) (fun _ _ _ h => h) (Or.inl ⟨by rfl, ?y10⟩) (by assumption) ?r10
    case y10 => (intro w hSw; obtain ⟨h0, h1, h2, h3, h4⟩ := hSw; go_simp; try with_reducible rfl)
    refine wpAnyH_take (i := 11) (oi := _) (v := ?_) rfl (by kernel_rfl) (by kernel_rfl) (by kernel_rfl) (fun _ _ _ h => h) (Or.inl ⟨by rfl, ?y11⟩) (by assumption) ?r11
    case y11 => (intro w hSw; obtain ⟨h0, h1, h2, h3, h4⟩ := hSw; go_simp; try with_reducible rfl)
    refine wpAnyH_take (i := 12) (oi := _) (v := ?_) rfl (by kernel_rfl) (by kernel_rfl) (by kernel_rfl) (fun _ _ _ h => h) (Or.inl ⟨by rfl, ?y12⟩) (by assumption) ?r12
    case y12 => (intro w hSw; obtain ⟨h0, h1, h2, h3, h4⟩ := hSw; go_simp; try with_reducible rfl)
    refine wpAnyH_take (i := 13) (oi := _) (v := ?_) rfl (by kernel_rfl) (by kernel_rfl) (by kernel_rfl) (fun _ _ _ h => h) (Or.inl ⟨by rfl, ?y13⟩) (by assumption) ?r13
    case y13 => (intro w hSw; obtain ⟨h0, h1, h2, h3, h4⟩ := hSw; go_simp; try with_reducible rfl)
    refine wpAnyH_take (i := 14) (oi := _) (v := ?_) rfl (by kernel_rfl) (by kernel_rfl) (by kernel_rfl) (fun _ _ _ h => h) (Or.inl ⟨by rfl, ?y14⟩) (by assumption) ?r14
    case y14 => (intro w hSw; obtain ⟨h0, h1, h2, h3, h4⟩ := hSw; go_simp; try with_reducible rfl)
    refine wpAnyH_take (i := 15) (oi := _) (v := ?_) rfl (by kernel_rfl) (by kernel_rfl) (by kernel_rfl) (fun _ _ _ h => h) (Or.inl ⟨by rfl, ?y15⟩) (by assumption) ?r15
    case y15 => (intro w hSw; obtain ⟨h0, h1, h2, h3, h4⟩ := hSw; go_simp; try with_reducible rfl)
    refine wpAnyH_ready (rs := [16]) (by kernel_rfl) (by simp) ?_
    refine AllReadyH.cons rfl (fun K hK => ?_) AllReadyH.nil
    go_simp
    refine hK.out _ _ ?SS (fun hHeld => ?_)
    case SS => (have h := FK.out; have u := cel4 ((show Kept [B + 1 + 1] w3 _ from ((Kept.refl [B + 1 + 1] w3).drew).trans T9.out.2).heap HS.out (by simp <;> omega)); have v := cel4 ((show Kept [B + 1 + 1] w3 _ from ((Kept.refl [B + 1 + 1] w3).drew).trans T9.out.2).heap HC.out (by simp <;> omega)); exact ⟨u.1, v⟩)
    clear hK K
    refine wpAnyH_ready (rs := [17]) (by kernel_rfl) (by simp) ?_
    refine AllReadyH.cons rfl (fun K hK => ?_) AllReadyH.nil
    go_simp
    refine hK.out _ _ ?SS2 (fun hHeld => ?_)
    case SS2 => (have h := FK.out; have u := cel4 ((show Kept [B + 1 + 1] w3 _ from ((Kept.refl [B + 1 + 1] w3).drew).trans T9.out.2).heap HS.out (by simp <;> omega)); have v := cel4 ((show Kept [B + 1 + 1] w3 _ from ((Kept.refl [B + 1 + 1] w3).drew).trans T9.out.2).heap HC.out (by simp <;> omega)); exact ⟨u.1, v⟩)
    clear hK K
    refine wpAnyH_done (by kernel_rfl) ?_ _
    go_wp2
    refine bodyPost_ret (v := .tuple #[Tl.rcv (x / 2) y ((a + 1) / 2) b, .int .i64 ((W + 1) / 2)]) ?_ rfl ⟨by rfl, FK.out⟩
    exact Tl.results_two rfl _ _ (B + 1 + 1) 54 _ (0, 0) _ _ rfl T9.out.1 Tryz.underlying54 Tl.Tryz.info54 rfl
  · go_enter Tryz.func40, Tryz.ntmps40
    go_wp2_with (fail)
    refine wp_region_held_drew (S := fun w => w.cell? ⟨B, 0, none⟩ = some (.int .i64 W) ∧ w.cell? ⟨B + 1, 0, none⟩ = some (.int .i64 x) ∧ w.cell? ⟨B + 1, 1, none⟩ = some (.int .i64 y) ∧ w.cell? ⟨B + 1, 2, none⟩ = some (.int .i64 a) ∧ w.cell? ⟨B + 1, 3, none⟩ = some (.int .i64 b)) (by kernel_rfl) ⟨s0, y0, y1, y2, y3⟩ (fun hHeld => ?_)
    refine wpAnyH_take (i := 0) (oi := _) (v := ?_) rfl (by kernel_rfl) (by kernel_rfl) (by kernel_rfl) (fun _ _ _ h => h) (Or.inl ⟨by rfl, ?ya0⟩) (by assumption) ?ra0
    case ya0 => (intro w hSw; obtain ⟨h0, h1, h2, h3, h4⟩ := hSw; go_simp; try with_reducible rfl)
    refine wpAnyH_take (i := 1) (oi := _) (v := ?_) rfl (by kernel_rfl) (by kernel_rfl) (by kernel_rfl) (fun _ _ _ h => h) (Or.inl ⟨by rfl, ?ya1⟩) (by assumption) ?ra1
    case ya1 => (intro w hSw; obtain ⟨h0, h1, h2, h3, h4⟩ := hSw; go_simp; try with_reducible rfl)
    refine wpAnyH_take (i := 2) (oi := _) (v := ?_) rfl (by kernel_rfl) (by kernel_rfl) (by kernel_rfl) (fun _ _ _ h => h) (Or.inl ⟨by rfl, ?ya2⟩) (by assumption) ?ra2
    case ya2 => (intro w hSw; obtain ⟨h0, h1, h2, h3, h4⟩ := hSw; go_simp; try with_reducible rfl)
    refine wpAnyH_take (i := 3) (oi := _) (v := ?_) rfl (by kernel_rfl) (by kernel_rfl) (by kernel_rfl) (fun _ _ _ h => h) (Or.inl ⟨by rfl, ?ya3⟩) (by assumption) ?ra3
    case ya3 => (intro w hSw; obtain ⟨h0, h1, h2, h3, h4⟩ := hSw; go_simp; try with_reducible rfl)
    refine wpAnyH_take (i := 4) (oi := _) (v := ?_) rfl (by kernel_rfl) (by kernel_rfl) (by kernel_rfl) (fun _ _ _ h => h) (Or.inl ⟨by rfl, ?ya4⟩) (by assumption) ?ra4
    case ya4 => (intro w hSw; obtain ⟨h0, h1, h2, h3, h4⟩ := hSw; go_simp; try with_reducible rfl)
    refine wpAnyH_take (i := 5) (oi := _) (v := ?_) rfl (by kernel_rfl) (by kernel_rfl) (by kernel_rfl) (fun _ _ _ h => h) (Or.inl ⟨by rfl, ?ya5⟩) (by assumption) ?ra5
    case ya5 => (intro w hSw; obtain ⟨h0, h1, h2, h3, h4⟩ := hSw; go_simp; try with_reducible rfl)
    refine wpAnyH_take (i := 6) (oi := _) (v := ?_) rfl (by kernel_rfl) (by kernel_rfl) (by kernel_rfl) (fun _ _ _ h => h) (Or.inl ⟨by rfl, ?ya6⟩) (by assumption) ?ra6
    case ya6 => (intro w hSw; obtain ⟨h0, h1, h2, h3, h4⟩ := hSw; go_simp; try with_reducible rfl)
    refine wpAnyH_take (i := 7) (oi := _) (v := ?_) rfl (by kernel_rfl) (by kernel_rfl) (by kernel_rfl) (fun _ _ _ h => h) (Or.inl ⟨by rfl, ?ya7⟩) (by assumption) ?ra7
    case ya7 => (intro w hSw; obtain ⟨h0, h1, h2, h3, h4⟩ := hSw; go_simp; try with_reducible rfl)
    refine wpAnyH_take (i := 8) (oi := _) (v := ?_) rfl (by kernel_rfl) (by kernel_rfl) (by kernel_rfl) (fun _ _ _ h => h) (Or.inl ⟨by rfl, ?ya8⟩) (by assumption) ?ra8
    case ya8 => (intro w hSw; obtain ⟨h0, h1, h2, h3, h4⟩ := hSw; go_simp; try with_reducible rfl)
    refine wpAnyH_take (i := 9) (oi := _) (v := ?_) rfl (by kernel_rfl) (by kernel_rfl) (by kernel_rfl) (fun _ _ _ h => h) (Or.inl ⟨by rfl, ?ya9⟩) (by assumption) ?ra9
    case ya9 => (intro w hSw; obtain ⟨h0, h1, h2, h3, h4⟩ := hSw; go_simp; try with_reducible rfl)
    refine wpAnyH_take (i := 10) (oi := _) (v := ?_) rfl (by kernel_rfl) (by kernel_rfl) (by kernel_rfl) (fun _ _ _ h => h) (Or.inl ⟨by rfl, ?ya10⟩) (by assumption) ?ra10
    case ya10 => (intro w hSw; obtain ⟨h0, h1, h2, h3, h4⟩ := hSw; go_simp; try with_reducible rfl)
    refine wpAnyH_take (i := 11) (oi := _) (v := ?_) rfl (by kernel_rfl) (by kernel_rfl) (by kernel_rfl) (fun _ _ _ h => h) (Or.inl ⟨by rfl, ?ya11⟩) (by assumption) ?ra11
    case ya11 => (intro w hSw; obtain ⟨h0, h1, h2, h3, h4⟩ := hSw; go_simp; try with_reducible rfl)
    refine wpAnyH_take (i := 12) (oi := _) (v := ?_) rfl (by kernel_rfl) (by kernel_rfl) (by kernel_rfl) (fun _ _ _ h => h) (Or.inl ⟨by rfl, ?ya12⟩) (by assumption) ?ra12
    case ya12 => (intro w hSw; obtain ⟨h0, h1, h2, h3, h4⟩ := hSw; go_simp; try with_reducible rfl)
    refine wpAnyH_take (i := 13) (oi := _) (v := ?_) rfl (by kernel_rfl) (by kernel_rfl) (by kernel_rfl) (fun _ _ _ h => h) (Or.inl ⟨by rfl, ?ya13⟩) (by assumption) ?ra13
    case ya13 => (intro w hSw; obtain ⟨h0, h1, h2, h3, h4⟩ := hSw; go_simp; try with_reducible rfl)
    refine wpAnyH_take (i := 14) (oi := _) (v := ?_) rfl (by kernel_rfl) (by kernel_rfl) (by kernel_rfl) (fun _ _ _ h => h) (Or.inl ⟨by rfl, ?ya14⟩) (by assumption) ?ra14
    case ya14 => (intro w hSw; obtain ⟨h0, h1, h2, h3, h4⟩ := hSw; go_simp; try with_reducible rfl)
    refine wpAnyH_take (i := 15) (oi := _) (v := ?_) rfl (by kernel_rfl) (by kernel_rfl) (by kernel_rfl) (fun _ _ _ h => h) (Or.inl ⟨by rfl, ?ya15⟩) (by assumption) ?ra15
    case ya15 => (intro w hSw; obtain ⟨h0, h1, h2, h3, h4⟩ := hSw; go_simp; try with_reducible rfl)
    refine wpAnyH_ready (rs := [16]) (by kernel_rfl) (by simp) ?_
    refine AllReadyH.cons rfl (fun K hK => ?_) AllReadyH.nil
    go_simp
    refine hK.out _ _ ?SB (fun hHeld => ?_)
    case SB => (have h := FK.out; have u := cel4 ((show Kept [B + 1 + 1] w3 _ from ((Kept.refl [B + 1 + 1] w3).drew).trans T9.out.2).heap HS.out (by simp <;> omega)); have v := cel4 ((show Kept [B + 1 + 1] w3 _ from ((Kept.refl [B + 1 + 1] w3).drew).trans T9.out.2).heap HC.out (by simp <;> omega)); exact ⟨u.1, v⟩)
    clear hK K
    refine wpAnyH_ready (rs := [17]) (by kernel_rfl) (by simp) ?_
    refine AllReadyH.cons rfl (fun K hK => ?_) AllReadyH.nil
    go_simp
    refine hK.out _ _ ?SB2 (fun hHeld => ?_)
    case SB2 => (have h := FK.out; have u := cel4 ((show Kept [B + 1 + 1] w3 _ from ((Kept.refl [B + 1 + 1] w3).drew).trans T9.out.2).heap HS.out (by simp <;> omega)); have v := cel4 ((show Kept [B + 1 + 1] w3 _ from ((Kept.refl [B + 1 + 1] w3).drew).trans T9.out.2).heap HC.out (by simp <;> omega)); exact ⟨u.1, v⟩)
    clear hK K
    refine wpAnyH_done (by kernel_rfl) ?_ _
    go_wp2
    refine bodyPost_ret (v := .tuple #[Tl.rcv (x / 2) y ((a + 1) / 2) b, .int .i64 ((W + 1) / 2)]) ?_ rfl ⟨by rfl, FK.out⟩
    exact Tl.results_two rfl _ _ (B + 1 + 1) 54 _ (0, 0) _ _ rfl T9.out.1 Tryz.underlying54 Tl.Tryz.info54 rfl

set_option maxHeartbeats 4000000 in
set_option maxRecDepth 1000000 in
/-- Which samples of a plane belong to a rectangle of luma: another. -/
theorem tpart_full (W H D : Int) (A : Bool) (q x y a b : Int) (w : World) (h1 : q ≠ 1) (h2 : q ≠ 2) :
    Calls Tryz.prog 40 #[Tl.shv W H D A, .int .i64 q, Tl.rcv x y a b] w fun e w' => e = .returned (.tuple #[Tl.rcv x y a b, .int .i64 W]) ∧ Kept [] w w' := by
  obtain ⟨w1, e1⟩ : ∃ w1, w.alloc (.cells #[.int .i64 W, .int .i64 H, .int .i64 D, .bool A] 23 (0, 0)) = w1 := ⟨_, rfl⟩
  obtain ⟨w2, e2⟩ : ∃ w2, w1.alloc (.cells #[.int .i64 x, .int .i64 y, .int .i64 a, .int .i64 b] 54 (0, 0)) = w2 := ⟨_, rfl⟩
  obtain ⟨w3, e3⟩ : ∃ w3, w2.alloc (.cells #[.int .i64 0, .int .i64 0, .int .i64 0, .int .i64 0] 54 (0, 0)) = w3 := ⟨_, rfl⟩
  obtain ⟨B, eB⟩ : ∃ B, w.heap.size = B := ⟨_, rfl⟩
  have z1 : w1.heap.size = B + 1 := by rw [← e1, ← eB]; exact Array.size_push _
  have z2 : w2.heap.size = B + 1 + 1 := by rw [← e2, ← z1]; exact Array.size_push _
  have k1 : Kept [] w w1 := by rw [← e1]; exact (Kept.refl [] w).alloc _
  have k2 : Kept [] w1 w2 := by rw [← e2]; exact (Kept.refl [] w1).alloc _
  have k3 : Kept [] w2 w3 := by rw [← e3]; exact (Kept.refl [] w2).alloc _
  have HS := Hid.mk ((k2.trans k3).heap (show w1.heap[B]? = some (.cells #[.int .i64 W, .int .i64 H, .int .i64 D, .bool A] 23 (0, 0)) by rw [← e1, ← eB]; exact heap_alloc_new _ _) (by simp))
  have HC := Hid.mk (k3.heap (show w2.heap[B + 1]? = some (.cells #[.int .i64 x, .int .i64 y, .int .i64 a, .int .i64 b] 54 (0, 0)) by rw [← e2, ← z1]; exact heap_alloc_new _ _) (by simp))
  have HR := Hid.mk (show w3.heap[B + 1 + 1]? = some (.cells #[.int .i64 0, .int .i64 0, .int .i64 0, .int .i64 0] 54 (0, 0)) by rw [← e3, ← z2]; exact heap_alloc_new _ _)
  have K3 := Hid.mk ((k1.trans k2).trans k3)
  have T9 := Hid.mk (Tl.set4 (w := w3.drew) (.int .i64 x) (.int .i64 y) (.int .i64 a) (.int .i64 b) HR.out)
  have FK := Hid.mk (K3.out.drew.step T9.out.2 (fun z hz => by simp at hz; subst hz; exact .inr (by omega)))
  clear k1 k2 k3
  have g1 : (q == 1) = false := by simpa using h1
  have g2 : (q == 2) = false := by simpa using h2
  clear h1 h2
  obtain ⟨s0, s1, s2, s3⟩ := cel4 HS.out
  obtain ⟨y0, y1, y2, y3⟩ := cel4 HC.out
  obtain ⟨⟨o0, o1, o2, o3⟩, p0, p1, p2, p3⟩ := Tl.four HR.out
  clear s1 s2 s3
  go_enter Tryz.func40, Tryz.ntmps40
  go_wp2_with (fail)
  refine wp_region_held_drew (S := fun w => w.cell? ⟨B, 0, none⟩ = some (.int .i64 W) ∧ w.cell? ⟨B + 1, 0, none⟩ = some (.int .i64 x) ∧ w.cell? ⟨B + 1, 1, none⟩ = some (.int .i64 y) ∧ w.cell? ⟨B + 1, 2, none⟩ = some (.int .i64 a) ∧ w.cell? ⟨B + 1, 3, none⟩ = some (.int .i64 b)) (by kernel_rfl) ⟨s0, y0, y1, y2, y3⟩ (fun hHeld => ?_)
  refine wpAnyH_take (i := 0) (oi := _) (v := ?_) rfl (by kernel_rfl) (by kernel_rfl) (by kernel_rfl) (fun _ _ _ h => h) (Or.inl ⟨by rfl, ?y0⟩) (by assumption) ?r0
  case y0 => (intro w hSw; obtain ⟨h0, h1, h2, h3, h4⟩ := hSw; go_simp; try with_reducible rfl)
  refine wpAnyH_take (i := 1) (oi := _) (v := ?_) rfl (by kernel_rfl) (by kernel_rfl) (by kernel_rfl) (fun _ _ _ h => h) (Or.inl ⟨by rfl, ?y1⟩) (by assumption) ?r1
  case y1 => (intro w hSw; obtain ⟨h0, h1, h2, h3, h4⟩ := hSw; go_simp; try with_reducible rfl)
  refine wpAnyH_take (i := 2) (oi := _) (v := ?_) rfl (by kernel_rfl) (by kernel_rfl) (by kernel_rfl) (fun _ _ _ h => h) (Or.inl ⟨by rfl, ?y2⟩) (by assumption) ?r2
  case y2 => (intro w hSw; obtain ⟨h0, h1, h2, h3, h4⟩ := hSw; go_simp; try with_reducible rfl)
  refine wpAnyH_ready (rs := [3]) (by kernel_rfl) (by simp) ?_
  refine AllReadyH.cons rfl (fun K hK => ?_) AllReadyH.nil
  go_simp
  refine hK.out _ _ ?SS (fun hHeld => ?_)
  case SS => (have h := FK.out; have u := cel4 ((show Kept [B + 1 + 1] w3 _ from ((Kept.refl [B + 1 + 1] w3).drew).trans T9.out.2).heap HS.out (by simp <;> omega)); have v := cel4 ((show Kept [B + 1 + 1] w3 _ from ((Kept.refl [B + 1 + 1] w3).drew).trans T9.out.2).heap HC.out (by simp <;> omega)); exact ⟨u.1, v⟩)
  clear hK K
  refine wpAnyH_ready (rs := [4]) (by kernel_rfl) (by simp) ?_
  refine AllReadyH.cons rfl (fun K hK => ?_) AllReadyH.nil
  go_simp
  refine hK.out _ _ ?SS2 (fun hHeld => ?_)
  case SS2 => (have h := FK.out; have u := cel4 ((show Kept [B + 1 + 1] w3 _ from ((Kept.refl [B + 1 + 1] w3).drew).trans T9.out.2).heap HS.out (by simp <;> omega)); have v := cel4 ((show Kept [B + 1 + 1] w3 _ from ((Kept.refl [B + 1 + 1] w3).drew).trans T9.out.2).heap HC.out (by simp <;> omega)); exact ⟨u.1, v⟩)
  clear hK K
  refine wpAnyH_done (by kernel_rfl) ?_ _
  go_wp2
  refine bodyPost_ret (v := .tuple #[Tl.rcv x y a b, .int .i64 W]) ?_ rfl ⟨by rfl, FK.out⟩
  exact Tl.results_two rfl _ _ (B + 1 + 1) 54 _ (0, 0) _ _ rfl T9.out.1 Tryz.underlying54 Tl.Tryz.info54 rfl
end Go.Proofs.YthhegomjipbdbaaGreatDoor.Pc
