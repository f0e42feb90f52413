import Derived.Test.YtkjhegedkamjaaaA7
import Derived.Deep.RegionHeldLaw
namespace Go.Proofs.Ytkjhegedkamjaaa
open Go.RowKit

/-- A number by another one, rounded up. -/
def cl (a b : Int) : Int := (a + b - 1) / b
/-- A grid's numbers. -/
structure Gd (W H sw sh c r : Int) : Prop where
  w0 : 1 ≤ W
  w1 : W ≤ 4096
  h0 : 1 ≤ H
  h1 : H ≤ 4096
  s0 : 16 ≤ sw
  s1 : sw ≤ 4096
  se : sw % 2 = 0
  t0 : 16 ≤ sh
  t1 : sh ≤ 4096
  c0 : 1 ≤ c
  c1 : c ≤ 256
  r0 : 1 ≤ r
  r1 : r ≤ 256
  cw : (c - 1) * sw < W
  cx : W ≤ c * sw
  rh : (r - 1) * sh < H
  rx : H ≤ r * sh
theorem cl_lo {a b : Int} (h : 1 ≤ a) (h2 : 16 ≤ b) : 1 ≤ cl a b := by
  unfold cl
  exact Int.le_ediv_of_mul_le (by omega) (by omega)
theorem cl_hi {a b : Int} (h1 : a ≤ 4096) (h2 : 16 ≤ b) : cl a b ≤ 256 := by
  unfold cl
  have : (a + b - 1) / b < 257 := Int.ediv_lt_of_lt_mul (by omega) (by omega)
  omega
theorem cl_lt {a b : Int} (h2 : 16 ≤ b) : (cl a b - 1) * b < a := by
  unfold cl
  have h := Int.ediv_mul_le (a + b - 1) (b := b) (by omega)
  rw [Int.sub_mul]; omega
theorem cl_le {a b : Int} (h2 : 16 ≤ b) : a ≤ cl a b * b := by
  unfold cl
  have h := Int.lt_ediv_add_one_mul_self (a + b - 1) (b := b) (by omega)
  rw [Int.add_mul] at h; omega
theorem Gd.of {W H sw sh : Int} (w0 : 1 ≤ W) (w1 : W ≤ 4096) (h0 : 1 ≤ H) (h1 : H ≤ 4096) (s0 : 16 ≤ sw) (s1 : sw ≤ 4096) (se : sw % 2 = 0) (t0 : 16 ≤ sh) (t1 : sh ≤ 4096) : Gd W H sw sh (cl W sw) (cl H sh) :=
  ⟨w0, w1, h0, h1, s0, s1, se, t0, t1, cl_lo w0 s0, cl_hi w1 s0, cl_lo h0 t0, cl_hi h1 t0, cl_lt s0, cl_le s0, cl_lt t0, cl_le t0⟩

set_option maxHeartbeats 4000000 in
set_option maxRecDepth 1000000 in
theorem parts_any (a b : Int) (w : World) (a0 : 1 ≤ a) (a1 : a ≤ 4096) (b0 : 16 ≤ b) (b1 : b ≤ 4096) : Calls Try.prog 28 #[.int .i64 a, .int .i64 b] w fun e w' => e = .returned (.int .i64 (cl a b)) ∧ w' = w := by
  have hw : IntKind.i64.wrap ((a + b - 1).tdiv b) = cl a b := by
    rw [Int.tdiv_eq_ediv_of_nonneg (by omega)]
    have h0 := cl_lo a0 b0
    have h1 := cl_hi a1 b0
    unfold cl at h0 h1 ⊢
    exact wrap_i (by omega) (by omega)
  have hb : b ≠ 0 := by omega
  go_enter Try.func28, Try.ntmps28
  go_wp2
  go_ret
  exact ⟨by first | rfl | (rw [hw]) | (exact ret_int (by first | exact hw | (simp; done))), rfl⟩

set_option maxHeartbeats 4000000 in
theorem tsided_any (x : Int) (w : World) : Calls Try.prog 27 #[.int .i64 x] w fun e w' => e = .returned (.bool (decide (16 ≤ x ∧ x ≤ 4096))) ∧ w' = w := by
  by_cases h : 16 ≤ x
  · go_enter Try.func27, Try.ntmps27
    go_wp2
    go_ret
    exact ⟨ret_bool (by simp; try omega), rfl⟩
  · go_enter Try.func27, Try.ntmps27
    go_wp2
    go_ret
    exact ⟨ret_bool (by simp; try omega), rfl⟩

/-- Which of n things a raw number speaks of. -/
def pick (c n : Int) : Int := if c < 0 then (-(c + 1)) % n else c % n
theorem pick_lo (c n : Int) (h : 0 < n) : 0 ≤ pick c n := by
  unfold pick; split <;> exact Int.emod_nonneg _ (by omega)
theorem pick_hi (c n : Int) (h : 0 < n) : pick c n < n := by
  unfold pick; split <;> exact Int.emod_lt_of_pos _ h

set_option maxHeartbeats 1000000 in
theorem pick_any (c n : Int) (w : World) (c0 : -9223372036854775808 ≤ c) (c1 : c ≤ 9223372036854775807) (h : 0 < n) :
    Calls Try.prog 11 #[.int .i64 c, .int .i64 n] w fun e w' => e = .returned (.int .i64 (pick c n)) ∧ w' = w := by
  by_cases hc : c < 0
  · go_enter Try.func11, Try.ntmps11
    go_wp2
    go_ret
    exact ⟨ret_int (by unfold pick; rw [if_pos hc, ← Int.neg_tmod, Int.tmod_eq_emod_of_nonneg (by omega)]), rfl⟩
  · go_enter Try.func11, Try.ntmps11
    go_wp2
    go_ret
    exact ⟨ret_int (by unfold pick; rw [if_neg (by omega)]), rfl⟩

/-- A grid in memory. -/
def Gr (w : World) (P : Nat) (W H D : Int) (A : Bool) (sw sh c r : Int) : Prop :=
  w.heap[P]? = some (.cells #[.int .i64 W, .int .i64 H, .int .i64 D, .bool A, .int .i64 sw, .int .i64 sh, .int .i64 c, .int .i64 r] 78 (0, 0))
theorem Gr.keep {w w' : World} {P : Nat} {W H D sw sh c r : Int} {A : Bool} {ks : List Nat} (h : Gr w P W H D A sw sh c r) (hk : Kept ks w w') (hn : P ∉ ks) : Gr w' P W H D A sw sh c r := hk.heap h hn
theorem eight {w : World} {B t : Nat} {a b c d e f g h : Value} (hh : w.heap[B]? = some (.cells #[a, b, c, d, e, f, g, h] t (0, 0))) :
    w.cell? ⟨B, 0, none⟩ = some a ∧ w.cell? ⟨B, 1, none⟩ = some b ∧ w.cell? ⟨B, 2, none⟩ = some c ∧ w.cell? ⟨B, 3, none⟩ = some d ∧ w.cell? ⟨B, 4, none⟩ = some e ∧ w.cell? ⟨B, 5, none⟩ = some f ∧ w.cell? ⟨B, 6, none⟩ = some g ∧ w.cell? ⟨B, 7, none⟩ = some h := by
  refine ⟨?_, ?_, ?_, ?_, ?_, ?_, ?_, ?_⟩
  all_goals (rw [cell_of_row _ _ _ _ _ _ hh]; rfl)

set_option maxHeartbeats 4000000 in
set_option maxRecDepth 1000000 in
theorem count_any' (P : Nat) (W H D sw sh c r : Int) (A : Bool) (w : World) (hg : Gr w P W H D A sw sh c r) (c0 : 1 ≤ c) (c1 : c ≤ 256) (r0 : 1 ≤ r) (r1 : r ≤ 256) :
    Calls Try.prog 13 #[.pointer (some ⟨P, 0, none⟩)] w fun e w' => e = .returned (.int .i64 (c * r)) ∧ Kept [] w w' := by
  obtain ⟨g0, g1, g2, g3, g4, g5, g6, g7⟩ := eight hg
  have hm : IntKind.i64.wrap (c * r) = c * r := by
    have h1 : 0 ≤ c * r := Int.mul_nonneg (by omega) (by omega)
    have h2 : c * r ≤ 256 * 256 := Int.mul_le_mul c1 r1 (by omega) (by omega)
    exact wrap_i (by omega) (by omega)
  clear c0 c1 r0 r1
  go_enter Try.func13, Try.ntmps13
  go_wp2
  go_quiet (fail)
  go_wp2
  go_ret
  exact ⟨rfl, (Kept.refl _ _).drewN _⟩


/-- A slice's place. -/
def sX (c sw k : Int) : Int := k % c * sw
def sY (c sh k : Int) : Int := k / c * sh
theorem sX_in {W H sw sh c r : Int} (g : Gd W H sw sh c r) (k : Int) : 0 ≤ sX c sw k ∧ sX c sw k < W ∧ sX c sw k % 2 = 0 := by
  unfold sX
  have m0 : 0 ≤ k % c := Int.emod_nonneg _ (by have := g.c0; omega)
  have m1 : k % c < c := Int.emod_lt_of_pos _ (by have := g.c0; omega)
  refine ⟨Int.mul_nonneg m0 (by have := g.s0; omega), Int.lt_of_le_of_lt (Int.mul_le_mul_of_nonneg_right (show k % c ≤ c - 1 by omega) (by have := g.s0; omega)) g.cw, ?_⟩
  rw [Int.mul_emod, g.se]; simp
theorem sY_in {W H sw sh c r : Int} (g : Gd W H sw sh c r) {k : Int} (h0 : 0 ≤ k) (h1 : k < c * r) : 0 ≤ sY c sh k ∧ sY c sh k < H := by
  unfold sY
  have m0 : 0 ≤ k / c := Int.ediv_nonneg h0 (by have := g.c0; omega)
  have m1 : k / c < r := Int.ediv_lt_of_lt_mul (by have := g.c0; omega) (by rwa [Int.mul_comm] at h1)
  exact ⟨Int.mul_nonneg m0 (by have := g.t0; omega), Int.lt_of_le_of_lt (Int.mul_le_mul_of_nonneg_right (show k / c ≤ r - 1 by omega) (by have := g.t0; omega)) g.rh⟩
/-- The slice in which a sample is. -/
def sA (c sw sh x y : Int) : Int := y / sh * c + x / sw
theorem at_x {W H sw sh c r : Int} (g : Gd W H sw sh c r) {x : Int} (h0 : 0 ≤ x) (h1 : x < W) : 0 ≤ x / sw ∧ x / sw < c := by
  refine ⟨Int.ediv_nonneg h0 (by have := g.s0; omega), Int.ediv_lt_of_lt_mul (by have := g.s0; omega) (by have := g.cx; omega)⟩
theorem at_y {W H sw sh c r : Int} (g : Gd W H sw sh c r) {y : Int} (h0 : 0 ≤ y) (h1 : y < H) : 0 ≤ y / sh ∧ y / sh < r := by
  refine ⟨Int.ediv_nonneg h0 (by have := g.t0; omega), Int.ediv_lt_of_lt_mul (by have := g.t0; omega) (by have := g.rx; omega)⟩
theorem sA_in {W H sw sh c r : Int} (g : Gd W H sw sh c r) {x y : Int} (h0 : 0 ≤ x) (h1 : x < W) (h2 : 0 ≤ y) (h3 : y < H) : 0 ≤ sA c sw sh x y ∧ sA c sw sh x y < c * r := by
  have ⟨a0, a1⟩ := at_x g h0 h1
  have ⟨b0, b1⟩ := at_y g h2 h3
  unfold sA
  have m := Int.mul_nonneg b0 (show 0 ≤ c by have := g.c0; omega)
  have m2 : (y / sh + 1) * c ≤ r * c := Int.mul_le_mul_of_nonneg_right (by omega) (by have := g.c0; omega)
  rw [Int.add_mul] at m2
  rw [Int.mul_comm c r]
  omega

theorem w64_in {x : Int} (h0 : -9223372036854775808 ≤ x) (h1 : x ≤ 9223372036854775807) : wrap64 x = x := by unfold wrap64; omega
theorem one_new (w : World) (cs : Array Value) (t : Nat) : ∃ w1, w1 = w.alloc (.cells cs t (0, 0)) ∧ Kept [] w w1 ∧ w1.heap[w.heap.size]? = some (.cells cs t (0, 0)) :=
  ⟨_, rfl, alloc_kept _ _, heap_alloc_new _ _⟩
theorem Kept.new {w w1 : World} (h : Kept [] w w1) {ks : List Nat} {w2 : World} (h2 : Kept ks w1 w2) (hk : ∀ x ∈ ks, w.heap.size ≤ x) : Kept [] w w2 := h.step h2 (fun x hx => .inr (hk x hx))

end Go.Proofs.Ytkjhegedkamjaaa
