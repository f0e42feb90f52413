import Derived.Test.YtkjhegedkamjaaaT6
import Derived.Laws.EntriesVeiled
namespace Go.Proofs.Ytkjhegedkamjaaa
open Go.RowKit

set_option maxHeartbeats 4000000 in
set_option maxRecDepth 1000000 in
theorem at_q (P : Nat) (W H D sw sh c r x y : Int) (A : Bool) (w : World) (hg : Gr w P W H D A sw sh c r) (g : Gd W H sw sh c r) (x0 : 0 ≤ x) (x1 : x < W) (y0 : 0 ≤ y) (y1 : y < H) :
    Calls Try.prog 30 #[.pointer (some ⟨P, 0, none⟩), .int .i64 x, .int .i64 y] w fun e w' => e = .returned (.int .i64 (sA c sw sh x y)) ∧ ∃ n, w' = w.drewN n := by
  have hlt := lt_of_block hg
  obtain ⟨g0, g1, g2, g3, g4, g5, g6, g7⟩ := eight hg
  have ⟨a0, a1⟩ := at_x g x0 x1
  have ⟨b0, b1⟩ := at_y g y0 y1
  have hw1 := g.w1
  have hh1 := g.h1
  have ha := sA_in g x0 x1 y0 y1
  have hc0 := g.c0
  have hc1 := g.c1
  have hr0 := g.r0
  have hr1 := g.r1
  have hcr : c * r ≤ 65536 := Int.mul_le_mul (a := c) (b := r) (c := 256) (d := 256) hc1 hr1 (by omega) (by omega)
  have hsh : sh ≠ 0 := by have := g.t0; omega
  have hsw : sw ≠ 0 := by have := g.s0; omega
  have q1 : wrap64 (y.tdiv sh) = y / sh := by rw [Int.tdiv_eq_ediv_of_nonneg y0]; exact w64_in (by omega) (by omega)
  have q2 : wrap64 (x.tdiv sw) = x / sw := by rw [Int.tdiv_eq_ediv_of_nonneg x0]; exact w64_in (by omega) (by omega)
  have m0 : 0 ≤ y / sh * c := Int.mul_nonneg b0 (by omega)
  have m1 : y / sh * c ≤ 256 * 256 := Int.mul_le_mul (by omega) hc1 (by omega) (by omega)
  have q3 : wrap64 (y / sh * c) = y / sh * c := w64_in (by omega) (by omega)
  have q4 : wrap64 (y / sh * c + x / sw) = sA c sw sh x y := w64_in (by omega) (by omega)
  clear a0 a1 b0 b1 ha hcr m0 m1 hc0 hc1 hr0 hr1 g
  go_enter Try.func30, Try.ntmps30
  go_wp2
  go_quiet (fail)
  go_wp2
  go_ret
  exact ⟨ret_int (by first | rfl | exact q4 | (simp only [q1, q2, q3, q4])), ⟨_, rfl⟩⟩


theorem al_cell (u : World) (n : Nat) (v : Value) (t : Nat) : ((u.drewN n).alloc (.cells #[v] t (0, 0))).cell? ⟨u.heap.size, 0, none⟩ = some v :=
  alloc_cell (u.drewN n) #[v] t 0 v rfl
theorem al_frozen (u : World) (n : Nat) (v : Value) (t : Nat) : ((u.drewN n).alloc (.cells #[v] t (0, 0))).frozen? ⟨u.heap.size, 0, none⟩ = false := by
  have h : ((u.drewN n).alloc (.cells #[v] t (0, 0))).heap[u.heap.size]? = some (.cells #[v] t (0, 0)) := heap_alloc_new (u.drewN n) _
  unfold World.frozen?
  rw [h]
  rfl
attribute [local go_sem] al_cell al_frozen

theorem al2 (u : World) (z z' : Obj) : ((u.alloc z).alloc z').heap[u.heap.size]? = some z := (alloc_kept _ _).heap (heap_alloc_new _ _) (by simp)
theorem al3 (u : World) (z z' : Obj) : ((u.alloc z).alloc z').heap[u.heap.size + 1]? = some z' := by
  have := heap_alloc_new (u.alloc z) z'; rwa [World.size_alloc] at this
theorem al2d (u : World) (n : Nat) (z z' : Obj) : (((u.alloc z).drewN n).alloc z').heap[u.heap.size]? = some z := al2 u z z'
theorem al3d (u : World) (n : Nat) (z z' : Obj) : (((u.alloc z).drewN n).alloc z').heap[u.heap.size + 1]? = some z' := al3 u z z'
theorem al1e (u : World) (m : Nat) (z : Obj) : ((u.drewN m).alloc z).heap[u.heap.size]? = some z := heap_alloc_new (u.drewN m) z
theorem al2e (u : World) (m : Nat) (z z' : Obj) : (((u.drewN m).alloc z).alloc z').heap[u.heap.size]? = some z := al2 (u.drewN m) z z'
theorem al3e (u : World) (m : Nat) (z z' : Obj) : (((u.drewN m).alloc z).alloc z').heap[u.heap.size + 1]? = some z' := al3 (u.drewN m) z z'
theorem al2f (u : World) (m n : Nat) (z z' : Obj) : ((((u.drewN m).alloc z).drewN n).alloc z').heap[u.heap.size]? = some z := al2 (u.drewN m) z z'
theorem al3f (u : World) (m n : Nat) (z z' : Obj) : ((((u.drewN m).alloc z).drewN n).alloc z').heap[u.heap.size + 1]? = some z' := al3 (u.drewN m) z z'
theorem fin0 {u : World} {B : Nat} {x v : Value} (h : u.heap[B]? = some (.cells #[x] 3 (0, 0))) : (u.setCell ⟨B, 0, none⟩ v).heap[B]? = some (.cells #[v] 3 (0, 0)) := by
  have := heap_setCell_at (i := 0) (u := v) h
  simpa using this
theorem one_cell {u : World} {B t : Nat} {x : Value} (h : u.heap[B]? = some (.cells #[x] t (0, 0))) : u.cell? ⟨B, 0, none⟩ = some x := by rw [cell_of_row _ _ _ _ _ _ h]; rfl
theorem fin1 {u : World} {B : Nat} {x v : Value} (o : Obj) (h : u.heap[B]? = some (.cells #[x] 3 (0, 0))) : ((u.setCell ⟨B, 0, none⟩ v).alloc o).cell? ⟨B, 0, none⟩ = some v :=
  one_cell ((alloc_kept _ _).heap (fin0 h) (by simp))
theorem fin2 {u : World} {B C : Nat} {v l : Value} (h : u.heap.size = C) : ((u.setCell ⟨B, 0, none⟩ v).alloc (.cells #[l] 3 (0, 0))).cell? ⟨C, 0, none⟩ = some l := by
  have := heap_alloc_new (u.setCell ⟨B, 0, none⟩ v) (.cells #[l] 3 (0, 0))
  rw [show (u.setCell ⟨B, 0, none⟩ v).heap.size = C by simpa [World.setCell] using h] at this
  exact one_cell this
theorem fin3 {u : World} {B C : Nat} {x v l : Value} (h : u.heap[B]? = some (.cells #[x] 3 (0, 0))) (hn : B ≠ C) : ((u.setCell ⟨B, 0, none⟩ v).setCell ⟨C, 0, none⟩ l).cell? ⟨B, 0, none⟩ = some v :=
  one_cell (((Kept.refl [C] _).setCell (.inl (by simp)) l).heap (fin0 h) (by simpa using hn))
theorem fin4 {u : World} {B C : Nat} {x v l : Value} (h : u.heap[C]? = some (.cells #[x] 3 (0, 0))) (hn : B ≠ C) : ((u.setCell ⟨B, 0, none⟩ v).setCell ⟨C, 0, none⟩ l).cell? ⟨C, 0, none⟩ = some l :=
  one_cell (fin0 (((Kept.refl [B] u).setCell (.inl (by simp)) v).heap h (by simpa using Ne.symm hn)))

/-- A closure over a rectangle: the blocks of first, last, the grid, wide. -/
def Cl (w : World) (b1 b2 b3 b4 P : Nat) (f l wd : Int) : Prop :=
  w.cell? ⟨b1, 0, none⟩ = some (.int .i64 f) ∧ w.cell? ⟨b2, 0, none⟩ = some (.int .i64 l) ∧ w.cell? ⟨b3, 0, none⟩ = some (.pointer (some ⟨P, 0, none⟩)) ∧ w.cell? ⟨b4, 0, none⟩ = some (.int .i64 wd)
theorem Cl.keep {w w' : World} {b1 b2 b3 b4 P : Nat} {f l wd : Int} (h : Cl w b1 b2 b3 b4 P f l wd) (hk : Kept [] w w') : Cl w' b1 b2 b3 b4 P f l wd :=
  ⟨cell_keep hk h.1 (by simp), cell_keep hk h.2.1 (by simp), cell_keep hk h.2.2.1 (by simp), cell_keep hk h.2.2.2 (by simp)⟩

set_option maxHeartbeats 16000000 in
set_option maxRecDepth 1000000 in
theorem ttouched_in (P : Nat) (W H D sw sh c r X Y rw rh : Int) (A : Bool) (w : World) (hg : Gr w P W H D A sw sh c r) (g : Gd W H sw sh c r) (x0 : 0 ≤ X) (y0 : 0 ≤ Y) (w0 : 1 ≤ rw) (h0 : 1 ≤ rh) (x1 : X + rw ≤ W) (y1 : Y + rh ≤ H) :
    Calls Try.prog 34 #[.pointer (some ⟨P, 0, none⟩), rcv X Y rw rh] w fun e w' => ∃ b1 b2 b3 b4, e = .returned (.func (.func 44) #[] #[.pointer (some ⟨b1, 0, none⟩), .pointer (some ⟨b2, 0, none⟩), .pointer (some ⟨b3, 0, none⟩), .pointer (some ⟨b4, 0, none⟩)]) ∧ Kept [] w w' ∧ Cl w' b1 b2 b3 b4 P (sA c sw sh X Y) (sA c sw sh (X + rw - 1) (Y + rh - 1)) ((X + rw - 1) / sw - X / sw) := by
  obtain ⟨x2, ex2⟩ : ∃ x2, x2 = X + rw - 1 := ⟨_, rfl⟩
  obtain ⟨y2, ey2⟩ : ∃ y2, y2 = Y + rh - 1 := ⟨_, rfl⟩
  rw [← ex2, ← ey2]
  have hw1 := g.w1
  have hh1 := g.h1
  have C1 := Hid.mk (fun u (h : Gr u P W H D A sw sh c r) => at_q P W H D sw sh c r X Y A u h g x0 (by omega) y0 (by omega))
  have C2 := Hid.mk (fun u (h : Gr u P W H D A sw sh c r) => at_q P W H D sw sh c r x2 y2 A u h g (by omega) (by omega) (by omega) (by omega))
  have m1 := sA_in g x0 (by omega) y0 (by omega)
  have m2 := sA_in g (x := x2) (y := y2) (by omega) (by omega) (by omega) (by omega)
  have ax := at_x g x0 (by omega)
  have ax2 := at_x g (x := x2) (by omega) (by omega)
  have e1 : sA c sw sh X Y % c = X / sw := by unfold sA; rw [Int.add_comm, Int.mul_comm, Int.add_mul_emod_self_left]; exact Int.emod_eq_of_lt ax.1 ax.2
  have e2 : sA c sw sh x2 y2 % c = x2 / sw := by unfold sA; rw [Int.add_comm, Int.mul_comm, Int.add_mul_emod_self_left]; exact Int.emod_eq_of_lt ax2.1 ax2.2
  obtain ⟨f, ef⟩ : ∃ f, f = sA c sw sh X Y := ⟨_, rfl⟩
  obtain ⟨l, el⟩ : ∃ f, f = sA c sw sh x2 y2 := ⟨_, rfl⟩
  rw [← ef] at m1 e1 C1 ⊢
  rw [← el] at m2 e2 C2 ⊢
  have q1 : wrap64 (X + rw) = X + rw := w64_in (by omega) (by omega)
  have q2 : wrap64 (X + rw - 1) = x2 := by rw [ex2]; exact w64_in (by omega) (by omega)
  have q3 : wrap64 (Y + rh) = Y + rh := w64_in (by omega) (by omega)
  have q4 : wrap64 (Y + rh - 1) = y2 := by rw [ey2]; exact w64_in (by omega) (by omega)
  have i1 : IntKind.i64.wrap (X + rw) = X + rw := wrap_i (by omega) (by omega)
  have i2 : IntKind.i64.wrap (X + rw - 1) = x2 := by rw [ex2]; exact wrap_i (by omega) (by omega)
  have i3 : IntKind.i64.wrap (Y + rh) = Y + rh := wrap_i (by omega) (by omega)
  have i4 : IntKind.i64.wrap (Y + rh - 1) = y2 := by rw [ey2]; exact wrap_i (by omega) (by omega)
  have hc0 := g.c0
  have hc1 := g.c1
  obtain ⟨wd, ewd⟩ : ∃ wd, wd = x2 / sw - X / sw := ⟨_, rfl⟩
  have q5 : wrap64 (l % c - f % c) = wd := by rw [e1, e2, ewd]; exact w64_in (by omega) (by omega)
  have i5 : IntKind.i64.wrap (l % c - f % c) = wd := by rw [e1, e2, ewd]; exact wrap_i (by omega) (by omega)
  have i6 : l.tmod c = l % c := Int.tmod_eq_emod_of_nonneg m2.1
  have i7 : f.tmod c = f % c := Int.tmod_eq_emod_of_nonneg m1.1
  rw [← ewd]
  have m10 := m1.1
  have m20 := m2.1
  have hcz : c ≠ 0 := by omega
  have HG := Hid.mk hg
  clear ef el ewd ex2 ey2 e1 e2 ax ax2 hg g hw1 hh1 x0 y0 w0 h0 x1 y1 m1 m2
  go_enter Try.func34, Try.ntmps34
  go_wp2
  obtain ⟨w1, ew1⟩ : ∃ w1, w1 = (w.alloc (.cells #[.pointer (some ⟨P, 0, none⟩)] 45 (0, 0))).alloc (.cells #[.int .i64 X, .int .i64 Y, .int .i64 rw, .int .i64 rh] 34 (0, 0)) := ⟨_, rfl⟩
  have hk1 : Kept [] w w1 := by rw [ew1]; exact (alloc_kept _ _).alloc _
  have hb0 : w1.heap[w.heap.size]? = some (.cells #[.pointer (some ⟨P, 0, none⟩)] 45 (0, 0)) := by rw [ew1]; exact (alloc_kept _ _).heap (heap_alloc_new _ _) (by simp)
  have hb1 : w1.heap[w.heap.size + 1]? = some (.cells #[.int .i64 X, .int .i64 Y, .int .i64 rw, .int .i64 rh] 34 (0, 0)) := by
    rw [ew1]; have := heap_alloc_new (w.alloc (.cells #[.pointer (some ⟨P, 0, none⟩)] 45 (0, 0))) (.cells #[.int .i64 X, .int .i64 Y, .int .i64 rw, .int .i64 rh] 34 (0, 0)); rwa [World.size_alloc] at this
  rw [← ew1]
  clear ew1
  obtain ⟨b, eb⟩ : ∃ b, b = w.heap.size := ⟨_, rfl⟩
  rw [← eb] at hb0 hb1 ⊢
  clear eb
  replace HG := Hid.mk (HG.out.keep hk1 (by simp))
  obtain ⟨⟨z0, z1, z2, z3⟩, _⟩ := four hb1
  have y0 : w1.cell? ⟨b, 0, none⟩ = some (.pointer (some ⟨P, 0, none⟩)) := by rw [cell_of_row _ _ _ _ _ _ hb0]; rfl
  have HKK := Hid.mk (show ∀ u, Kept [] w1 u → u.cell? ⟨b, 0, none⟩ = some (.pointer (some ⟨P, 0, none⟩)) ∧ u.cell? ⟨b + 1, 0, none⟩ = some (.int .i64 X) ∧ u.cell? ⟨b + 1, 1, none⟩ = some (.int .i64 Y) ∧ u.cell? ⟨b + 1, 2, none⟩ = some (.int .i64 rw) ∧ u.cell? ⟨b + 1, 3, none⟩ = some (.int .i64 rh) from fun u h => ⟨cell_keep h y0 (by simp), cell_keep h z0 (by simp), cell_keep h z1 (by simp), cell_keep h z2 (by simp), cell_keep h z3 (by simp)⟩)
  go_cut [5, 6] (fun s t wc => ∃ B C, s = .pointer (some ⟨B, 0, none⟩) ∧ t = .pointer (some ⟨C, 0, none⟩) ∧ Kept [] w1 wc ∧ wc.cell? ⟨B, 0, none⟩ = some (.int .i64 f) ∧ wc.cell? ⟨C, 0, none⟩ = some (.int .i64 l))
  case first =>
    go_region_held_law (fun u => u.cell? ⟨b, 0, none⟩ = some (.pointer (some ⟨P, 0, none⟩)) ∧ u.cell? ⟨b + 1, 0, none⟩ = some (.int .i64 X) ∧ u.cell? ⟨b + 1, 1, none⟩ = some (.int .i64 Y) ∧ u.cell? ⟨b + 1, 2, none⟩ = some (.int .i64 rw) ∧ u.cell? ⟨b + 1, 3, none⟩ = some (.int .i64 rh)) (first | exact HKK.out _ (Kept.refl _ _) | (refine HKK.out _ ?_; repeat' (first | with_reducible exact Kept.refl _ _ | with_reducible refine Kept.drew ?_ | with_reducible refine Kept.drewN ?_ _ | with_reducible refine Kept.alloc ?_ _ | with_reducible refine Kept.setCell ?_ (.inr (by simp)) _))) (first | (go_at_call_of 30 X; refine (C1.out _ (HG.out.keep (ks := []) (by repeat' (first | with_reducible exact Kept.refl _ _ | with_reducible refine Kept.drew ?_ | with_reducible refine Kept.drewN ?_ _ | with_reducible refine Kept.alloc ?_ _)) (by simp))).mono ?_; rintro e w2 ⟨rfl, n, rfl⟩) | (go_at_call_of 30 x2; refine (C2.out _ (HG.out.keep (ks := []) (by repeat' (first | with_reducible exact Kept.refl _ _ | with_reducible refine Kept.drew ?_ | with_reducible refine Kept.drewN ?_ _ | with_reducible refine Kept.alloc ?_ _)) (by simp))).mono ?_; rintro e w2 ⟨rfl, n, rfl⟩))
    all_goals go_wp2
    all_goals go_meet
    all_goals (refine ⟨_, _, rfl, rfl, ?_, ?_, ?_⟩)
    all_goals first | ((repeat' (first | with_reducible exact Kept.refl _ _ | with_reducible refine Kept.drew ?_ | with_reducible refine Kept.drewN ?_ _ | with_reducible refine Kept.alloc ?_ _ | with_reducible refine Kept.setCell ?_ (.inr (by simp)) _)); done) | (with_reducible refine fin2 ?_; simp; done) | (with_reducible refine fin1 (x := .int .i64 0) _ ?_; (first | with_reducible exact heap_alloc_new _ _ | with_reducible exact al1e _ _ _ | with_reducible exact al2 _ _ _ | with_reducible exact al3 _ _ _ | with_reducible exact al2d _ _ _ _ | with_reducible exact al3d _ _ _ _ | with_reducible exact al2e _ _ _ _ | with_reducible exact al3e _ _ _ _ | with_reducible exact al2f _ _ _ _ _ | with_reducible exact al3f _ _ _ _ _ | (simp only [World.heap_drewN]; first | with_reducible exact heap_alloc_new _ _ | with_reducible exact al1e _ _ _ | with_reducible exact al2 _ _ _ | with_reducible exact al3 _ _ _ | with_reducible exact al2d _ _ _ _ | with_reducible exact al3d _ _ _ _ | with_reducible exact al2e _ _ _ _ | with_reducible exact al3e _ _ _ _ | with_reducible exact al2f _ _ _ _ _ | with_reducible exact al3f _ _ _ _ _))) | (with_reducible refine fin3 (x := .int .i64 0) ?_ ?_; (first | with_reducible exact heap_alloc_new _ _ | with_reducible exact al1e _ _ _ | with_reducible exact al2 _ _ _ | with_reducible exact al3 _ _ _ | with_reducible exact al2d _ _ _ _ | with_reducible exact al3d _ _ _ _ | with_reducible exact al2e _ _ _ _ | with_reducible exact al3e _ _ _ _ | with_reducible exact al2f _ _ _ _ _ | with_reducible exact al3f _ _ _ _ _ | (simp only [World.heap_drewN]; first | with_reducible exact heap_alloc_new _ _ | with_reducible exact al1e _ _ _ | with_reducible exact al2 _ _ _ | with_reducible exact al3 _ _ _ | with_reducible exact al2d _ _ _ _ | with_reducible exact al3d _ _ _ _ | with_reducible exact al2e _ _ _ _ | with_reducible exact al3e _ _ _ _ | with_reducible exact al2f _ _ _ _ _ | with_reducible exact al3f _ _ _ _ _)); omega) | (with_reducible refine fin4 (x := .int .i64 0) ?_ ?_; (first | with_reducible exact heap_alloc_new _ _ | with_reducible exact al1e _ _ _ | with_reducible exact al2 _ _ _ | with_reducible exact al3 _ _ _ | with_reducible exact al2d _ _ _ _ | with_reducible exact al3d _ _ _ _ | with_reducible exact al2e _ _ _ _ | with_reducible exact al3e _ _ _ _ | with_reducible exact al2f _ _ _ _ _ | with_reducible exact al3f _ _ _ _ _ | (simp only [World.heap_drewN]; first | with_reducible exact heap_alloc_new _ _ | with_reducible exact al1e _ _ _ | with_reducible exact al2 _ _ _ | with_reducible exact al3 _ _ _ | with_reducible exact al2d _ _ _ _ | with_reducible exact al3d _ _ _ _ | with_reducible exact al2e _ _ _ _ | with_reducible exact al3e _ _ _ _ | with_reducible exact al2f _ _ _ _ _ | with_reducible exact al3f _ _ _ _ _)); omega)
  case rest =>
    obtain ⟨B, C, rfl, rfl, hkc, hB, hC⟩ := hcut
    have hG2 := HG.out.keep hkc (by simp)
    obtain ⟨g0, g1, g2, g3, g4, g5, g6, g7⟩ := eight hG2
    have y1 := cell_keep hkc y0 (by simp)
    have lB := World.block_lt_of_cell? wc _ hB
    have lC := World.block_lt_of_cell? wc _ hC
    have lb := World.block_lt_of_cell? wc _ y1
    have HKW := Hid.mk (hk1.trans hkc)
    have HK2 := Hid.mk (show ∀ u, Kept [] wc u → u.cell? ⟨C, 0, none⟩ = some (.int .i64 l) ∧ u.cell? ⟨b, 0, none⟩ = some (.pointer (some ⟨P, 0, none⟩)) ∧ u.cell? ⟨B, 0, none⟩ = some (.int .i64 f) ∧ u.cell? ⟨P, 6, none⟩ = some (.int .i64 c) from fun u h => ⟨cell_keep h hC (by simp), cell_keep h y1 (by simp), cell_keep h hB (by simp), cell_keep h g6 (by simp)⟩)
    have HC := Hid.mk (And.intro hB (And.intro hC y1))
    clear HKK hG2 hkc z0 z1 z2 z3 y0 hb0 hb1 lB lC lb C1 C2 q1 q2 q3 q4 i1 i2 i3 i4 hk1 HG
    go_wp2
    go_region_held_law (fun u => u.cell? ⟨C, 0, none⟩ = some (.int .i64 l) ∧ u.cell? ⟨b, 0, none⟩ = some (.pointer (some ⟨P, 0, none⟩)) ∧ u.cell? ⟨B, 0, none⟩ = some (.int .i64 f) ∧ u.cell? ⟨P, 6, none⟩ = some (.int .i64 c)) (first | exact ⟨hC, y1, hB, g6⟩ | (refine HK2.out _ ?_; repeat' (first | with_reducible exact Kept.refl _ _ | with_reducible refine Kept.drew ?_ | with_reducible refine Kept.alloc ?_ _ | with_reducible refine Kept.setCell ?_ (.inr (by simp)) _))) (fail)
    go_wp2
    go_ret
    have ka := ((Kept.refl [] wc).alloc (.cells #[.int .i64 wd] 3 (0, 0))).drew
    exact ⟨B, C, b, wc.heap.size, rfl, HKW.out.trans ka, cell_keep ka HC.out.1 (by simp), cell_keep ka HC.out.2.1 (by simp), cell_keep ka HC.out.2.2 (by simp), one_cell (heap_alloc_new wc _)⟩
end Go.Proofs.Ytkjhegedkamjaaa
