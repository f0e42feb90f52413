import Derived.Test.YtkjhegedkamjaaaTt
namespace Go.Proofs.Ytkjhegedkamjaaa
open Go.RowKit Go.Shelf
attribute [local go_sem] Oper.semAt_some

/-- Touched, of a rectangle that lies in the frame: how many rows and columns of slices. -/
structure Tc (f l c wd : Int) (nr wd1 : Nat) : Prop where
  c0 : 1 ≤ c
  n0 : 1 ≤ nr
  w0 : 1 ≤ wd1
  wq : wd + 1 = wd1
  wc : (wd1 : Int) ≤ c
  f0 : 0 ≤ f
  lq : l = f + ((nr : Int) - 1) * c + wd
  l1 : l ≤ 65536
  c1 : c ≤ 256

theorem tc_of {W H sw sh c r X Y rw rh : Int} (g : Gd W H sw sh c r) (x0 : 0 ≤ X) (y0 : 0 ≤ Y) (w0 : 1 ≤ rw) (h0 : 1 ≤ rh) (x1 : X + rw ≤ W) (y1 : Y + rh ≤ H) :
    Tc (sA c sw sh X Y) (sA c sw sh (X + rw - 1) (Y + rh - 1)) c ((X + rw - 1) / sw - X / sw) ((Y + rh - 1) / sh - Y / sh + 1).toNat ((X + rw - 1) / sw - X / sw + 1).toNat := by
  have ax := at_x g (x := X) x0 (by omega)
  have ax2 := at_x g (x := X + rw - 1) (by omega) (by omega)
  have ay := at_y g (y := Y) y0 (by omega)
  have ay2 := at_y g (y := Y + rh - 1) (by omega) (by omega)
  have mx : X / sw ≤ (X + rw - 1) / sw := Int.ediv_le_ediv (by have := g.s0; omega) (by omega)
  have my : Y / sh ≤ (Y + rh - 1) / sh := Int.ediv_le_ediv (by have := g.t0; omega) (by omega)
  have m1 := sA_in g (x := X) (y := Y) x0 (by omega) y0 (by omega)
  have m2 := sA_in g (x := X + rw - 1) (y := Y + rh - 1) (by omega) (by omega) (by omega) (by omega)
  have hcr : c * r ≤ 65536 := Int.mul_le_mul (a := c) (b := r) (c := 256) (d := 256) g.c1 g.r1 (by have := g.r0; omega) (by omega)
  refine ⟨g.c0, by omega, by omega, by omega, by omega, m1.1, ?_, by omega, g.c1⟩
  unfold sA
  rw [Int.toNat_of_nonneg (by omega)]
  have e : ((Y + rh - 1) / sh - Y / sh + 1 - 1) * c = (Y + rh - 1) / sh * c - Y / sh * c := by rw [show (Y + rh - 1) / sh - Y / sh + 1 - 1 = (Y + rh - 1) / sh - Y / sh by omega, Int.sub_mul]
  rw [e]
  omega

/-- What awake counts. -/
def nv : Nat → Int
  | 0 => 0
  | k + 1 => 10 * nv k + tv 0 4 2 k
theorem gd8 : Gd 50 20 16 16 4 2 := by
  have := Gd.of (W := 50) (H := 20) (sw := 16) (sh := 16) (by decide) (by decide) (by decide) (by decide) (by decide) (by decide) (by decide) (by decide) (by decide)
  exact this
theorem sh8 : Shp 50 20 10 false := ⟨by decide, by decide, by decide, by decide⟩

set_option maxHeartbeats 8000000 in
set_option maxRecDepth 1000000 in
theorem awake_any (w : World) : Calls Try.prog 6 #[] w fun e w' => e = .returned (.bool true) ∧ Kept [] w w' := by
  have C1 := Hid.mk (fun u => tnew_ok 50 20 10 16 16 false u sh8 (by decide) (by decide) (by decide) (by decide) (by decide))
  rw [show cl 50 16 = 4 from rfl, show cl 20 16 = 2 from rfl] at C1
  have C2 := Hid.mk (fun P u (h : Gr u P 50 20 10 false 16 16 4 2) => trect_ok P 50 20 10 16 16 4 2 7 false u h gd8 (by decide) (by decide))
  simp only [sR, show sX 4 16 7 = 48 from rfl, show sY 4 16 7 = 16 from rfl, show (min 16 (50 - 48) : Int) = 2 from rfl, show (min 16 (20 - 16) : Int) = 4 from rfl] at C2
  have C3 := Hid.mk (fun P u (h : Gr u P 50 20 10 false 16 16 4 2) => ttouch_ok P 50 20 10 16 16 4 2 15 0 2 17 false u h gd8 (by decide) (by decide) (by decide) (by decide) (by decide) (by decide))
  simp only [show sA 4 16 16 15 0 = 0 from rfl, show sA 4 16 16 (15 + 2 - 1) (0 + 17 - 1) = 5 from rfl, show ((15 + 2 - 1) / 16 - 15 / 16 : Int) = 1 from rfl] at C3
  have C4 := Hid.mk (fun P u (h : Gr u P 50 20 10 false 16 16 4 2) => count_any' P 50 20 10 16 16 4 2 false u h (by decide) (by decide) (by decide) (by decide))
  rw [show (4 * 2 : Int) = 8 from rfl] at C4
  have EF : ∀ (u : World) f a b, (binOp .eql 58 (.func f a b) .nilFunc).run Try.prog u = .ok (.bool false) u := fun u f a b => eq_func u f a b Try.underlying58
  refine (callsIn_wide (n := 0)).1 ?_
  refine callsIn_of_wp_marks Try.func6 rfl trivial ?_ rfl
  simp only [Try.ntmps6, List.size_toArray, List.length_nil, Nat.reduceSub, Array.replicate_succ, Array.replicate_zero, List.push_toArray, List.append_toArray, List.nil_append, List.cons_append]
  refine wpIn_wide.2 ?_
  go_wp2_with (first | (go_at_call 10; refine (C1.out _).mono ?_; rintro e w1 ⟨P, rfl, hk1, hP, hG1⟩; have HP := Hid.mk (And.intro hk1 (And.intro hP hG1)); clear hk1 hP hG1) | (go_at_call 14; refine (C2.out P _ HP.out.2.2).mono ?_; rintro e w2 ⟨rfl, hk2⟩) | (go_at_call 17; refine (C3.out P _ ((HP.out.2.2.keep hk2 (by simp)).keep (alloc_kept _ _) (by simp))).mono ?_; rintro e w3 ⟨b1, b2, b3, b4, rfl, hk3, hcl⟩))
  have hr0 : w3.heap[w2.heap.size]? = some (.cells #[.int .i64 48, .int .i64 16, .int .i64 2, .int .i64 4] 34 (0, 0)) := hk3.heap (heap_alloc_new _ _) (by simp)
  have hG3 : Gr w3 P 50 20 10 false 16 16 4 2 := HP.out.2.2.keep ((hk2.alloc _).trans hk3) (by simp)
  have hK3 : Kept [] w w3 := HP.out.1.trans ((hk2.alloc _).trans hk3)
  obtain ⟨w4, ew4, hk4, hn4⟩ := one_new w3 #[.int .i64 0] 3
  rw [← ew4]
  have hr4 := hk4.heap hr0 (by simp)
  have hG4 := hG3.keep hk4 (by simp)
  have hcl4 := hcl.keep hk4
  have hK4 := hK3.trans hk4
  have hc4 := (eight hG4).2.2.2.2.2.2.1
  have l1 : b1 < w3.heap.size := World.block_lt_of_cell? w3 _ hcl.1
  have l2 : b2 < w3.heap.size := World.block_lt_of_cell? w3 _ hcl.2.1
  have l3 : b3 < w3.heap.size := World.block_lt_of_cell? w3 _ hcl.2.2.1
  have l4 : b4 < w3.heap.size := World.block_lt_of_cell? w3 _ hcl.2.2.2
  have l5 := lt_of_block hG3
  have l6 := lt_of_block hr0
  have l7 := lt_of_block hn4
  have l8 := hK3.size
  obtain ⟨rb, erb⟩ : ∃ rb, rb = w2.heap.size := ⟨_, rfl⟩
  obtain ⟨nb, enb⟩ : ∃ nb, nb = w3.heap.size := ⟨_, rfl⟩
  rw [← enb] at hn4 l1 l2 l3 l4 l5 l6 l7 l8
  simp only [← enb, ← erb] at hr4 l6 ⊢
  have HH := Hid.mk (And.intro hr4 (And.intro hG4 (And.intro hK4 (And.intro l5 l6))))
  clear hk3 hr0 hG3 hK3 hcl ew4 hk4 hr4 hG4 hk2 HP C1 C2 C3 EF erb enb hK4
  refine range_touch (nr := 2) (wd1 := 2) (P := P) (f := 0) (l := 5) (c := 4) (wd := 1) (by decide) (by decide) (by decide) (by decide) (by decide) (by decide) (by decide) (by decide) (by decide) rfl rfl hcl4.1 hcl4.2.1 hcl4.2.2.1 hcl4.2.2.2 hc4 [nb] (by simpa using l7) (by simp; omega) (by simp; omega) (by simp; omega) (by simp; omega) (by simp; omega)
    (fun k W => W.heap[nb]? = some (.cells #[.int .i64 (nv k)] 3 (0, 0))) (fun k W W' h hB => by rw [hB nb l7]; exact h) hn4 ?body ?done
  case body =>
    intro k W hk hkw hsz hu
    have hv : 0 ≤ nv k ∧ nv k ≤ 145 ∧ 0 ≤ tv 0 4 2 k ∧ tv 0 4 2 k ≤ 5 := by
      have : k = 0 ∨ k = 1 ∨ k = 2 ∨ k = 3 := by omega
      rcases this with rfl | rfl | rfl | rfl <;> decide
    have HS : Hid (nv (k + 1) = 10 * nv k + tv 0 4 2 k) := Hid.mk rfl
    obtain ⟨t, et⟩ : ∃ t, t = tv 0 4 2 k := ⟨_, rfl⟩
    obtain ⟨v, ev⟩ : ∃ v, v = nv k := ⟨_, rfl⟩
    rw [← et, ← ev] at hv HS
    rw [← et]
    simp only [← ev]
    obtain ⟨v0, v1, t0, t1⟩ := hv
    clear et ev hcl4 hc4
    gi_wp2
    refine ⟨trivial, fun Wb hkb hsb hub => ?_⟩
    have hn := one_cell hub
    have hf0 : Wb.frozen? ⟨nb, 0, none⟩ = false := by
      unfold World.frozen?
      rw [hub]
      rfl
    have HU := Hid.mk hub
    clear hub hkw hsz hu hkb
    gi_wp2
    refine ⟨(Kept.refl [nb] Wb).setCell (.inl (by simp)) _, ?_⟩
    rw [HS.out]
    have h9 := heap_setCell_at (i := 0) (u := .int .i64 (10 * v + t)) HU.out
    simpa using h9
  case done =>
    intro W hkw hu hsz hK
    rw [show nv (2 * 2) = 145 from rfl] at hu
    have hr := hkw.heap HH.out.1 (by simp; omega)
    obtain ⟨⟨r0, r1, r2, r3⟩, _⟩ := four hr
    have hn := one_cell hu
    have HG := Hid.mk (HH.out.2.1.keep hkw (by simp; omega))
    have HKW := Hid.mk (And.intro hkw hK)
    clear hkw hK hr hu hcl4 hc4
    go_wp2_with (first | (go_at_call 13; refine (C4.out P _ HG.out).mono ?_; rintro e W3 ⟨rfl, hk3⟩))
    have hK4 := hk3.heap HKW.out.2 (by simp)
    refine ⟨by simp, .inl ⟨_, _, rfl, run_takeDeferred hK4, ?_⟩⟩
    exact ⟨_, results_tmp rfl _ _ _, rfl, ((HH.out.2.2.1.step HKW.out.1 (fun x hx => by simp at hx; subst hx; exact .inr l8)).trans hk3).putObj _ (.inr (by have := HH.out.2.2.1.size; omega))⟩
end Go.Proofs.Ytkjhegedkamjaaa
