import Derived.Test.YtkjhegedkamjaaaRa
import Derived.Test.YtkjhegedkamjaaaRb
import Derived.Test.YtkjhegedkamjaaaRc
import Derived.Test.YtkjhegedkamjaaaQ1
import Derived.Test.YtkjhegedkamjaaaAmn
namespace Go.Proofs.Ytkjhegedkamjaaa
open Go.RowKit Go.Shelf
attribute [local go_sem] Oper.semAt_some

theorem three_blocks (w : World) (x y z : Obj) : ∃ w1, w1 = ((w.alloc x).alloc y).alloc z ∧ Kept [] w w1 ∧ w1.heap[w.heap.size]? = some x ∧ w1.heap[w.heap.size + 1]? = some y ∧ w1.heap[w.heap.size + 1 + 1]? = some z := by
  refine ⟨_, rfl, ((alloc_kept _ _).alloc _).alloc _, ?_, ?_, ?_⟩
  · exact (alloc_kept _ _).heap ((alloc_kept _ _).heap (heap_alloc_new w x) (by simp)) (by simp)
  · have := heap_alloc_new (w.alloc x) y
    rw [World.size_alloc] at this
    exact (alloc_kept _ _).heap this (by simp)
  · have := heap_alloc_new ((w.alloc x).alloc y) z
    rwa [World.size_alloc, World.size_alloc] at this

theorem tv_whole' {c : Int} {wd1 k : Nat} (hc : c = (wd1 : Int)) : tv 0 c wd1 k = (k : Int) := by
  unfold tv
  rw [hc]
  have := Nat.div_add_mod k wd1
  have e : ((k / wd1 : Nat) : Int) * (wd1 : Int) = ((wd1 * (k / wd1) : Nat) : Int) := by rw [Int.natCast_mul, Int.mul_comm]
  rw [e]
  omega
theorem whole_x {W H sw sh c r : Int} (g : Gd W H sw sh c r) : (0 + W - 1) / sw = c - 1 := by
  refine (div_in' (x := 0 + W - 1) (s := sw) (a := c - 1) (by have := g.s0; omega)).1 ?_
  have h1 := g.cw
  have h2 := g.cx
  have h3 : c * sw = (c - 1) * sw + sw := by rw [Int.sub_mul]; omega
  omega
theorem whole_l {W H sw sh c r : Int} (g : Gd W H sw sh c r) : sA c sw sh (0 + W - 1) (0 + H - 1) = c * r - 1 := by
  have e2 := whole_x g
  have e3 : (0 + H - 1) / sh = r - 1 := by
    refine (div_in' (x := 0 + H - 1) (s := sh) (a := r - 1) (by have := g.t0; omega)).1 ?_
    have h1 := g.rh
    have h2 := g.rx
    have h3 : r * sh = (r - 1) * sh + sh := by rw [Int.sub_mul]; omega
    omega
  unfold sA
  rw [e2, e3, Int.sub_mul, Int.mul_comm r c]
  omega

set_option maxHeartbeats 64000000 in
set_option maxRecDepth 1000000 in
theorem touched_any (a b cc d e qx qy qw qh : Int) (A : Bool) (w : World) (ha : b64 a) (hb : b64 b) (hc : b64 cc) (hd : b64 d) (he : b64 e) (hqx : b64 qx) (hqy : b64 qy) (hqw : b64 qw) (hqh : b64 qh) :
    Calls Try.prog 5 #[frv a b cc d e A, rcv qx qy qw qh] w fun e w' => e = .returned (.bool true) ∧ Kept [] w w' := by
  have C0 := Hid.mk awake_any
  have C1 := Hid.mk (fun u => of_any a b cc d e A u ha hb hc hd he)
  have C2 := Hid.mk (fun W H D sw sh u hs s0 s1 se t0 t1 => tnew_ok W H D sw sh A u hs s0 s1 se t0 t1)
  have C3 := Hid.mk (fun n u (h : 0 < n) => pick_any qx n u hqx.1 hqx.2 h)
  have C4 := Hid.mk (fun n u (h : 0 < n) => pick_any qy n u hqy.1 hqy.2 h)
  have C5 := Hid.mk (fun n u (h : 0 < n) => pick_any qw n u hqw.1 hqw.2 h)
  have C6 := Hid.mk (fun n u (h : 0 < n) => pick_any qh n u hqh.1 hqh.2 h)
  clear ha hb hc hd he hqx hqy hqw hqh
  obtain ⟨w1, ew1, hk1, hb1, hb2, hb3⟩ := three_blocks w (.cells #[.int .i64 a, .int .i64 b, .int .i64 cc, .int .i64 d, .int .i64 e, .bool A] 42 (0, 0)) (.cells #[.int .i64 qx, .int .i64 qy, .int .i64 qw, .int .i64 qh] 34 (0, 0)) (.cells #[.bool false] 4 (0, 0))
  have EW := Hid.mk ew1
  clear ew1
  refine (callsIn_wide (n := 0)).1 ?_
  refine callsIn_of_wp_marks Try.func5 rfl trivial ?_ rfl
  simp only [Try.ntmps5, List.size_toArray, List.length_cons, List.length_nil, Nat.reduceAdd, Nat.reduceSub, Array.replicate_succ, Array.replicate_zero, List.push_toArray, List.append_toArray, List.nil_append, List.cons_append]
  refine wpIn_wide.2 ?_
  go_wp2_with (fail)
  rw [← EW.out]
  refine (C0.out _).mono ?_
  rintro e2 w2 ⟨rfl, hk2⟩
  obtain ⟨z0, z1, z2, z3, z4, z5⟩ := six (hk2.heap hb1 (by simp))
  go_wp2_with (fail)
  refine (C1.out _).mono ?_
  rintro e3 w3 ⟨⟨W, H, D, sw, sh, rfl, hS, hsw, hsh⟩, hk3⟩
  clear z0 z1 z2 z3 z4 z5
  go_wp2_with (fail)
  refine (C2.out W H D sw sh _ hS hsw.1 hsw.2.1 hsw.2.2 hsh.1 hsh.2).mono ?_
  rintro e4 w4 ⟨P, rfl, hk4, hP4, hG4⟩
  have g := Gd.of (W := W) (H := H) (sw := sw) (sh := sh) hS.1.1 hS.1.2 hS.2.1.1 hS.2.1.2 hsw.1 hsw.2.1 hsw.2.2 hsh.1 hsh.2
  obtain ⟨c, ec⟩ : ∃ c, c = cl W sw := ⟨_, rfl⟩
  obtain ⟨r, er⟩ : ∃ r, r = cl H sh := ⟨_, rfl⟩
  rw [← ec, ← er] at hG4 g
  clear ec er
  have hs4 := hk4.heap (heap_alloc_new w3 _) (by simp)
  have hq4 := hk4.heap ((alloc_kept w3 (.cells #[.int .i64 W, .int .i64 H, .int .i64 D, .bool A] 32 (0, 0))).heap ((hk2.trans hk3).heap hb2 (by simp)) (by simp)) (by simp)
  have hz4 := hk4.heap ((alloc_kept w3 (.cells #[.int .i64 W, .int .i64 H, .int .i64 D, .bool A] 32 (0, 0))).heap ((hk2.trans hk3).heap hb3 (by simp)) (by simp)) (by simp)
  have hK4 := (((hk1.trans hk2).trans hk3).alloc (.cells #[.int .i64 W, .int .i64 H, .int .i64 D, .bool A] 32 (0, 0))).trans hk4
  obtain ⟨B, eB⟩ : ∃ B, B = w3.heap.size := ⟨_, rfl⟩
  obtain ⟨S, eS⟩ : ∃ B, B = w.heap.size := ⟨_, rfl⟩
  rw [← eB] at hs4
  rw [← eS] at hq4 hz4
  have hBP : Hid (Kept [] w w4 ∧ w4.heap[B]? = some (.cells #[.int .i64 W, .int .i64 H, .int .i64 D, .bool A] 32 (0, 0)) ∧ Gr w4 P W H D A sw sh c r ∧ w4.heap[S + 1]? = some (.cells #[.int .i64 qx, .int .i64 qy, .int .i64 qw, .int .i64 qh] 34 (0, 0)) ∧ w4.heap[S + 1 + 1]? = some (.cells #[.bool false] 4 (0, 0))) := Hid.mk ⟨hK4, hs4, hG4, hq4, hz4⟩
  have GG := Hid.mk g
  have cw := And.intro g.w0 g.w1
  have ch := And.intro g.h0 g.h1
  have HS := Hid.mk eS
  clear hK4 hs4 hG4 g hS hk4 hk3 hk2 hk1 hb1 hb2 hb3 EW C0 C1 C2 hsw hsh hP4 hq4 hz4
  simp only [← eB, ← eS]
  clear eB eS
  go_wp2_with (fail)
  obtain ⟨w5, ew5, hk5, hg5⟩ := one_new w4 #[.pointer (some ⟨P, 0, none⟩)] 45
  rw [← ew5]
  clear ew5
  obtain ⟨gb, egb⟩ : ∃ gb, gb = w4.heap.size := ⟨_, rfl⟩
  rw [← egb] at hg5 ⊢
  clear egb
  have hB5 := hk5.heap hBP.out.2.1 (by simp)
  have hq5 := hk5.heap hBP.out.2.2.2.1 (by simp)
  have H5 : Hid (Kept [] w w5 ∧ Gr w5 P W H D A sw sh c r ∧ w5.heap[S + 1 + 1]? = some (.cells #[.bool false] 4 (0, 0)) ∧ w5.heap[gb]? = some (.cells #[.pointer (some ⟨P, 0, none⟩)] 45 (0, 0)) ∧ w5.heap[B]? = some (.cells #[.int .i64 W, .int .i64 H, .int .i64 D, .bool A] 32 (0, 0)) ∧ w5.heap[S + 1]? = some (.cells #[.int .i64 qx, .int .i64 qy, .int .i64 qw, .int .i64 qh] 34 (0, 0))) := Hid.mk ⟨hBP.out.1.trans hk5, hBP.out.2.2.1.keep hk5 (by simp), hk5.heap hBP.out.2.2.2.2 (by simp), hg5, hB5, hq5⟩
  obtain ⟨⟨s0, s1, s2, s3⟩, _⟩ := four hB5
  obtain ⟨⟨q0, q1, q2, q3⟩, _⟩ := four hq5
  clear hBP hk5 hg5 hB5 hq5
  have HKK := Hid.mk (show ∀ u, Kept [] w5 u → u.cell? ⟨S + 1, 0, none⟩ = some (.int .i64 qx) ∧ u.cell? ⟨S + 1, 1, none⟩ = some (.int .i64 qy) ∧ u.cell? ⟨B, 0, none⟩ = some (.int .i64 W) ∧ u.cell? ⟨B, 1, none⟩ = some (.int .i64 H) from fun u h => ⟨cell_keep h q0 (by simp), cell_keep h q1 (by simp), cell_keep h s0 (by simp), cell_keep h s1 (by simp)⟩)
  go_cut [11] from 54 to 65 (fun s wc => ∃ R X Y, s = .pointer (some ⟨R, 0, none⟩) ∧ Kept [] w5 wc ∧ w5.heap.size ≤ R ∧ wc.heap[R]? = some (.cells #[.int .i64 X, .int .i64 Y, .int .i64 0, .int .i64 0] 34 (0, 0)) ∧ (0 ≤ X ∧ X < W) ∧ 0 ≤ Y ∧ Y < H)
  case first =>
    have D3 := Hid.mk (fun u => C3.out W u (by omega))
    have D4 := Hid.mk (fun u => C4.out H u (by omega))
    have px0 := pick_lo qx W (by omega)
    have px1 := pick_hi qx W (by omega)
    have py0 := pick_lo qy H (by omega)
    have py1 := pick_hi qy H (by omega)
    obtain ⟨X, eX⟩ : ∃ X, X = pick qx W := ⟨_, rfl⟩
    obtain ⟨Y, eY⟩ : ∃ Y, Y = pick qy H := ⟨_, rfl⟩
    simp only [← eX, ← eY] at px0 px1 py0 py1 D3 D4
    clear eX eY C3 C4 C5 C6
    go_region_held3 (fun u => u.cell? ⟨S + 1, 0, none⟩ = some (.int .i64 qx) ∧ u.cell? ⟨S + 1, 1, none⟩ = some (.int .i64 qy) ∧ u.cell? ⟨B, 0, none⟩ = some (.int .i64 W) ∧ u.cell? ⟨B, 1, none⟩ = some (.int .i64 H)) (first | exact HKK.out _ (Kept.refl _ _) | (refine HKK.out _ ?_; repeat' (first | with_reducible exact Kept.refl _ _ | with_reducible refine Kept.drew ?_ | with_reducible refine Kept.alloc ?_ _ | with_reducible refine Kept.setCell ?_ (.inr (by simp)) _))) (first | (go_at_call_of 11 qx; refine (D3.out _).mono ?_; rintro e w2 ⟨rfl, hw⟩; obtain rfl := hw.symm) | (go_at_call_of 11 qy; refine (D4.out _).mono ?_; rintro e w2 ⟨rfl, hw⟩; obtain rfl := hw.symm))
    all_goals go_wp2
    all_goals go_meet
    all_goals exact ⟨_, X, Y, rfl, (alloc_kept _ _).drew, Nat.le_refl _, heap_alloc_new _ _, ⟨px0, px1⟩, py0, py1⟩
  case rest =>
    obtain ⟨R, X, Y, rfl, hkc, hR, hRb, px, py⟩ := hcut
    have HKc := Hid.mk hkc
    have s0' := cell_keep hkc s0 (by simp)
    have s1' := cell_keep hkc s1 (by simp)
    have q2' := cell_keep hkc q2 (by simp)
    have q3' := cell_keep hkc q3 (by simp)
    have lB := lt_of_block H5.out.2.2.2.2.1
    have lS := lt_of_block H5.out.2.2.2.2.2
    have HL := Hid.mk (And.intro hR (And.intro lB lS))
    clear s0 s1 s2 s3 q0 q1 q2 q3 HKK hkc
    obtain ⟨⟨r0, r1, r2, r3⟩, f0, f1, f2, f3⟩ := four hRb
    have HR0 := Hid.mk hRb
    clear hRb
    have nB : B ≠ R := by omega
    have nS : S + 1 ≠ R := by omega
    go_wp2_with (fail)
    refine (C5.out (W - X) _ (by omega)).mono ?_
    rintro e6 w6 ⟨rfl, hw⟩
    obtain rfl := hw.symm
    have pw0 := pick_lo qw (W - X) (by omega)
    have pw1 := pick_hi qw (W - X) (by omega)
    obtain ⟨pw, epw⟩ : ∃ X', X' = pick qw (W - X) := ⟨_, rfl⟩
    simp only [← epw] at pw0 pw1 ⊢
    clear epw
    go_wp2_with (fail)
    refine (C6.out (H - Y) _ (by omega)).mono ?_
    rintro e7 w7 ⟨rfl, hw⟩
    obtain rfl := hw.symm
    have ph0 := pick_lo qh (H - Y) (by omega)
    have ph1 := pick_hi qh (H - Y) (by omega)
    obtain ⟨ph, eph⟩ : ∃ X', X' = pick qh (H - Y) := ⟨_, rfl⟩
    simp only [← eph] at ph0 ph1 ⊢
    clear eph C3 C4 C5 C6
    go_upto_region 9 with (fail)
    have k1 := heap_setCell_at (i := 2) (u := .int .i64 (1 + pw)) HR0.out
    have k2 := heap_setCell_at (i := 3) (u := .int .i64 (1 + ph)) k1
    have k3 := (((Kept.refl [R] wc).setCell (p := ⟨R, 2, none⟩) (.inl (by simp)) (.int .i64 (1 + pw)))).setCell (p := ⟨R, 3, none⟩) (.inl (by simp)) (.int .i64 (1 + ph))
    obtain ⟨rw, erw⟩ : ∃ z, z = 1 + pw := ⟨_, rfl⟩
    obtain ⟨rh, erh⟩ : ∃ z, z = 1 + ph := ⟨_, rfl⟩
    rw [← erw, ← erh] at k2 k3
    simp only [← erw, ← erh]
    obtain ⟨w8, ew8⟩ : ∃ w8, w8 = (wc.setCell ⟨R, 2, none⟩ (.int .i64 rw)).setCell ⟨R, 3, none⟩ (.int .i64 rh) := ⟨_, rfl⟩
    rw [← ew8] at k2 k3 ⊢
    have k4 : w8.heap[R]? = some (.cells #[.int .i64 X, .int .i64 Y, .int .i64 rw, .int .i64 rh] 34 (0, 0)) := by simpa using k2
    have hw1 : 1 ≤ rw := by omega
    have hh1 : 1 ≤ rh := by omega
    have hw2 : X + rw ≤ W := by omega
    have hh2 : Y + rh ≤ H := by omega
    have K8 := HKc.out.step k3 (fun x hx => by simp at hx; subst hx; exact .inr hR)
    have H8 : Hid (Kept [] w w8 ∧ Gr w8 P W H D A sw sh c r ∧ w8.heap[S + 1 + 1]? = some (.cells #[.bool false] 4 (0, 0)) ∧ w8.heap[gb]? = some (.cells #[.pointer (some ⟨P, 0, none⟩)] 45 (0, 0)) ∧ w8.heap[B]? = some (.cells #[.int .i64 W, .int .i64 H, .int .i64 D, .bool A] 32 (0, 0)) ∧ w8.heap[R]? = some (.cells #[.int .i64 X, .int .i64 Y, .int .i64 rw, .int .i64 rh] 34 (0, 0))) := Hid.mk ⟨H5.out.1.trans K8, H5.out.2.1.keep K8 (by simp), K8.heap H5.out.2.2.1 (by simp), K8.heap H5.out.2.2.2.1 (by simp), K8.heap H5.out.2.2.2.2.1 (by simp), k4⟩
    have gb8 := one_cell (K8.heap H5.out.2.2.2.1 (by simp))
    clear r0 r1 r2 r3 f0 f1 f2 f3
    obtain ⟨⟨r0, r1, r2, r3⟩, _⟩ := four k4
    clear k1 k2 k3 k4 ew8 erw erh pw0 pw1 ph0 ph1 nB nS s0' s1' q2' q3' lB lS HL HKc HR0 H5 K8 hR
    have EF : ∀ (u : World) f a b, (binOp .eql 58 (.func f a b) .nilFunc).run Try.prog u = .ok (.bool false) u := fun u f a b => eq_func u f a b Try.underlying58
    go_wp2_with (fail)
    refine (ttouch_ok P W H D sw sh c r X Y rw rh A _ H8.out.2.1 GG.out px.1 py.1 hw1 hh1 hw2 hh2).mono ?_
    rintro e9 w9 ⟨b1, b2, b3, b4, rfl, hk9, hcl9⟩
    have gb9 := cell_keep hk9 gb8 (by simp)
    clear r0 r1 r2 r3 gb8
    go_wp2_with (fail)
    refine (count_any' P W H D sw sh c r A _ (H8.out.2.1.keep hk9 (by simp)) GG.out.c0 GG.out.c1 GG.out.r0 GG.out.r1).mono ?_
    rintro e10 w10 ⟨rfl, hk10⟩
    have hn1 : c * r ≤ 65536 := Int.mul_le_mul (a := c) (b := r) (c := 256) (d := 256) GG.out.c1 GG.out.r1 (by have := GG.out.r0; omega) (by omega)
    have hn0 : 0 ≤ c * r := Int.mul_nonneg (by have := GG.out.c0; omega) (by have := GG.out.r0; omega)
    obtain ⟨n, en⟩ : ∃ n : Nat, (n : Int) = c * r := ⟨(c * r).toNat, by omega⟩
    rw [← en] at hn1 ⊢
    have EN := Hid.mk en
    clear en hn0
    obtain ⟨mkW, hmk, hmw⟩ := make_bools n (by omega)
    have HMW := Hid.mk hmw
    have gb10 := cell_keep hk10 gb9 (by simp)
    clear hmw gb9
    have lnb : ∀ x ∈ [S + 1 + 1, gb, B, R, P, b1, b2, b3, b4], x < w10.heap.size := by
      have K10 := hk9.trans hk10
      have l1 := lt_of_block (K10.heap H8.out.2.2.1 (by simp))
      have l2 := lt_of_block (K10.heap H8.out.2.2.2.1 (by simp))
      have l3 := lt_of_block (K10.heap H8.out.2.2.2.2.1 (by simp))
      have l4 := lt_of_block (K10.heap H8.out.2.2.2.2.2 (by simp))
      have l5 := lt_of_block (K10.heap H8.out.2.1 (by simp))
      have c10 := hcl9.keep hk10
      have l6 : b1 < w10.heap.size := World.block_lt_of_cell? w10 _ c10.1
      have l7 : b2 < w10.heap.size := World.block_lt_of_cell? w10 _ c10.2.1
      have l8 : b3 < w10.heap.size := World.block_lt_of_cell? w10 _ c10.2.2.1
      have l9 : b4 < w10.heap.size := World.block_lt_of_cell? w10 _ c10.2.2.2
      intro x hx
      simp only [List.mem_cons, List.not_mem_nil, or_false] at hx
      rcases hx with rfl | rfl | rfl | rfl | rfl | rfl | rfl | rfl | rfl <;> assumption
    have HNB := Hid.mk lnb
    clear lnb
    go_upto_region 14 with (fail)
    obtain ⟨wa, ewa, hka, hna⟩ := one_new w10 #[.int .i64 (n : Int)] 3
    rw [← ewa]
    have hsa : wa.heap.size = w10.heap.size + 1 := by rw [ewa, World.size_alloc]
    obtain ⟨hib, hkm⟩ := HMW.out wa
    obtain ⟨w11, ew11, hk11, hs11⟩ := one_new (mkW wa) #[.slice (some ⟨w10.heap.size + 1, 0, none⟩) n n] 61
    rw [← ew11]
    rw [hsa] at hib
    have lib := lt_of_block hib
    have l11 := lt_of_block hs11
    have K11 := ((hk9.trans hk10).trans hka).trans (hkm.trans hk11)
    obtain ⟨f, ef⟩ : ∃ f, f = sA c sw sh X Y := ⟨_, rfl⟩
    obtain ⟨l, el⟩ : ∃ f, f = sA c sw sh (X + rw - 1) (Y + rh - 1) := ⟨_, rfl⟩
    obtain ⟨wd, ewd⟩ : ∃ wd, wd = (X + rw - 1) / sw - X / sw := ⟨_, rfl⟩
    rw [← ef, ← el, ← ewd] at hcl9
    have cl11 := hcl9.keep ((hk10.trans hka).trans (hkm.trans hk11))
    obtain ⟨nb, enb⟩ : ∃ nb, nb = w10.heap.size := ⟨_, rfl⟩
    obtain ⟨sb, esb⟩ : ∃ sb, sb = (mkW wa).heap.size := ⟨_, rfl⟩
    have hna11 := (hkm.trans hk11).heap hna (by simp)
    have hib11 := hib.keep hk11 (by simp)
    rw [← enb] at hna11 hib11 hs11 HNB lib
    rw [← esb] at hs11 l11 lib
    simp only [← enb, ← esb]
    have E11 : Hid (En w11 (sb + 1) (S + 1 + 1) gb B R nb sb P b1 b2 b3 b4 (nb + 1) n X Y rw rh W H D sw sh c r f l wd A) := Hid.mk ⟨K11.heap H8.out.2.2.1 (by simp), K11.heap H8.out.2.2.2.1 (by simp), K11.heap H8.out.2.2.2.2.1 (by simp), K11.heap H8.out.2.2.2.2.2 (by simp), hna11, hs11, H8.out.2.1.keep K11 (by simp), cl11.1, cl11.2.1, cl11.2.2.1, cl11.2.2.2, fun x hx => by
      by_cases e1 : x = nb
      · omega
      by_cases e2 : x = sb
      · omega
      have h8 := HNB.out x (by simp only [List.mem_cons, List.not_mem_nil, or_false] at hx ⊢; omega)
      omega⟩
    have HKw := Hid.mk (H8.out.1.trans K11)
    have Hib := Hid.mk hib11
    have HE := Hid.mk (And.intro ef (And.intro el ewd))
    have hlt11 : Hid (nb + 1 < sb ∧ sb < w11.heap.size ∧ w.heap.size ≤ nb) := Hid.mk ⟨lib, l11, by rw [enb]; exact (H8.out.1.trans (hk9.trans hk10)).size⟩
    obtain ⟨px0, px1⟩ := px
    obtain ⟨py0, py1⟩ := py
    obtain ⟨⟨r0, r1, r2, r3⟩, _⟩ := four E11.out.hR
    clear hk9 hk10 hka hna hsa hib hkm hk11 K11 ef el ewd hcl9 cl11 HNB enb lib l11 hs11 esb hna11 hib11 ewa ew11 hmk HMW gb10 H8
    go_wp2
    go_loopw [15] (fun y wr => ∃ (j : Int) (F : Nat → Bool), Y ≤ j ∧ j ≤ Y + rh ∧ y = .int .i64 j ∧ Kept [nb + 1] w11 wr ∧ Bs wr (nb + 1) n F ∧ ∀ k < n, (F k = true ↔ Pm c sw sh X Y rw j X k)) (fun y _ => (Y + rh - intOf y).toNat)
    case atStart => exact ⟨Y, fun _ => false, by omega, by omega, rfl, Kept.refl _ _, Hib.out, fun k hk => by simp; exact pm_start _ _ _ _ _ _ _⟩
    case round =>
      obtain ⟨j, F, hj0, hj1, rfl, hkr, hB, hF⟩ := hrel
      have HE1 := Hid.mk (E11.out.keep hkr (by simp))
      clear r0 r1 r2 r3
      obtain ⟨⟨r0, r1, r2, r3⟩, _⟩ := four HE1.out.hR
      have HI := Hid.mk (And.intro hkr (And.intro hB hF))
      clear hkr hB hF
      by_cases hlt : j < Y + rh
      · go_wp2
        go_loopw [16] (fun x wr => ∃ (i : Int) (F : Nat → Bool), X ≤ i ∧ i ≤ X + rw ∧ x = .int .i64 i ∧ Kept [nb + 1] w11 wr ∧ Bs wr (nb + 1) n F ∧ ∀ k < n, (F k = true ↔ Pm c sw sh X Y rw j i k)) (fun x _ => (X + rw - intOf x).toNat)
        case atStart => exact ⟨X, F, by omega, by omega, rfl, HI.out.1, HI.out.2.1, HI.out.2.2⟩
        case round =>
          obtain ⟨i, F2, hi0, hi1, rfl, hkr, hB, hF⟩ := hrel
          have HE2 := Hid.mk (E11.out.keep hkr (by simp))
          clear r0 r1 r2 r3
          obtain ⟨⟨r0, r1, r2, r3⟩, _⟩ := four HE2.out.hR
          have gc := one_cell HE2.out.hgb
          have HI2 := Hid.mk (And.intro hkr (And.intro hB hF))
          clear hkr hB hF
          by_cases hil : i < X + rw
          · go_wp2_with (fail)
            refine (tat_ok P W H D sw sh c r i j A _ HE2.out.gr GG.out (by omega) (by omega) (by omega) (by omega)).mono ?_
            rintro e13 w13 ⟨rfl, hk13⟩
            have hk := sA_in GG.out (x := i) (y := j) (by omega) (by omega) (by omega) (by omega)
            obtain ⟨kk, ekk⟩ : ∃ kk : Nat, (kk : Int) = sA c sw sh i j := ⟨(sA c sw sh i j).toNat, by omega⟩
            rw [← ekk]
            have hkn : kk < n := by have := EN.out; omega
            have EK := Hid.mk ekk
            clear ekk hk r0 r1 r2 r3 gc
            have HE3 := Hid.mk (HE2.out.keep hk13 (by simp))
            have nc := one_cell HE3.out.hnb
            have sc := one_cell HE3.out.hsb
            have HB3 := Hid.mk (HI2.out.2.1.keep hk13 (by simp))
            obtain ⟨bc, bf⟩ := HB3.out.at hkn
            have hki : (kk : Int) < (n : Int) := by omega
            go_wp2
            go_roundw
            case rel =>
              have h9 := HB3.out.set kk true
              refine ⟨i + 1, _, by omega, by omega, rfl, (HI2.out.1.trans (hk13.mono (by simp))).trans h9.2, h9.1, fun k hk => ?_⟩
              rw [pm_step hi0 hil hj0]
              by_cases e : k = kk
              · subst e; simp [EK.out]
              · have e2 : ¬ (k : Int) = sA c sw sh i j := by have := EK.out; omega
                simp only [e, if_false, e2, false_or]
                exact HI2.out.2.2 k hk
            case measure => simp [intOf]; omega
          · obtain rfl : X + rw = i := by omega
            go_wp2
            go_roundw
            case rel => exact ⟨j + 1, F2, by omega, by omega, rfl, HI2.out.1, HI2.out.2.1, fun k hk => (HI2.out.2.2 k hk).trans pm_row⟩
            case measure => simp [intOf]; omega
      · obtain rfl : Y + rh = j := by omega
        go_wp2_with (fail)
        obtain ⟨w12, ew12, hk12, hl12⟩ := one_new wr #[.int .i64 (-1)] 3
        rw [← ew12]
        clear ew12 r0 r1 r2 r3
        have hwr := HI.out.1.size
        have E12 := Hid.mk (HE1.out.keep hk12 (by simp))
        have hB12 := HI.out.2.1.keep hk12 (by simp)
        obtain ⟨lb, elb⟩ : ∃ lb, lb = wr.heap.size := ⟨_, rfl⟩
        rw [← elb] at hl12 hwr
        simp only [← elb]
        have hF12 := HI.out.2.2
        have llb := lt_of_block hl12
        have lib12 := lt_of_block hB12
        have hlt := hlt11.out
        have HK12 := Hid.mk ((HKw.out.step HI.out.1 (fun x hx => by simp at hx; subst hx; right; omega)).trans hk12)
        clear elb hk12 HI HE1
        have tc := tc_of GG.out px0 py0 hw1 hh1 hw2 hh2
        rw [← HE.out.1, ← HE.out.2.1, ← HE.out.2.2] at tc
        have hpe := fun k => pm_end GG.out px0 py0 hw1 hh1 hw2 hh2 (nr := ((Y + rh - 1) / sh - Y / sh + 1).toNat) (wd1 := (wd + 1).toNat) (by have := tc.n0; omega) (by rw [← HE.out.2.2]; have := tc.w0; omega) k
        rw [← HE.out.1] at hpe
        obtain ⟨nr, enr⟩ : ∃ nr, nr = ((Y + rh - 1) / sh - Y / sh + 1).toNat := ⟨_, rfl⟩
        obtain ⟨wd1, ewd1⟩ : ∃ wd1, wd1 = (wd + 1).toNat := ⟨_, rfl⟩
        simp only [← enr, ← ewd1] at tc hpe
        clear enr ewd1
        have hval : ∀ t, t < nr * wd1 → ∃ kk : Nat, kk < n ∧ (kk : Int) = tv f c wd1 t := fun t ht => by
          obtain ⟨x', y', h1, h2, h3, h4, h5⟩ := (hpe (tv f c wd1 t)).2 ⟨t, ht, rfl⟩
          have h6 := sA_in GG.out (x := x') (y := y') (by omega) (by omega) (by omega) (by omega)
          rw [h5] at h6
          exact ⟨(tv f c wd1 t).toNat, by have := EN.out; omega, by omega⟩
        have HT := Hid.mk tc
        have HV := Hid.mk hval
        have lt12 := E12.out.lt
        have nl : ∀ x ∈ [S + 1 + 1, gb, B, R, nb, sb, P, b1, b2, b3, b4], x ∉ [nb + 1, lb] := fun x hx hm => by
          have h1 := lt12 x hx
          simp at hm
          omega
        have NL := Hid.mk nl
        clear hval nl lt12
        refine range_touch tc.c0 tc.n0 tc.w0 tc.wq tc.wc tc.f0 tc.lq tc.l1 tc.c1 rfl rfl E12.out.c1 E12.out.c2 E12.out.c3 E12.out.c4 (eight E12.out.gr).2.2.2.2.2.2.1 [nb + 1, lb] (fun x hx => by simp at hx; omega) (NL.out _ (by simp)) (NL.out _ (by simp)) (NL.out _ (by simp)) (NL.out _ (by simp)) (NL.out _ (by simp))
          (fun t V => ∃ (F : Nat → Bool) (z : Int), Bs V (nb + 1) n F ∧ (∀ k < n, (F k = true ↔ ∃ t', t ≤ t' ∧ t' < nr * wd1 ∧ tv f c wd1 t' = (k : Int))) ∧ V.heap[lb]? = some (.cells #[.int .i64 z] 3 (0, 0)) ∧ -1 ≤ z ∧ z ≤ 65536 ∧ (t < nr * wd1 → z < tv f c wd1 t))
          (fun t V V' h hB => by
            obtain ⟨F, z, h1, h2, h3, h4, h5, h6⟩ := h
            exact ⟨F, z, by unfold Bs; rw [hB _ lib12]; exact h1, h2, by rw [hB _ llb]; exact h3, h4, h5, h6⟩)
          ⟨F, -1, hB12, fun k hk => (hF12 k hk).trans ((hpe k).trans ⟨fun ⟨t, h1, h2⟩ => ⟨t, Nat.zero_le _, h1, h2⟩, fun ⟨t, _, h1, h2⟩ => ⟨t, h1, h2⟩⟩), hl12, by omega, by omega, fun h0 => by obtain ⟨kk, _, h⟩ := HV.out 0 h0; omega⟩ ?body ?done
        case body =>
          clear hpe hF12 hB12 hl12 tc
          intro t V ht hkV hsV hu
          obtain ⟨kk, hkn, ekk⟩ := HV.out t ht
          rw [← ekk]
          have EK0 := Hid.mk ekk
          clear ekk
          gi_wp2
          refine ⟨trivial, fun Vb hkb hsb hub => ?_⟩
          obtain ⟨F3, z, hB3, hF3, hz3, z0, z1, z2⟩ := hub
          have z3 : z < (kk : Int) := by first | exact z2 ht | (rw [EK0.out]; exact z2 ht)
          have hft : F3 kk = true := (hF3 kk hkn).2 ⟨t, Nat.le_refl _, ht, EK0.out.symm⟩
          have EV := Hid.mk (E12.out.keep hkb (fun x hx => by simp at hx; omega))
          have zc := one_cell hz3
          have zf : Vb.frozen? ⟨lb, 0, none⟩ = false := by unfold World.frozen?; rw [hz3]; rfl
          have nc := one_cell EV.out.hnb
          have sc := one_cell EV.out.hsb
          obtain ⟨bc, bf⟩ := hB3.at hkn
          rw [hft] at bc
          have hki : (kk : Int) < (n : Int) := by omega
          have HB3 := Hid.mk (And.intro hB3 (And.intro hF3 hz3))
          have EKK := Hid.mk (And.intro EK0.out ht)
          have hne : nb + 1 ≠ lb := by omega
          clear hB3 hF3 hz3 z2 hkb hsb hkV hsV hu ht hft
          gi_wp2
          have s1 := HB3.out.1.set kk false
          have hz4 : (Vb.setCell ⟨nb + 1, kk, none⟩ (.bool false)).heap[lb]? = some (.cells #[.int .i64 z] 3 (0, 0)) := s1.2.heap HB3.out.2.2 (by simp; omega)
          have s2 := heap_setCell_at (i := 0) (u := .int .i64 (kk : Int)) hz4
          have s3 := (Kept.refl [lb] (Vb.setCell ⟨nb + 1, kk, none⟩ (.bool false))).setCell (p := ⟨lb, 0, none⟩) (.inl (by simp)) (.int .i64 (kk : Int))
          refine ⟨(s1.2.mono (by simp)).trans (s3.mono (by simp)), _, s1.1.keep s3 (by simpa using hne), fun k hk => ?_, (kk : Int), by simpa using s2, by omega, by omega, fun h => by rw [EKK.out.1]; exact tv_lt HT.out.w0 HT.out.wc (by omega)⟩
          by_cases e : k = kk
          · subst e
            simp only [if_true]
            constructor
            · intro h; cases h
            · rintro ⟨t', h1, h2, h3⟩
              have h4 := tv_lt (f := f) HT.out.w0 HT.out.wc (show t < t' by omega)
              rw [h3, EKK.out.1] at h4
              omega
          · simp only [e, if_false]
            rw [HB3.out.2.1 k hk]
            constructor
            · rintro ⟨t', h1, h2, h3⟩
              refine ⟨t', ?_, h2, h3⟩
              rcases Nat.eq_or_lt_of_le h1 with h4 | h4
              · subst h4; rw [← EKK.out.1] at h3; omega
              · exact h4
            · rintro ⟨t', h1, h2, h3⟩
              exact ⟨t', by omega, h2, h3⟩
        case done =>
          clear hpe hF12 hB12 hl12 tc
          intro V hkV hu hsV hKV
          obtain ⟨F4, z4, hB4, hF4, _, _, _, _⟩ := hu
          have hF5 : ∀ k < n, F4 k = false := fun k hk => by
            cases h : F4 k
            · rfl
            · obtain ⟨t', h1, h2, _⟩ := (hF4 k hk).1 h
              omega
          have EV := Hid.mk (E12.out.keep hkV (fun x hx => by simp at hx; omega))
          have nc := one_cell EV.out.hnb
          have sc := one_cell EV.out.hsb
          have HVk := Hid.mk (And.intro (HK12.out.step hkV (fun x hx => by simp at hx; right; rcases hx with h | h <;> omega)) hKV)
          have HB4 := Hid.mk hB4
          have HF5 := Hid.mk hF5
          clear hkV hKV hB4 hF4 hF5
          go_wp2
          go_loopw [21] (fun x wr => ∃ k : Nat, k ≤ n ∧ x = .int .i64 (k : Int) ∧ wr = V) (fun x _ => n - (intOf x).toNat)
          case atStart => exact ⟨0, by omega, rfl, rfl⟩
          case round =>
            obtain ⟨k, hk, rfl, rfl⟩ := hrel
            by_cases hkl : k < n
            · obtain ⟨bc, bf⟩ := HB4.out.at hkl
              rw [HF5.out k hkl] at bc
              have hki : (k : Int) < (n : Int) := by omega
              go_wp2
              go_roundw
              case rel => first | exact ⟨k + 1, by omega, by congr 1, rfl⟩ | exact ⟨k + 1, by omega, by congr 1, trivial⟩ | exact ⟨k + 1, by omega, by congr 1⟩
              case measure => simp [intOf]; omega
            · obtain rfl : n = k := by omega
              clear nc sc
              obtain ⟨⟨s0, s1, _, _⟩, _⟩ := four EV.out.hB
              have gc := one_cell EV.out.hgb
              have nc := one_cell EV.out.hnb
              go_wp2_with (fail)
              refine (ttouch_ok P W H D sw sh c r 0 0 W H A _ EV.out.gr GG.out (by omega) (by omega) cw.1 ch.1 (by omega) (by omega)).mono ?_
              rintro e20 w20 ⟨d1, d2, d3, d4, rfl, hk20, hcl20⟩
              have ew1 : sA c sw sh 0 0 = 0 := by unfold sA; simp
              have ew2 := whole_x GG.out
              have ew3 := whole_l GG.out
              rw [ew1, ew3, ew2, Int.zero_ediv, Int.sub_zero] at hcl20
              clear ew1 ew2 ew3 s0 s1 gc nc
              go_wp2_with (fail)
              obtain ⟨w21, ew21, hk21, hi21⟩ := one_new w20 #[.int .i64 0] 3
              rw [← ew21]
              clear ew21
              have E21 := Hid.mk ((EV.out.keep hk20 (by simp)).keep hk21 (by simp))
              have cl21 := hcl20.keep hk21
              have hsz20 := hk20.size
              obtain ⟨kb, ekb⟩ : ∃ kb, kb = w20.heap.size := ⟨_, rfl⟩
              have l1 : d1 < w20.heap.size := World.block_lt_of_cell? w20 _ hcl20.1
              have l2 : d2 < w20.heap.size := World.block_lt_of_cell? w20 _ hcl20.2.1
              have l3 : d3 < w20.heap.size := World.block_lt_of_cell? w20 _ hcl20.2.2.1
              have l4 : d4 < w20.heap.size := World.block_lt_of_cell? w20 _ hcl20.2.2.2
              have l5 := lt_of_block (hk20.heap EV.out.gr (by simp))
              rw [← ekb] at hi21 l1 l2 l3 l4 l5 hsz20
              simp only [← ekb]
              have lkb := lt_of_block hi21
              have K21 := Hid.mk (And.intro (HVk.out.1.trans (hk20.trans hk21)) ((hk20.trans hk21).heap HVk.out.2 (by simp)))
              have hcr := Hid.mk (show c = ((c.toNat : Nat) : Int) ∧ r = ((r.toNat : Nat) : Int) ∧ (n : Int) = c * r by have := GG.out.c0; have := GG.out.r0; exact ⟨by omega, by omega, EN.out⟩)
              have hN : Hid (r.toNat * c.toNat = n) := Hid.mk (by
                have h1 := hcr.out
                have h2 : ((r.toNat * c.toNat : Nat) : Int) = c * r := by rw [Int.natCast_mul, ← h1.1, ← h1.2.1, Int.mul_comm]
                show r.toNat * c.toNat = n
                omega)
              have HKB : Hid (w12.heap.size ≤ kb) := Hid.mk (by omega)
              clear hk20 hk21 hcl20 EV HVk HB4 HF5 hsV ekb
              refine range_touch (nr := r.toNat) (wd1 := c.toNat) (f := 0) (l := c * r - 1) (c := c) (wd := c - 1) GG.out.c0 (by have := GG.out.r0; omega) (by have := GG.out.c0; omega) (by have := GG.out.c0; omega) (by have := GG.out.c0; omega) (by omega) (by rw [← hcr.out.2.1, Int.sub_mul, Int.mul_comm r c]; omega) (by have := EN.out; omega) GG.out.c1 rfl rfl cl21.1 cl21.2.1 cl21.2.2.1 cl21.2.2.2 (eight E21.out.gr).2.2.2.2.2.2.1 [kb] (fun x hx => by simp at hx; omega) (by simp; omega) (by simp; omega) (by simp; omega) (by simp; omega) (by simp; omega)
                (fun t V => V.heap[kb]? = some (.cells #[.int .i64 (t : Int)] 3 (0, 0))) (fun t V V' h hB => by rw [hB _ lkb]; exact h) hi21 ?body2 ?done2
              case body2 =>
                intro t V ht hkV hsV hu
                rw [tv_whole' hcr.out.1]
                rw [hN.out] at ht
                have ht2 : (t : Int) ≤ 65536 := by omega
                gi_wp2
                refine ⟨trivial, fun Vb hkb hsb hub => ?_⟩
                have zc := one_cell hub
                have zf : Vb.frozen? ⟨kb, 0, none⟩ = false := by unfold World.frozen?; rw [hub]; rfl
                have HU := Hid.mk hub
                clear hub hkb hsb hkV hsV hu
                gi_wp2
                have s2 := heap_setCell_at (i := 0) (u := .int .i64 ((t : Int) + 1)) HU.out
                exact ⟨(Kept.refl [kb] Vb).setCell (.inl (by simp)) _, by simpa using s2⟩
              case done2 =>
                intro V hkV hu hsV hKV
                rw [hN.out] at hu
                have EV := Hid.mk (E21.out.keep hkV (fun x hx => by simp at hx; subst hx; right; have := HKB.out; omega))
                have gc := one_cell EV.out.hgb
                have hukb := hu
                obtain ⟨w31, ew31, hk31, hj31⟩ := one_new V #[.int .i64 0] 3
                have hw31 := ew31.symm
                clear ew31
                have jc := one_cell hj31
                have jf : w31.frozen? ⟨V.heap.size, 0, none⟩ = false := by unfold World.frozen?; rw [hj31]; rfl
                have lgb : gb < V.heap.size := lt_of_block EV.out.hgb
                have k33 : Kept [V.heap.size] w31 (w31.setCell ⟨V.heap.size, 0, none⟩ (.int .i64 0)) := (Kept.refl _ _).setCell (.inl (by simp)) _
                have gc33 := cell_keep k33 (cell_keep hk31 gc (by simp)) (by simp; omega)
                have hj33 := heap_setCell_at (i := 0) (u := .int .i64 0) hj31
                go_wp2_with (fail)
                obtain ⟨w33, hw33⟩ : ∃ w33, w31.setCell ⟨V.heap.size, 0, none⟩ (.int .i64 0) = w33 := ⟨_, rfl⟩
                rw [hw33] at k33 hj33 ⊢
                have gr33 := (EV.out.gr.keep hk31 (by simp)).keep k33 (by simp; have := lt_of_block EV.out.gr; omega)
                clear hw31 gc33 jc jf hw33
                refine (tall_new P W H D sw sh c r A _ gr33 GG.out).mono ?_
                rintro e32 w32 ⟨f1, g1, c1, c2, c3, c4, hnw, rfl, hk32, hf32, hg32, hcl32⟩
                go_wp2_with (fail)
                have ljb : V.heap.size < w33.heap.size := lt_of_block hj33
                have gr32 := gr33.keep hk32 (by simp)
                have hj32 : w32.heap[V.heap.size]? = some (.cells #[.int .i64 ((0 : Nat) : Int)] 3 (0, 0)) := hk32.heap hj33 (by simp)
                have E32 := Hid.mk (((EV.out.keep hk31 (by simp)).keep k33 (fun x hx => by simp at hx; subst hx; right; have := HKB.out; have := hlt; omega)).keep hk32 (by simp))
                have sz32 := hk32.size
                have lP := lt_of_block EV.out.gr
                have hm : ∀ x ∈ [f1, g1, c1, c2, c3, c4, P], x ∉ [V.heap.size] := by
                  intro x hx
                  simp at hx ⊢
                  omega
                clear hnw
                refine range_all (nr := r.toNat) (wd1 := c.toNat) GG.out hcr.out.1 hcr.out.2.1 rfl rfl hf32 hg32 gr32 hcl32 [V.heap.size] (fun x hx => by simp at hx; omega) hm
                  (fun t V' => V'.heap[V.heap.size]? = some (.cells #[.int .i64 (t : Int)] 3 (0, 0))) (fun t V1 V2 h hB => by rw [hB _ (by omega)]; exact h) hj32 ?body3 ?done3
                case body3 =>
                  intro t U ht hkU hsU hu
                  rw [hN.out] at ht
                  have ht2 : (t : Int) ≤ 65536 := by omega
                  gi_wp2
                  refine ⟨alloc_kept _ _, fun Wb rb hWb hkb hsb hub => ?_⟩
                  have z0 : t < 65536 + 1 := by omega
                  have jc := one_cell hub
                  have EB := Hid.mk (E32.out.keep hkb (fun x hx => by simp at hx; subst hx; right; have := HKB.out; have := hlt; omega))
                  have gcb := one_cell EB.out.hgb
                  have tb : Wb.heap[U.heap.size]? = some (.cells #[.int .i64 (sX c sw (t : Int)), .int .i64 (sY c sh (t : Int)), .int .i64 (min sw (W - sX c sw (t : Int))), .int .i64 (min sh (H - sY c sh (t : Int)))] 34 (0, 0)) := by
                    rw [hWb, World.putObj_heap_other (by omega)]; exact heap_alloc_new _ _
                  have HTB := Hid.mk tb
                  have jf : Wb.frozen? ⟨V.heap.size, 0, none⟩ = false := by unfold World.frozen?; rw [hub]; rfl
                  have HUB := Hid.mk hub
                  clear hub hWb tb hkU hsU hu hkb
                  gi_wp2
                  refine ⟨trivial, rfl, (CallsIn.inRound _ (callsIn_wide.2 (trect_ok P W H D sw sh c r (t : Int) A Wb EB.out.gr GG.out (by omega) (by have := hcr.out.2.2; omega)))).mono ?_⟩
                  rintro e36 u1 ⟨rfl, hku⟩
                  obtain ⟨u2, eu2, hk2, hb2⟩ := one_new u1 #[.int .i64 (sX c sw (t : Int)), .int .i64 (sY c sh (t : Int)), .int .i64 (min sw (W - sX c sw (t : Int))), .int .i64 (min sh (H - sY c sh (t : Int)))] 34
                  have hu2 := eu2.symm
                  have kk2 : Kept [] Wb u2 := hku.trans hk2
                  have jc2 := one_cell (kk2.heap HUB.out (by simp))
                  have jf2 : u2.frozen? ⟨V.heap.size, 0, none⟩ = false := by unfold World.frozen?; rw [kk2.heap HUB.out (by simp)]; rfl
                  obtain ⟨⟨t0, t1, t2, t3⟩, _⟩ := four (kk2.heap HTB.out (by simp))
                  obtain ⟨⟨v0, v1, v2, v3⟩, _⟩ := four hb2
                  have HJ2 := Hid.mk (kk2.heap HUB.out (by simp))
                  have HKK2 := Hid.mk kk2
                  clear eu2 hk2 hku kk2 hb2 jc jf gcb
                  gi_wp2
                  have s3 := heap_setCell_at (i := 0) (u := .int .i64 ((t : Int) + 1)) HJ2.out
                  exact ⟨(HKK2.out.mono (fun x hx => by simp at hx)).setCell (.inl (by simp)) _, by simpa using s3⟩
                case done3 =>
                  intro U hkU hu hsU hKU
                  rw [hN.out] at hu
                  have EU := Hid.mk (E32.out.keep hkU (fun x hx => by simp at hx; subst hx; right; have := HKB.out; have := hlt; omega))
                  have j9 := one_cell hu
                  have n9 := one_cell EU.out.hnb
                  have hz9 := EU.out.hz
                  have z9 := one_cell hz9
                  have zf9 : U.frozen? ⟨S + 1 + 1, 0, none⟩ = false := by unfold World.frozen?; rw [hz9]; rfl
                  have lkV := lt_of_block hukb
                  have hkb9 := hkU.heap (hk32.heap (k33.heap (hk31.heap hukb (by simp)) (by simp; omega)) (by simp)) (by simp; omega)
                  have kb9 := one_cell hkb9
                  have hsl : S + 1 + 1 < w12.heap.size := lt_of_block E12.out.hz
                  have szV := hkV.size
                  have sz31 := hk31.size
                  have sz33 := k33.size
                  have szU := hkU.size
                  have szw := K21.out.1.size
                  have hSw := HS.out
                  have lw12 : w12.heap.size < w21.heap.size := lt_of_block K21.out.2
                  have hkb2 := HKB.out
                  have nkb : kb ≠ w12.heap.size := fun h => by have a := K21.out.2; rw [← h, hi21] at a; cases a
                  have dV := hKV
                  have dU := hkU.heap (hk32.heap (k33.heap (hk31.heap dV (by simp)) (by simp; omega)) (by simp)) (by simp; omega)
                  have d12 := hkU.heap (hk32.heap (k33.heap (hk31.heap (hkV.heap K21.out.2 (by simp; omega)) (by simp)) (by simp; omega)) (by simp)) (by simp; omega)
                  have kX := (Kept.refl [S + 1 + 1] U).setCell (p := ⟨S + 1 + 1, 0, none⟩) (.inl (by simp)) (.bool true)
                  have x1 := kX.heap hKU (by simp; omega)
                  have x2 := kX.heap dU (by simp; omega)
                  have x3 := kX.heap d12 (by simp; omega)
                  have x4 := heap_setCell_at (i := 0) (u := .bool true) hz9
                  have KU : Kept [] w U := (((((K21.out.1.step hkV (fun x hx => by simp at hx; subst hx; right; omega)).trans hk31).step k33 (fun x hx => by simp at hx; subst hx; right; omega)).trans hk32).step hkU (fun x hx => by simp at hx; subst hx; right; omega))
                  have KX : Kept [] w (U.setCell ⟨S + 1 + 1, 0, none⟩ (.bool true)) := KU.step kX (fun x hx => by simp at hx; subst hx; right; have := HS.out; omega)
                  have HX := Hid.mk (And.intro x1 (And.intro x2 (And.intro x3 (And.intro x4 KX))))
                  have HN := Hid.mk (show w32.heap.size ≠ w21.heap.size ∧ w32.heap.size ≠ w12.heap.size ∧ w21.heap.size ≠ w12.heap.size ∧ S + 1 + 1 ≠ w32.heap.size ∧ S + 1 + 1 ≠ w21.heap.size ∧ S + 1 + 1 ≠ w12.heap.size ∧ w.heap.size ≤ w12.heap.size by have := HS.out; omega)
                  have HL := Hid.mk (show w.heap.size ≤ w32.heap.size ∧ w.heap.size ≤ w21.heap.size ∧ w.heap.size ≤ w12.heap.size by have := HS.out; omega)
                  clear x1 x2 x3 x4 KU KX kX d12 dU dV hkb9 hz9 lkV
                  clear hSw szV sz31 sz33 szU szw lw12 hkb2 hsl
                  go_wp2
                  obtain ⟨X1, X2, X3, td1, td2, td3, hc3, hk3⟩ := marks3 w (U.setCell ⟨S + 1 + 1, 0, none⟩ (.bool true)) w32.heap.size w21.heap.size w12.heap.size (S + 1 + 1) HX.out.1 HX.out.2.1 HX.out.2.2.1 HX.out.2.2.2.1 HX.out.2.2.2.2 ⟨HN.out.1, HN.out.2.1, HN.out.2.2.1, HN.out.2.2.2.1, HN.out.2.2.2.2.1, HN.out.2.2.2.2.2.1⟩ HL.out.1 HL.out.2.1 HL.out.2.2
                  refine ⟨by simp, .inl ⟨_, _, rfl, td1, ?_⟩⟩
                  refine ⟨by simp, .inl ⟨_, _, rfl, td2, ?_⟩⟩
                  refine ⟨by simp, .inl ⟨_, _, rfl, td3, ?_⟩⟩
                  exact ⟨.bool true, results_bool Try.results5 _ _ (S + 1 + 1) _ rfl hc3, rfl, hk3⟩
end Go.Proofs.Ytkjhegedkamjaaa
