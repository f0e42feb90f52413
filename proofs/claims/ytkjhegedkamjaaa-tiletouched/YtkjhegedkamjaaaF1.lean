import Derived.Test.YtkjhegedkamjaaaT6
namespace Go.Proofs.Ytkjhegedkamjaaa
open Go.RowKit

/-- A sample is in a rectangle. -/
def hs (X Y rw rh x y : Int) : Bool := decide (X ≤ x ∧ x < X + rw ∧ Y ≤ y ∧ y < Y + rh)
set_option maxHeartbeats 4000000 in
set_option maxRecDepth 1000000 in
theorem hs_any (X Y rw rh x y : Int) (w : World) (hx : 0 ≤ X ∧ X ≤ 4096) (hw : 0 ≤ rw ∧ rw ≤ 4096) (hy : 0 ≤ Y ∧ Y ≤ 4096) (hh : 0 ≤ rh ∧ rh ≤ 4096) :
    Calls Try.prog 15 #[rcv X Y rw rh, .int .i64 x, .int .i64 y] w fun e w' => e = .returned (.bool (hs X Y rw rh x y)) ∧ Kept [] w w' := by
  unfold hs
  by_cases k0 : X ≤ x
  · by_cases k1 : x < X + rw
    · by_cases k2 : Y ≤ y
      · go_enter Try.func15, Try.ntmps15
        go_wp2
        go_ret
        exact ⟨ret_bool (by first | rfl | (simp; omega) | simp [k0, k1, k2]), alloc_kept _ _⟩
      · go_enter Try.func15, Try.ntmps15
        go_wp2
        go_ret
        exact ⟨ret_bool (by first | rfl | (simp; omega) | simp [k0, k1, k2]), alloc_kept _ _⟩
    · go_enter Try.func15, Try.ntmps15
      go_wp2
      go_ret
      exact ⟨ret_bool (by first | rfl | (simp; omega) | simp [k0, k1]), alloc_kept _ _⟩
  · go_enter Try.func15, Try.ntmps15
    go_wp2
    go_ret
    exact ⟨ret_bool (by first | rfl | (simp; omega) | simp [k0]), alloc_kept _ _⟩

/-- A frame that came in, as a value. -/
abbrev frv (a b c d e : Int) (A : Bool) : Value := .agg #[.int .i64 a, .int .i64 b, .int .i64 c, .int .i64 d, .int .i64 e, .bool A]
/-- What of answers. -/
def OfPost (A : Bool) (e : Ending) : Prop := ∃ W H D sw sh, e = .returned (.tuple #[shv W H D A, .int .i64 sw, .int .i64 sh]) ∧ Shp W H D A ∧ (16 ≤ sw ∧ sw ≤ 4096 ∧ sw % 2 = 0) ∧ 16 ≤ sh ∧ sh ≤ 4096
def b64 (x : Int) : Prop := -9223372036854775808 ≤ x ∧ x ≤ 9223372036854775807
/-- The samples of a row of all planes. -/
def rwS (W : Int) (A : Bool) : Int := W + 2 * ((W + 1) / 2) + (if A then W else 0)
theorem rw_tot (W H : Int) (A : Bool) : tot W H A = rwS W A * H := by
  unfold tot rwS hf
  have e : W / 2 + W % 2 = (W + 1) / 2 := by omega
  rw [e]
  cases A <;> simp [Int.add_mul, Int.mul_assoc] <;> omega

theorem six {w : World} {B t : Nat} {a b c d e f : Value} (hh : w.heap[B]? = some (.cells #[a, b, c, d, e, f] t (0, 0))) :
    w.cell? ⟨B, 0, none⟩ = some a ∧ w.cell? ⟨B, 1, none⟩ = some b ∧ w.cell? ⟨B, 2, none⟩ = some c ∧ w.cell? ⟨B, 3, none⟩ = some d ∧ w.cell? ⟨B, 4, none⟩ = some e ∧ w.cell? ⟨B, 5, none⟩ = some f := by
  refine ⟨?_, ?_, ?_, ?_, ?_, ?_⟩
  all_goals (rw [cell_of_row _ _ _ _ _ _ hh]; rfl)

theorem Try.infoS : (Try.prog.info? 32).map (·.size) = some 4 := by kernel_rfl
theorem results_three {fn : Func} {p u v : Tmp} {ty : TypeId} (h : fn.results = #[.cell p ty, .tmp u, .tmp v]) (tmps : Array Value) (w : World) (g : Nat) (t : TypeId) (cs : Array Value) (fr : Nat × Nat) (fs : Array Field) (x y : Value)
    (hp : tmps.getD p undef = .pointer (some ⟨g, 0, none⟩)) (hg : w.heap[g]? = some (.cells cs t fr))
    (hu : Try.prog.underlying ty = some (.struct fs)) (hi : (Try.prog.info? ty).map (·.size) = some cs.size) (hx : tmps.getD u undef = x) (hy : tmps.getD v undef = y) :
    (results fn tmps).run Try.prog w = .ok (.tuple #[.agg cs, x, y]) w := by
  have e : (results fn tmps).run Try.prog w = ((asAddr (tmps.getD p undef)).run Try.prog w).andThen fun a w₁ => ((loadVar ty a).run Try.prog w₁).andThen fun z w₂ => .ok (.tuple #[z, tmps.getD u undef, tmps.getD v undef]) w₂ := by
    simp only [results, h]
    simp [Sem.run_bind, Result.andThen]
  rw [e, hp, hx, hy]
  simp [asAddr, run_loadVar_row w g t ty cs fr _ hg hu rfl hi]

set_option maxHeartbeats 16000000 in
set_option maxRecDepth 1000000 in
theorem of_any (a b c d e : Int) (A : Bool) (w : World) (ha : b64 a) (hb : b64 b) (hc : b64 c) (hd : b64 d) (he : b64 e) :
    Calls Try.prog 9 #[frv a b c d e A] w fun x w' => OfPost A x ∧ Kept [] w w' := by
  have C1 := Hid.mk (fun u => pick_any a 4096 u ha.1 ha.2 (by decide))
  have C2 := Hid.mk (fun u => pick_any c 2 u hc.1 hc.2 (by decide))
  have C3 := Hid.mk (fun u n (hn : 0 < n) => pick_any b n u hb.1 hb.2 hn)
  have C4 := Hid.mk (fun u => pick_any d 2041 u hd.1 hd.2 (by decide))
  have C5 := Hid.mk (fun u => pick_any e 4081 u he.1 he.2 (by decide))
  have p10 := pick_lo a 4096 (by decide)
  have p11 := pick_hi a 4096 (by decide)
  have p20 := pick_lo c 2 (by decide)
  have p21 := pick_hi c 2 (by decide)
  have p40 := pick_lo d 2041 (by decide)
  have p41 := pick_hi d 2041 (by decide)
  have p50 := pick_lo e 4081 (by decide)
  have p51 := pick_hi e 4081 (by decide)
  have PB := Hid.mk (fun n (h : 0 < n) => And.intro (pick_lo b n h) (pick_hi b n h))
  obtain ⟨p1, e1⟩ : ∃ p, p = pick a 4096 := ⟨_, rfl⟩
  obtain ⟨p2, e2⟩ : ∃ p, p = pick c 2 := ⟨_, rfl⟩
  obtain ⟨p4, e4⟩ : ∃ p, p = pick d 2041 := ⟨_, rfl⟩
  obtain ⟨p5, e5⟩ : ∃ p, p = pick e 4081 := ⟨_, rfl⟩
  simp only [← e1, ← e2, ← e4, ← e5] at C1 C2 C4 C5 p10 p11 p20 p21 p40 p41 p50 p51
  clear e1 e2 e4 e5 ha hb hc hd he
  go_enter Try.func9, Try.ntmps9
  go_wp2
  obtain ⟨w1, ew1⟩ : ∃ w1, w1 = (w.alloc (.cells #[.int .i64 a, .int .i64 b, .int .i64 c, .int .i64 d, .int .i64 e, .bool A] 42 (0, 0))).alloc (.cells #[.int .i64 0, .int .i64 0, .int .i64 0, .bool false] 32 (0, 0)) := ⟨_, rfl⟩
  have hk1 : Kept [] w w1 := by rw [ew1]; exact (alloc_kept _ _).alloc _
  have hb0 : w1.heap[w.heap.size]? = some (.cells #[.int .i64 a, .int .i64 b, .int .i64 c, .int .i64 d, .int .i64 e, .bool A] 42 (0, 0)) := by rw [ew1]; exact (alloc_kept _ _).heap (heap_alloc_new _ _) (by simp)
  have hb1 : w1.heap[w.heap.size + 1]? = some (.cells #[.int .i64 0, .int .i64 0, .int .i64 0, .bool false] 32 (0, 0)) := by
    rw [ew1]; have := heap_alloc_new (w.alloc (.cells #[.int .i64 a, .int .i64 b, .int .i64 c, .int .i64 d, .int .i64 e, .bool A] 42 (0, 0))) (.cells #[.int .i64 0, .int .i64 0, .int .i64 0, .bool false] 32 (0, 0)); rwa [World.size_alloc] at this
  rw [← ew1]
  clear ew1
  obtain ⟨B, eb⟩ : ∃ b, b = w.heap.size := ⟨_, rfl⟩
  rw [← eb] at hb0 hb1 ⊢
  have HEB := Hid.mk eb
  clear eb
  obtain ⟨z0, z1, z2, z3, z4, z5⟩ := six hb0
  have HB0 := Hid.mk hb0
  have HB1 := Hid.mk hb1
  clear hb0 hb1
  have HKK := Hid.mk (show ∀ u, Kept [] w1 u → u.cell? ⟨B, 0, none⟩ = some (.int .i64 a) ∧ u.cell? ⟨B, 1, none⟩ = some (.int .i64 b) ∧ u.cell? ⟨B, 2, none⟩ = some (.int .i64 c) ∧ u.cell? ⟨B, 3, none⟩ = some (.int .i64 d) ∧ u.cell? ⟨B, 4, none⟩ = some (.int .i64 e) ∧ u.cell? ⟨B, 5, none⟩ = some (.bool A) from fun u h => ⟨cell_keep h z0 (by simp), cell_keep h z1 (by simp), cell_keep h z2 (by simp), cell_keep h z3 (by simp), cell_keep h z4 (by simp), cell_keep h z5 (by simp)⟩)
  go_cut [5] (fun s wc => ∃ G, s = .pointer (some ⟨G, 0, none⟩) ∧ Kept [] w1 wc ∧ w1.heap.size ≤ G ∧ wc.heap[G]? = some (.cells #[.int .i64 (1 + p1), .int .i64 0, .int .i64 (10 + 2 * p2), .bool A] 32 (0, 0)))
  case first =>
    go_region_held_law (fun u => u.cell? ⟨B, 0, none⟩ = some (.int .i64 a) ∧ u.cell? ⟨B, 1, none⟩ = some (.int .i64 b) ∧ u.cell? ⟨B, 2, none⟩ = some (.int .i64 c) ∧ u.cell? ⟨B, 3, none⟩ = some (.int .i64 d) ∧ u.cell? ⟨B, 4, none⟩ = some (.int .i64 e) ∧ u.cell? ⟨B, 5, none⟩ = some (.bool A)) (first | exact HKK.out _ (Kept.refl _ _) | (refine HKK.out _ ?_; repeat' (first | exact Kept.refl _ _ | refine Kept.drew ?_ | refine Kept.drewN ?_ _ | refine Kept.alloc ?_ _ | refine Kept.setCell ?_ (.inr (by simp)) _))) (first | (go_at_call_of 11 a; refine (C1.out _).mono ?_; rintro e w2 ⟨rfl, hw⟩; obtain rfl := hw.symm) | (go_at_call_of 11 c; refine (C2.out _).mono ?_; rintro e w2 ⟨rfl, hw⟩; obtain rfl := hw.symm))
    all_goals (simp only [wrap_i (show -9223372036854775808 ≤ 1 + p1 by omega) (by omega), wrap_i (show -9223372036854775808 ≤ 2 * p2 by omega) (by omega), wrap_i (show -9223372036854775808 ≤ 10 + 2 * p2 by omega) (by omega)])
    all_goals go_wp2
    all_goals go_meet
    all_goals exact ⟨_, rfl, (alloc_kept _ _).drew, Nat.le_refl _, heap_alloc_new _ _⟩
  case rest =>
    obtain ⟨G, rfl, hkc, hG, hGb⟩ := hcut
    obtain ⟨W, eW⟩ : ∃ W, W = 1 + p1 := ⟨_, rfl⟩
    obtain ⟨D, eD⟩ : ∃ D, D = 10 + 2 * p2 := ⟨_, rfl⟩
    rw [← eW, ← eD] at hGb
    have W0 : 1 ≤ W := by omega
    have W1 : W ≤ 4096 := by omega
    have hD : Hid (D = 10 ∨ D = 12) := Hid.mk (by show D = 10 ∨ D = 12; omega)
    clear eW eD p10 p11 p20 p21 C1 C2
    obtain ⟨y0, y1, y2, y3, y4, y5⟩ := six (hkc.heap HB0.out (by simp))
    obtain ⟨⟨x0, x1, x2, x3⟩, f0, f1, f2, f3⟩ := four hGb
    have HGb := Hid.mk hGb
    have HK := Hid.mk hkc
    have HG := Hid.mk hG
    clear hGb hkc hG z0 z1 z2 z3 z4 z5 HKK
    cases A
    · have eR : W + 2 * ((W + 1) / 2) = rwS W false := by unfold rwS; simp
      have R0 : 1 ≤ rwS W false := by rw [← eR]; omega
      have R1 : rwS W false ≤ 16386 := by rw [← eR]; omega
      go_wp2
      try rw [eR]
      obtain ⟨R, e9⟩ : ∃ R, R = rwS W false := ⟨_, rfl⟩
      rw [← e9] at R0 R1 ⊢
      have ER := Hid.mk e9
      clear eR e9
      obtain ⟨q, eq⟩ : ∃ q, q = 4194304 / R := ⟨_, rfl⟩
      have q0 : 1 ≤ q := by rw [eq]; exact Int.le_ediv_of_mul_le (by omega) (by omega)
      have q2 : q ≤ 4194304 := by rw [eq]; exact Int.ediv_le_self _ (by omega)
      have q3 : Hid (q * R ≤ 4194304) := Hid.mk (by rw [eq]; exact Int.ediv_mul_le _ (by omega))
      have i9 : IntKind.i64.wrap ((4194304 : Int).tdiv R) = q := by rw [Int.tdiv_eq_ediv_of_nonneg (by omega), ← eq]; exact wrap_i (by omega) (by omega)
      have Rz : R ≠ 0 := by omega
      clear eq
      have hne : B ≠ G := by have h3 := lt_of_block HB0.out; have := HG.out; omega
      have hne1 : B + 1 ≠ G := by have h3 := lt_of_block HB1.out; have := HG.out; omega
      have HNE := Hid.mk (And.intro hne hne1)
      have KS : ∀ v, (wc.setCell ⟨G, 1, none⟩ v).drew.cell? ⟨B, 1, none⟩ = some (.int .i64 b) := fun v => cell_keep (((Kept.refl [G] wc).setCell (.inl (by simp)) v).drew) y1 (by simpa using hne)
      have HKS := Hid.mk KS
      clear KS hne hne1
      go_cut [5] (fun s wd => s = .pointer (some ⟨G, 0, none⟩) ∧ ∃ Hh, 1 ≤ Hh ∧ Hh ≤ 4096 ∧ Hh ≤ q ∧ wd.heap[G]? = some (.cells #[.int .i64 W, .int .i64 Hh, .int .i64 D, .bool false] 32 (0, 0)) ∧ Kept [G] wc wd)
      case first =>
        by_cases hq : q < 4096
        · have n0 : (0 : Int) < q := by omega
          have CN := Hid.mk (fun u => C3.out u q n0)
          obtain ⟨h0, h1⟩ := PB.out q n0
          obtain ⟨H0, eH⟩ : ∃ H, H = pick b q := ⟨_, rfl⟩
          simp only [← eH] at CN h0 h1
          clear C3 PB eH
          have i8 : IntKind.i64.wrap (1 + H0) = 1 + H0 := wrap_i (by omega) (by omega)
          go_region_held_law (fun u => u.cell? ⟨B, 1, none⟩ = some (.int .i64 b)) (first | exact y1 | exact HKS.out _ | go_keep) (first | (go_at_call 11; refine (CN.out _).mono ?_; rintro e w2 ⟨rfl, hw⟩; obtain rfl := hw.symm))
          all_goals go_wp2
          all_goals go_meet
          all_goals exact ⟨rfl, 1 + H0, by omega, by omega, by omega, by have h9 := heap_setCell_at (i := 1) (u := .int .i64 (1 + H0)) HGb.out; show (wc.setCell ⟨G, 1, none⟩ (.int .i64 (1 + H0))).heap[G]? = _; simpa using h9, ((Kept.refl [G] wc).setCell (.inl (by simp)) _).drew⟩
        · have n0 : (0 : Int) < 4096 := by omega
          have CN := Hid.mk (fun u => C3.out u 4096 n0)
          obtain ⟨h0, h1⟩ := PB.out 4096 n0
          obtain ⟨H0, eH⟩ : ∃ H, H = pick b 4096 := ⟨_, rfl⟩
          simp only [← eH] at CN h0 h1
          clear C3 PB eH
          have i8 : IntKind.i64.wrap (1 + H0) = 1 + H0 := wrap_i (by omega) (by omega)
          go_region_held_law (fun u => u.cell? ⟨B, 1, none⟩ = some (.int .i64 b)) (first | exact y1 | exact HKS.out _ | go_keep) (first | (go_at_call 11; refine (CN.out _).mono ?_; rintro e w2 ⟨rfl, hw⟩; obtain rfl := hw.symm))
          all_goals go_wp2
          all_goals go_meet
          all_goals exact ⟨rfl, 1 + H0, by omega, by omega, by omega, by have h9 := heap_setCell_at (i := 1) (u := .int .i64 (1 + H0)) HGb.out; show (wc.setCell ⟨G, 1, none⟩ (.int .i64 (1 + H0))).heap[G]? = _; simpa using h9, ((Kept.refl [G] wc).setCell (.inl (by simp)) _).drew⟩
      case rest =>
        obtain ⟨rfl, Hh, H0, H1, H2, hGb, hkd⟩ := hcut
        clear x0 x1 x2 x3 f0 f1 f2 f3
        obtain ⟨⟨x0, x1, x2, x3⟩, f0, f1, f2, f3⟩ := four hGb
        have t3 := cell_keep hkd y3 (by simpa using HNE.out.1)
        have t4 := cell_keep hkd y4 (by simpa using HNE.out.1)
        have HZ := Hid.mk (hkd.heap (HK.out.heap HB1.out (by simp)) (by simpa using HNE.out.2))
        obtain ⟨⟨v0, v1, v2, v3⟩, g0, g1, g2, g3⟩ := four HZ.out
        have HKD := Hid.mk ((hk1.trans HK.out).step hkd (fun x hx => by simp at hx; subst hx; exact .inr (Nat.le_trans hk1.size HG.out)))
        have hne1 : G ≠ B + 1 := Ne.symm HNE.out.2
        have HS : Hid (Shp W Hh D false) := Hid.mk ⟨⟨W0, W1⟩, ⟨H0, H1⟩, hD.out, by
          rw [rw_tot, ← ER.out]
          have h8 := Int.mul_le_mul_of_nonneg_right H2 (show 0 ≤ R by omega)
          have h9 := q3.out
          rw [Int.mul_comm]
          exact Int.le_trans h8 h9⟩
        have i1 : IntKind.i64.wrap (2 * p4) = 2 * p4 := wrap_i (by omega) (by omega)
        have i2 : IntKind.i64.wrap (16 + 2 * p4) = 16 + 2 * p4 := wrap_i (by omega) (by omega)
        have i3 : IntKind.i64.wrap (16 + p5) = 16 + p5 := wrap_i (by omega) (by omega)
        clear hGb hkd y0 y1 y2 y3 y4 y5 HKS C3 PB i9 Rz q0 q2 R0 R1 W0 W1 H0 H1 H2
        have HKS := Hid.mk (show ∀ u, Kept [B + 1] wc u → u.cell? ⟨G, 0, none⟩ = some (.int .i64 W) ∧ u.cell? ⟨G, 1, none⟩ = some (.int .i64 Hh) ∧ u.cell? ⟨G, 2, none⟩ = some (.int .i64 D) ∧ u.cell? ⟨G, 3, none⟩ = some (.bool false) ∧ u.cell? ⟨B, 3, none⟩ = some (.int .i64 d) ∧ u.cell? ⟨B, 4, none⟩ = some (.int .i64 e) from fun u h => ⟨cell_keep h x0 (by simpa using hne1), cell_keep h x1 (by simpa using hne1), cell_keep h x2 (by simpa using hne1), cell_keep h x3 (by simpa using hne1), cell_keep h t3 (by simp), cell_keep h t4 (by simp)⟩)
        clear hne1
        go_wp2
        go_region_held_law (fun u => u.cell? ⟨G, 0, none⟩ = some (.int .i64 W) ∧ u.cell? ⟨G, 1, none⟩ = some (.int .i64 Hh) ∧ u.cell? ⟨G, 2, none⟩ = some (.int .i64 D) ∧ u.cell? ⟨G, 3, none⟩ = some (.bool false) ∧ u.cell? ⟨B, 3, none⟩ = some (.int .i64 d) ∧ u.cell? ⟨B, 4, none⟩ = some (.int .i64 e)) (first | exact ⟨x0, x1, x2, x3, t3, t4⟩ | (refine HKS.out _ ?_; repeat' (first | with_reducible exact Kept.refl _ _ | with_reducible refine Kept.drew ?_ | with_reducible refine Kept.setCell ?_ (.inl (by simp)) _))) (first | (go_at_call_of 11 d; refine (C4.out _).mono ?_; rintro e w2 ⟨rfl, hw⟩; obtain rfl := hw.symm) | (go_at_call_of 11 e; refine (C5.out _).mono ?_; rintro e w2 ⟨rfl, hw⟩; obtain rfl := hw.symm))
        all_goals go_wp2
        all_goals (have s4 := set4 (.int .i64 W) (.int .i64 Hh) (.int .i64 D) (.bool false) HZ.out)
        all_goals (refine bodyPost_ret (v := .tuple #[shv W Hh D false, .int .i64 (16 + 2 * p4), .int .i64 (16 + p5)]) ?_ rfl ⟨⟨W, Hh, D, 16 + 2 * p4, 16 + p5, rfl, HS.out, by omega, by omega, by omega⟩, (HKD.out.step s4.2 (fun x hx => by simp at hx; subst hx; exact .inr (by have := HEB.out; omega))).drew⟩)
        all_goals exact results_three rfl _ _ (B + 1) 32 _ (0, 0) _ _ _ rfl s4.1 Try.underlying32 Try.infoS rfl rfl
    · have eR : W + 2 * ((W + 1) / 2) + W = rwS W true := by unfold rwS; simp
      have R0 : 1 ≤ rwS W true := by rw [← eR]; omega
      have R1 : rwS W true ≤ 16386 := by rw [← eR]; omega
      go_wp2
      try rw [eR]
      obtain ⟨R, e9⟩ : ∃ R, R = rwS W true := ⟨_, rfl⟩
      rw [← e9] at R0 R1 ⊢
      have ER := Hid.mk e9
      clear eR e9
      obtain ⟨q, eq⟩ : ∃ q, q = 4194304 / R := ⟨_, rfl⟩
      have q0 : 1 ≤ q := by rw [eq]; exact Int.le_ediv_of_mul_le (by omega) (by omega)
      have q2 : q ≤ 4194304 := by rw [eq]; exact Int.ediv_le_self _ (by omega)
      have q3 : Hid (q * R ≤ 4194304) := Hid.mk (by rw [eq]; exact Int.ediv_mul_le _ (by omega))
      have i9 : IntKind.i64.wrap ((4194304 : Int).tdiv R) = q := by rw [Int.tdiv_eq_ediv_of_nonneg (by omega), ← eq]; exact wrap_i (by omega) (by omega)
      have Rz : R ≠ 0 := by omega
      clear eq
      have hne : B ≠ G := by have h3 := lt_of_block HB0.out; have := HG.out; omega
      have hne1 : B + 1 ≠ G := by have h3 := lt_of_block HB1.out; have := HG.out; omega
      have HNE := Hid.mk (And.intro hne hne1)
      have KS : ∀ v, (wc.setCell ⟨G, 1, none⟩ v).drew.cell? ⟨B, 1, none⟩ = some (.int .i64 b) := fun v => cell_keep (((Kept.refl [G] wc).setCell (.inl (by simp)) v).drew) y1 (by simpa using hne)
      have HKS := Hid.mk KS
      clear KS hne hne1
      go_cut [5] (fun s wd => s = .pointer (some ⟨G, 0, none⟩) ∧ ∃ Hh, 1 ≤ Hh ∧ Hh ≤ 4096 ∧ Hh ≤ q ∧ wd.heap[G]? = some (.cells #[.int .i64 W, .int .i64 Hh, .int .i64 D, .bool true] 32 (0, 0)) ∧ Kept [G] wc wd)
      case first =>
        by_cases hq : q < 4096
        · have n0 : (0 : Int) < q := by omega
          have CN := Hid.mk (fun u => C3.out u q n0)
          obtain ⟨h0, h1⟩ := PB.out q n0
          obtain ⟨H0, eH⟩ : ∃ H, H = pick b q := ⟨_, rfl⟩
          simp only [← eH] at CN h0 h1
          clear C3 PB eH
          have i8 : IntKind.i64.wrap (1 + H0) = 1 + H0 := wrap_i (by omega) (by omega)
          go_region_held_law (fun u => u.cell? ⟨B, 1, none⟩ = some (.int .i64 b)) (first | exact y1 | exact HKS.out _ | go_keep) (first | (go_at_call 11; refine (CN.out _).mono ?_; rintro e w2 ⟨rfl, hw⟩; obtain rfl := hw.symm))
          all_goals go_wp2
          all_goals go_meet
          all_goals exact ⟨rfl, 1 + H0, by omega, by omega, by omega, by have h9 := heap_setCell_at (i := 1) (u := .int .i64 (1 + H0)) HGb.out; show (wc.setCell ⟨G, 1, none⟩ (.int .i64 (1 + H0))).heap[G]? = _; simpa using h9, ((Kept.refl [G] wc).setCell (.inl (by simp)) _).drew⟩
        · have n0 : (0 : Int) < 4096 := by omega
          have CN := Hid.mk (fun u => C3.out u 4096 n0)
          obtain ⟨h0, h1⟩ := PB.out 4096 n0
          obtain ⟨H0, eH⟩ : ∃ H, H = pick b 4096 := ⟨_, rfl⟩
          simp only [← eH] at CN h0 h1
          clear C3 PB eH
          have i8 : IntKind.i64.wrap (1 + H0) = 1 + H0 := wrap_i (by omega) (by omega)
          go_region_held_law (fun u => u.cell? ⟨B, 1, none⟩ = some (.int .i64 b)) (first | exact y1 | exact HKS.out _ | go_keep) (first | (go_at_call 11; refine (CN.out _).mono ?_; rintro e w2 ⟨rfl, hw⟩; obtain rfl := hw.symm))
          all_goals go_wp2
          all_goals go_meet
          all_goals exact ⟨rfl, 1 + H0, by omega, by omega, by omega, by have h9 := heap_setCell_at (i := 1) (u := .int .i64 (1 + H0)) HGb.out; show (wc.setCell ⟨G, 1, none⟩ (.int .i64 (1 + H0))).heap[G]? = _; simpa using h9, ((Kept.refl [G] wc).setCell (.inl (by simp)) _).drew⟩
      case rest =>
        obtain ⟨rfl, Hh, H0, H1, H2, hGb, hkd⟩ := hcut
        clear x0 x1 x2 x3 f0 f1 f2 f3
        obtain ⟨⟨x0, x1, x2, x3⟩, f0, f1, f2, f3⟩ := four hGb
        have t3 := cell_keep hkd y3 (by simpa using HNE.out.1)
        have t4 := cell_keep hkd y4 (by simpa using HNE.out.1)
        have HZ := Hid.mk (hkd.heap (HK.out.heap HB1.out (by simp)) (by simpa using HNE.out.2))
        obtain ⟨⟨v0, v1, v2, v3⟩, g0, g1, g2, g3⟩ := four HZ.out
        have HKD := Hid.mk ((hk1.trans HK.out).step hkd (fun x hx => by simp at hx; subst hx; exact .inr (Nat.le_trans hk1.size HG.out)))
        have hne1 : G ≠ B + 1 := Ne.symm HNE.out.2
        have HS : Hid (Shp W Hh D true) := Hid.mk ⟨⟨W0, W1⟩, ⟨H0, H1⟩, hD.out, by
          rw [rw_tot, ← ER.out]
          have h8 := Int.mul_le_mul_of_nonneg_right H2 (show 0 ≤ R by omega)
          have h9 := q3.out
          rw [Int.mul_comm]
          exact Int.le_trans h8 h9⟩
        have i1 : IntKind.i64.wrap (2 * p4) = 2 * p4 := wrap_i (by omega) (by omega)
        have i2 : IntKind.i64.wrap (16 + 2 * p4) = 16 + 2 * p4 := wrap_i (by omega) (by omega)
        have i3 : IntKind.i64.wrap (16 + p5) = 16 + p5 := wrap_i (by omega) (by omega)
        clear hGb hkd y0 y1 y2 y3 y4 y5 HKS C3 PB i9 Rz q0 q2 R0 R1 W0 W1 H0 H1 H2
        have HKS := Hid.mk (show ∀ u, Kept [B + 1] wc u → u.cell? ⟨G, 0, none⟩ = some (.int .i64 W) ∧ u.cell? ⟨G, 1, none⟩ = some (.int .i64 Hh) ∧ u.cell? ⟨G, 2, none⟩ = some (.int .i64 D) ∧ u.cell? ⟨G, 3, none⟩ = some (.bool true) ∧ u.cell? ⟨B, 3, none⟩ = some (.int .i64 d) ∧ u.cell? ⟨B, 4, none⟩ = some (.int .i64 e) from fun u h => ⟨cell_keep h x0 (by simpa using hne1), cell_keep h x1 (by simpa using hne1), cell_keep h x2 (by simpa using hne1), cell_keep h x3 (by simpa using hne1), cell_keep h t3 (by simp), cell_keep h t4 (by simp)⟩)
        clear hne1
        go_wp2
        go_region_held_law (fun u => u.cell? ⟨G, 0, none⟩ = some (.int .i64 W) ∧ u.cell? ⟨G, 1, none⟩ = some (.int .i64 Hh) ∧ u.cell? ⟨G, 2, none⟩ = some (.int .i64 D) ∧ u.cell? ⟨G, 3, none⟩ = some (.bool true) ∧ u.cell? ⟨B, 3, none⟩ = some (.int .i64 d) ∧ u.cell? ⟨B, 4, none⟩ = some (.int .i64 e)) (first | exact ⟨x0, x1, x2, x3, t3, t4⟩ | (refine HKS.out _ ?_; repeat' (first | with_reducible exact Kept.refl _ _ | with_reducible refine Kept.drew ?_ | with_reducible refine Kept.setCell ?_ (.inl (by simp)) _))) (first | (go_at_call_of 11 d; refine (C4.out _).mono ?_; rintro e w2 ⟨rfl, hw⟩; obtain rfl := hw.symm) | (go_at_call_of 11 e; refine (C5.out _).mono ?_; rintro e w2 ⟨rfl, hw⟩; obtain rfl := hw.symm))
        all_goals go_wp2
        all_goals (have s4 := set4 (.int .i64 W) (.int .i64 Hh) (.int .i64 D) (.bool true) HZ.out)
        all_goals (refine bodyPost_ret (v := .tuple #[shv W Hh D true, .int .i64 (16 + 2 * p4), .int .i64 (16 + p5)]) ?_ rfl ⟨⟨W, Hh, D, 16 + 2 * p4, 16 + p5, rfl, HS.out, by omega, by omega, by omega⟩, (HKD.out.step s4.2 (fun x hx => by simp at hx; subst hx; exact .inr (by have := HEB.out; omega))).drew⟩)
        all_goals exact results_three rfl _ _ (B + 1) 32 _ (0, 0) _ _ _ rfl s4.1 Try.underlying32 Try.infoS rfl rfl
end Go.Proofs.Ytkjhegedkamjaaa
