import Derived.Test.YtkjhegedkamjaaaRh
import Derived.Test.YtkjhegedkamjaaaTt
namespace Go.Proofs.Ytkjhegedkamjaaa
open Go.RowKit Go.Shelf
attribute [local go_sem] Oper.semAt_some

/-- The closure that tells the slices of a rectangle. -/
abbrev clv (b1 b2 b3 b4 : Nat) : Value := .func (.func 44) #[] #[.pointer (some ⟨b1, 0, none⟩), .pointer (some ⟨b2, 0, none⟩), .pointer (some ⟨b3, 0, none⟩), .pointer (some ⟨b4, 0, none⟩)]

theorem tv_whole {c : Int} {wd1 k : Nat} (hc : c = (wd1 : Int)) : tv 0 c wd1 k = (k : Int) := by
  unfold tv
  rw [hc]
  have := Nat.div_add_mod k wd1
  have e : ((k / wd1 : Nat) : Int) * (wd1 : Int) = ((wd1 * (k / wd1) : Nat) : Int) := by rw [Int.natCast_mul, Int.mul_comm]
  rw [e]
  omega

theorem fin_al {J : Nat → World → Prop} {k m yb n : Nat} {Vb V3 V5 : World} {o : Obj} (hJ : J (k + 1) V5) (hF : Fu m V3 V5) (hk : Kept [] Vb V3) (hy : Vb.heap[yb]? = some o) (hm : m ≤ yb) (hs : n + 2 ≤ Vb.heap.size) (hl : yb < n) (hmn : m ≤ n) :
    (J (k + 1) V5 ∧ V5.heap[yb]? = some o ∧ n + 2 ≤ V5.heap.size) ∧ V5.heap[n + 1]? = Vb.heap[n + 1]? ∧ V5.heap[n]? = Vb.heap[n]? := by
  have h1 := hk.size
  have h2 := hF.size
  refine ⟨⟨hJ, ?_, by omega⟩, ?_, ?_⟩
  · rw [hF.block yb hm (by omega)]; exact hk.heap hy (by simp)
  · rw [hF.block _ (by omega) (by omega)]; exact hk.block _ (by omega) (by simp)
  · rw [hF.block _ (by omega) (by omega)]; exact hk.block _ (by omega) (by simp)

set_option maxHeartbeats 8000000 in
set_option maxRecDepth 1000000 in
/-- All slices, one by one. -/
theorem all_iter (l0 m f1 g1 b1 b2 b3 b4 P nr wd1 : Nat) (W' H D sw sh c r : Int) (A : Bool) (g : Gd W' H sw sh c r) (hc : c = (wd1 : Int)) (hr : r = (nr : Int)) (J : Nat → World → Prop)
    (hJF : ∀ k V, J k V → V.cell? ⟨f1, 0, none⟩ = some (clv b1 b2 b3 b4) ∧ V.cell? ⟨g1, 0, none⟩ = some (.pointer (some ⟨P, 0, none⟩)) ∧ Gr V P W' H D A sw sh c r ∧ Cl V b1 b2 b3 b4 P 0 (c * r - 1) (c - 1))
    (hst : ∀ k V V', J k V → Stb m V V' → J k V')
    (hY : ∀ k V, J k V → k < nr * wd1 → YieldAt Fence.wide 0 Try.prog l0 #[.int .i64 (k : Int), sR W' H sw sh c (k : Int)] V (fun e V' => e = .returned (.bool true) ∧ J (k + 1) V' ∧ Fu m V V')) (W : World) (hm : m ≤ W.heap.size) (h0 : J 0 W) :
    CallsIn Fence.wide 0 Try.prog 35 #[.func (.yield l0) #[] #[], .pointer (some ⟨f1, 0, none⟩), .pointer (some ⟨g1, 0, none⟩)] W (fun e V => (∃ v, e = .returned v) ∧ J (nr * wd1) V) := by
  refine callsIn_of_wp_marks Try.func35 rfl trivial ?_ rfl
  simp only [Try.ntmps35, List.size_toArray, List.length_cons, List.length_nil, Nat.reduceAdd, Nat.reduceSub, Array.replicate_succ, Array.replicate_zero, List.push_toArray, List.append_toArray, List.nil_append, List.cons_append]
  refine wpIn_wide.2 ?_
  obtain ⟨w2, ew2, hk2, hy2⟩ := one_new W #[.func (.yield l0) #[] #[]] 83
  have hJ2 : J 0 w2 := hst 0 W w2 h0 (hk2.stb hm)
  have F2 := hJF 0 w2 hJ2
  have f2 := F2.1
  have EW := Hid.mk ew2
  have hmy : m ≤ w2.heap.size := Nat.le_trans hm hk2.size
  have lyb := lt_of_block hy2
  clear ew2
  have f2' : (W.alloc (.cells #[.func (.yield l0) #[] #[]] 83 (0, 0))).cell? ⟨f1, 0, none⟩ = some (clv b1 b2 b3 b4) := by rw [← EW.out]; exact f2
  have HF := Hid.mk hJF
  have HY := Hid.mk hY
  have HS := Hid.mk hst
  clear hJF hY hst h0
  go_wp2
  rw [← EW.out]
  obtain ⟨yb, eyb⟩ : ∃ yb, yb = W.heap.size := ⟨_, rfl⟩
  rw [← eyb] at hy2 lyb ⊢
  have hmyb : m ≤ yb := by omega
  clear f2' f2 EW hk2 eyb
  have g0 := g.c0
  have g1' := g.r0
  have g2 := g.c1
  have g3 := g.r1
  have hcr : c * r ≤ 65536 := Int.mul_le_mul (a := c) (b := r) (c := 256) (d := 256) g2 g3 (by omega) (by omega)
  have hcr2 : ((nr * wd1 : Nat) : Int) = c * r := by rw [hc, hr, Int.natCast_mul, Int.mul_comm]
  refine range_law (gf := 44) (lb := #[.pointer (some ⟨b1, 0, none⟩), .pointer (some ⟨b2, 0, none⟩), .pointer (some ⟨b3, 0, none⟩), .pointer (some ⟨b4, 0, none⟩)]) rfl (enters_of Try.func44 (by kernel_rfl) rfl)
    (fun k V => J k V ∧ V.heap[yb]? = some (.cells #[.func (.yield l0) #[] #[]] 83 (0, 0)) ∧ w2.heap.size + 2 ≤ V.heap.size) (nr * wd1) (fun k v => v = #[.int .i64 (tv 0 c wd1 k)]) (fun k v hv => by subst hv; rfl) ?put ?start ?iter ?body ?done
  case put =>
    rintro k V o ⟨hJ, hy, hs⟩
    exact ⟨HS.out k V _ hJ (Stb.putObj o (by omega)), by rw [World.putObj_heap_other (by omega)]; exact hy, by rw [World.putObj_size]; exact hs⟩
  case start =>
    intro V hk hs
    exact ⟨HS.out 0 w2 V hJ2 (hk.stb hmy), hk.heap hy2 (by simp), by omega⟩
  case iter =>
    intro J' hJI hJY V hJ0
    refine touch_iter (w2.heap.size + 1) b1 b2 b3 b4 P nr wd1 0 (c * r - 1) c (c - 1) g0 (by omega) (by omega) (by omega) (by omega) (by omega) (by rw [← hr, Int.sub_mul, Int.mul_comm r c]; omega) (by omega) g2 J' (fun k V hJ => ?_) (fun k V i j hJ hi hj hk => ?_) V hJ0
    · obtain ⟨q1, q2, q3, q4⟩ := HF.out k V (hJI k V hJ).1
      exact ⟨q4.1, q4.2.1, q4.2.2.1, q4.2.2.2, (eight q3).2.2.2.2.2.2.1⟩
    · have hlt : k < nr * wd1 := by
        have : (i + 1) * wd1 ≤ nr * wd1 := Nat.mul_le_mul_right _ (by omega)
        rw [Nat.add_mul] at this
        omega
      have e1 : k / wd1 = i := by subst hk; rw [Nat.add_comm, Nat.add_mul_div_right _ _ (by omega), Nat.div_eq_of_lt hj]; omega
      have e2 : k % wd1 = j := by subst hk; rw [Nat.add_comm, Nat.add_mul_mod_self_right, Nat.mod_eq_of_lt hj]
      refine hJY k V _ hJ hlt ?_
      unfold tv
      rw [e1, e2]
  case body =>
    rintro k v V r' rfl hkn ⟨hJ, hy, hs⟩ hl
    rw [tv_whole hc]
    gi_wp2
    refine ⟨trivial, fun Vb rb hVb => ?_⟩
    have hJb : J k Vb := by rw [hVb]; exact HS.out k V _ hJ (Stb.putObj _ (by omega))
    have hyb : Vb.heap[yb]? = some (.cells #[.func (.yield l0) #[] #[]] 83 (0, 0)) := by rw [hVb, World.putObj_heap_other (by omega)]; exact hy
    have hsb : w2.heap.size + 2 ≤ Vb.heap.size := by rw [hVb, World.putObj_size]; exact hs
    clear hVb hJ hy hs hl
    have c1 := one_cell hyb
    have c2 := (HF.out k Vb hJb).2.1
    have CR := Hid.mk (fun u (h : Gr u P W' H D A sw sh c r) => rect_any' P W' H D sw sh c r (k : Int) A u h g (by omega) (by omega))
    have HJb := Hid.mk hJb
    have HYb := Hid.mk hyb
    clear hJb hyb hcr2
    clear hc hr
    have hmix : Try.prog.follows .mixedOrders = true := by kernel_rfl
    gi_wp2
    gi_region_with_o (first | (refine ⟨trivial, rfl, ?_⟩; refine (CallsIn.inRound _ (callsIn_wide.2 (CR.out _ (show Gr (World.drew Vb) P W' H D A sw sh c r from (HF.out k Vb HJb.out).2.2.1)))).mono ?_; rintro e V3 ⟨rfl, hk3⟩; have hk4 := hk3.undrew; have d1 := cell_keep hk4 c1 (by simp); have d2 := cell_keep hk4 c2 (by simp); obtain ⟨fn, tmps, assign, body, hy, hR⟩ := HY.out k V3 (HS.out k Vb V3 HJb.out (hk4.stb (by omega))) hkn) | (refine ⟨rfl, hR.mono ?_⟩; rintro e V5 ⟨rfl, hJ5, hF5⟩))
    all_goals gi_wp2
    all_goals exact fin_al hJ5 hF5 hk4 HYb.out hmyb hsb lyb hmy
  case done =>
    rintro V ⟨hJ, hy, hs⟩ hK
    go_wp2
    refine ⟨by simp, .inl ⟨_, _, rfl, run_takeDeferred hK, ?_⟩⟩
    exact ⟨_, results_none rfl _ _ _, ⟨_, rfl⟩, HS.out _ _ _ hJ (Stb.putObj _ (by omega))⟩
end Go.Proofs.Ytkjhegedkamjaaa
