import Derived.Test.YtgjjnkhkjnkahaaDoorPt
import Derived.Test.YtgjjnkhkjnkahaaDoorAc
namespace Go.Proofs.YtgjjnkhkjnkahaaDoor
open Go.RowKit

/-- A frame's box is written. -/
theorem fin_box {B : Nat} {base u : World} {X : Nat} {y : Fm} (hb : u.heap[X]? = some (.cells #[.int .i64 0, .int .i64 0, .int .i64 0, .bool false, .slice none 0 0] 29 (0, 0))) (hB : base.heap.size ≤ X) (hk : Kept [] base u) (hy : Fmk B u y) :
    (((((u.setCell ⟨X, 0, none⟩ (.int .i64 y.W)).setCell ⟨X, 1, none⟩ (.int .i64 y.H)).setCell ⟨X, 2, none⟩ (.int .i64 y.D)).setCell ⟨X, 3, none⟩ (.bool y.A)).setCell ⟨X, 4, none⟩ y.V).heap[X]? = some (.cells #[.int .i64 y.W, .int .i64 y.H, .int .i64 y.D, .bool y.A, y.V] 29 (0, 0)) ∧ Fmk B (((((u.setCell ⟨X, 0, none⟩ (.int .i64 y.W)).setCell ⟨X, 1, none⟩ (.int .i64 y.H)).setCell ⟨X, 2, none⟩ (.int .i64 y.D)).setCell ⟨X, 3, none⟩ (.bool y.A)).setCell ⟨X, 4, none⟩ y.V) y ∧ Kept [] base (((((u.setCell ⟨X, 0, none⟩ (.int .i64 y.W)).setCell ⟨X, 1, none⟩ (.int .i64 y.H)).setCell ⟨X, 2, none⟩ (.int .i64 y.D)).setCell ⟨X, 3, none⟩ (.bool y.A)).setCell ⟨X, 4, none⟩ y.V) := by
  have s5 := set5 (.int .i64 y.W) (.int .i64 y.H) (.int .i64 y.D) (.bool y.A) y.V hb
  exact ⟨s5.1, Gx.keepx hy s5.2 hb, hk.own s5.2 hB⟩
theorem Ms.at {w : World} {lo : Option Addr} {L : List Mi} (h : Ms w lo L) {k : Nat} (hk : k < L.length) : ∃ g off x, lo = some ⟨g, off, none⟩ ∧ L[k]? = some x ∧ ∀ u, Kept [] w u →
    (u.cell? ⟨g, off + k * 12, none⟩ = some (.int .i64 x.a.W) ∧ u.cell? ⟨g, off + k * 12 + 1, none⟩ = some (.int .i64 x.a.H) ∧ u.cell? ⟨g, off + k * 12 + 2, none⟩ = some (.int .i64 x.a.D) ∧ u.cell? ⟨g, off + k * 12 + 3, none⟩ = some (.bool x.a.A) ∧ u.cell? ⟨g, off + k * 12 + 4, none⟩ = some (.slice x.a.po x.a.n x.a.c)) ∧
    (u.cell? ⟨g, off + k * 12 + 5, none⟩ = some (.int .i64 x.b.W) ∧ u.cell? ⟨g, off + k * 12 + 6, none⟩ = some (.int .i64 x.b.H) ∧ u.cell? ⟨g, off + k * 12 + 7, none⟩ = some (.int .i64 x.b.D) ∧ u.cell? ⟨g, off + k * 12 + 8, none⟩ = some (.bool x.b.A) ∧ u.cell? ⟨g, off + k * 12 + 9, none⟩ = some (.slice x.b.po x.b.n x.b.c)) ∧
    u.cell? ⟨g, off + k * 12 + 10, none⟩ = some (.int .i64 x.p) ∧ u.cell? ⟨g, off + k * 12 + 11, none⟩ = some (.int .i64 x.o) := by
  rcases h with rfl | ⟨g, off, e, hc⟩
  · simp at hk
  · have hx : L[k]? = some L[k] := List.getElem?_eq_getElem hk
    refine ⟨g, off, L[k], e, hx, fun u hu => ?_⟩
    obtain ⟨⟨a0, a1, a2, a3, a4⟩, ⟨b0, b1, b2, b3, b4⟩, p, o⟩ := hc k L[k] hx
    have f : ∀ {i : Nat} {v : Value}, w.cell? ⟨g, i, none⟩ = some v → u.cell? ⟨g, i, none⟩ = some v := fun h => cell_keep hu h (by simp)
    exact ⟨⟨f a0, f a1, f a2, f a3, f a4⟩, ⟨f b0, f b1, f b2, f b3, f b4⟩, f p, f o⟩

set_option maxHeartbeats 32000000 in
set_option maxRecDepth 1000000 in
theorem mixes_any (lo : Option Addr) (cap : Nat) (L : List Mi) (w : World) (hT : Tc.Tb w) (hL : Ms w lo L) (hO : ∀ x ∈ L, x.a.Ok w ∧ x.b.Ok w ∧ (-9223372036854775808 ≤ x.p ∧ x.p ≤ 9223372036854775807) ∧ (-9223372036854775808 ≤ x.o ∧ x.o ≤ 9223372036854775807)) (hl : L.length ≤ 1048576) :
    Calls Tryd.prog 3 #[.slice lo L.length cap] w fun e w' => e = .returned (.bool true) ∧ Kept [] w w' := by
  have CA := Hid.mk (awake_any w hT)
  have HL := Hid.mk (And.intro hL hO)
  obtain ⟨N, eN⟩ : ∃ N, L.length = N := ⟨_, rfl⟩
  have EN := Hid.mk eN
  rw [eN] at hl ⊢
  clear hT hL hO eN
  go_enter Tryd.func3, Tryd.ntmps3
  go_wp2_with (fail)
  refine CA.out.mono ?_
  rintro e w1 ⟨rfl, k1⟩
  have K1 := Hid.mk k1
  clear k1 CA
  go_wp2_with (fail)
  go_loopw [4, 5, 6] (fun ov wv i wr => ∃ (k : Nat) (O Y : List Fm), k ≤ N ∧ i = .int .i64 (k : Int) ∧ O.length = 4 * k ∧ Ph w1 wr ov wv O Y) (fun _ _ i _ => N - (intOf i).toNat)
  case atStart => exact ⟨0, [], [], by omega, rfl, rfl, Ph.start _⟩
  case round =>
    obtain ⟨k, O1, Y1, hk, rfl, hO1, hP⟩ := hrel
    have HP := Hid.mk hP
    clear hP
    by_cases hlt : k < N
    · have ix : (k : Int) < (N : Int) := by omega
      obtain ⟨gl, ol, x, rfl, hxk, hce⟩ := HL.out.1.at (k := k) (by rw [EN.out]; exact hlt)
      have HX := Hid.mk (And.intro hce (HL.out.2 x (List.mem_of_getElem? hxk)))
      have HL1 := Hid.mk hO1
      clear hxk hce hO1
      go_wp2_with (fail)
      go_loopw [4, 5, 7] (fun ov wv j wr => ∃ (t : Nat) (O Y : List Fm), t ≤ 2 ∧ j = .int .i64 (t : Int) ∧ O.length = 4 * k + 2 * t ∧ Ph w1 wr ov wv O Y) (fun _ _ j _ => 2 - (intOf j).toNat)
      case atStart => exact ⟨0, O1, Y1, by omega, rfl, HL1.out, HP.out⟩
      case round =>
        obtain ⟨t, O, Y, ht, rfl, hOl, hP2⟩ := hrel
        obtain ⟨wo, rfl⟩ : ∃ wo, wo = wr := ⟨_, rfl⟩
        have HP2 := Hid.mk hP2
        have KO := Hid.mk (K1.out.trans hP2.kept)
        have HOl := Hid.mk hOl
        clear hP2 hOl
        by_cases hlt2 : t < 2
        · have ix2 : (t : Int) < 2 := by omega
          obtain ⟨⟨a0, a1, a2, a3, a4⟩, ⟨b0, b1, b2, b3, b4⟩, hp, ho⟩ := HX.out.1 wo KO.out
          clear hp ho b0 b1 b2 b3 b4
          go_wp2_with (fail)
          refine (copied_any x.a.W x.a.H x.a.D x.a.A x.a.po x.a.n x.a.c x.a.ln x.a.F wo (HX.out.2.1.keep KO.out).pn HX.out.2.1.n1 HX.out.2.1.l1).mono ?_
          rintro e u1 ⟨goA, gcA, gsA, csA, rfl, hCA, kA⟩
          obtain ⟨v1, ev1⟩ : ∃ v, u1.alloc (.cells #[.int .i64 x.a.W, .int .i64 x.a.H, .int .i64 x.a.D, .bool x.a.A, .slice goA x.a.n gcA] 29 (0, 0)) = v := ⟨_, rfl⟩
          have kv1 : Kept [] u1 v1 := by rw [← ev1]; exact alloc_kept _ _
          have bv1 : v1.heap[u1.heap.size]? = some (.cells #[.int .i64 x.a.W, .int .i64 x.a.H, .int .i64 x.a.D, .bool x.a.A, .slice goA x.a.n gcA] 29 (0, 0)) := by rw [← ev1]; exact heap_alloc_new _ _
          obtain ⟨X8, eX8⟩ : ∃ X, u1.heap.size = X := ⟨_, rfl⟩
          have EX8 := Hid.mk eX8
          rw [eX8] at bv1
          have KV1 := Hid.mk (kA.trans kv1)
          have CA1 := Hid.mk (hCA.keep kv1 (by simp))
          have LA1 : Hid (∀ z ∈ rbs gsA x.a.n, z < v1.heap.size) := Hid.mk CA1.out.lt
          have BX8 := Hid.mk bv1
          have EV1 := Hid.mk ev1
          obtain ⟨-, ⟨b0, b1, b2, b3, b4⟩, -, -⟩ := HX.out.1 v1 (KO.out.trans KV1.out)
          clear hCA kA kv1 bv1 eX8 ev1 a0 a1 a2 a3 a4
          go_upto_region 11 with (fail)
          rw [EV1.out, EX8.out]
          go_wp2_with (fail)
          refine (copied_any x.b.W x.b.H x.b.D x.b.A x.b.po x.b.n x.b.c x.b.ln x.b.F v1 (HX.out.2.2.1.keep (KO.out.trans KV1.out)).pn HX.out.2.2.1.n1 HX.out.2.2.1.l1).mono ?_
          rintro e u2 ⟨goB, gcB, gsB, csB, rfl, hCB, kB⟩
          obtain ⟨v2, ev2⟩ : ∃ v, u2.alloc (.cells #[.int .i64 x.b.W, .int .i64 x.b.H, .int .i64 x.b.D, .bool x.b.A, .slice goB x.b.n gcB] 29 (0, 0)) = v := ⟨_, rfl⟩
          have kv2 : Kept [] u2 v2 := by rw [← ev2]; exact alloc_kept _ _
          have bv2 : v2.heap[u2.heap.size]? = some (.cells #[.int .i64 x.b.W, .int .i64 x.b.H, .int .i64 x.b.D, .bool x.b.A, .slice goB x.b.n gcB] 29 (0, 0)) := by rw [← ev2]; exact heap_alloc_new _ _
          obtain ⟨X9, eX9⟩ : ∃ X, u2.heap.size = X := ⟨_, rfl⟩
          have EX9 := Hid.mk eX9
          rw [eX9] at bv2
          have KV2 := Hid.mk (kB.trans kv2)
          have CA2 := Hid.mk (CA1.out.keep KV2.out (by simp))
          have CB2 := Hid.mk (hCB.keep kv2 (by simp))
          have BX8' := Hid.mk (KV2.out.heap BX8.out (by simp))
          have BX9 := Hid.mk bv2
          have EV2 := Hid.mk ev2
          have KOv := Hid.mk (KO.out.trans (KV1.out.trans KV2.out))
          clear hCB kB kv2 bv2 eX9 ev2 b0 b1 b2 b3 b4
          go_upto_region 12 with (fail)
          rw [EV2.out, EX9.out]
          clear EV1 EV2 EX8 EX9 CA1 BX8
          obtain ⟨E, eE⟩ : ∃ E, mixE x.a.W x.a.H x.a.D x.a.A x.a.n x.a.ln x.a.F x.b.W x.b.H x.b.D x.b.A x.b.n x.b.ln x.b.F x.p x.o = E := ⟨_, rfl⟩
          have CM : Hid (∀ u, Kept [] v2 u → Calls Tryd.prog 7 #[frv x.a.W x.a.H x.a.D x.a.A goA x.a.n gcA, frv x.b.W x.b.H x.b.D x.b.A goB x.b.n gcB, .int .i64 x.p, .int .i64 x.o] u fun e w' => MuP E x.a.W x.a.H x.a.D x.a.A x.a.n (mxF x.a.F x.b.F x.p.toNat x.o.toNat) u e w') := Hid.mk (fun u hu => by
            have h := mix_u x.a.W x.a.H x.a.D x.a.A goA x.a.n gcA x.a.ln x.a.F x.b.W x.b.H x.b.D x.b.A goB x.b.n gcB x.b.ln x.b.F x.p x.o u (((CA2.out.keep hu (by simp)).pl).cng (fun i _ j hj => by unfold cpF; rw [if_pos hj])) HX.out.2.1.n1 HX.out.2.1.l1 (((CB2.out.keep hu (by simp)).pl).cng (fun i _ j hj => by unfold cpF; rw [if_pos hj])) HX.out.2.2.1.n1 HX.out.2.2.1.l1
            rw [eE] at h
            exact h)
          have CE : Hid (∀ u, Kept [] v2 u → (u.cell? ⟨X8, 0, none⟩ = some (.int .i64 x.a.W) ∧ u.cell? ⟨X8, 1, none⟩ = some (.int .i64 x.a.H) ∧ u.cell? ⟨X8, 2, none⟩ = some (.int .i64 x.a.D) ∧ u.cell? ⟨X8, 3, none⟩ = some (.bool x.a.A) ∧ u.cell? ⟨X8, 4, none⟩ = some (.slice goA x.a.n gcA)) ∧ (u.cell? ⟨X9, 0, none⟩ = some (.int .i64 x.b.W) ∧ u.cell? ⟨X9, 1, none⟩ = some (.int .i64 x.b.H) ∧ u.cell? ⟨X9, 2, none⟩ = some (.int .i64 x.b.D) ∧ u.cell? ⟨X9, 3, none⟩ = some (.bool x.b.A) ∧ u.cell? ⟨X9, 4, none⟩ = some (.slice goB x.b.n gcB)) ∧ u.cell? ⟨gl, ol + k * 12 + 10, none⟩ = some (.int .i64 x.p) ∧ u.cell? ⟨gl, ol + k * 12 + 11, none⟩ = some (.int .i64 x.o)) := Hid.mk (fun u hu => ⟨(five (hu.heap BX8'.out (by simp))).1, (five (hu.heap BX9.out (by simp))).1, (HX.out.1 u (KOv.out.trans hu)).2.2⟩)
          go_cut [10, 11] (fun s10 s11 wc => ∃ (X : Nat) (y : Fm), s10 = .pointer (some ⟨X, 0, none⟩) ∧ s11 = .int .i64 E ∧ v2.heap.size ≤ X ∧ wc.heap[X]? = some (.cells #[.int .i64 y.W, .int .i64 y.H, .int .i64 y.D, .bool y.A, y.V] 29 (0, 0)) ∧ Fmk v2.heap.size wc y ∧ Rsx E x.a.W x.a.H x.a.D x.a.A x.a.n (mxF x.a.F x.b.F x.p.toNat x.o.toNat) y ∧ Kept [] v2 wc)
          case first =>
            refine wp_region_held_drew (S := fun u => Kept [] v2 u) (by kernel_rfl) (Kept.refl [] v2).drew (fun hH0 => ?_)
            refine wpAnyH_take (i := 0) (oi := _) (v := ?_) rfl (by kernel_rfl) (by kernel_rfl) (by kernel_rfl) (fun _ _ _ h => h) (Or.inl ⟨by rfl, ?y0ra⟩) (by assumption) ?r0ra
            case y0ra => (intro u hSw; have hSu : Kept [] v2 u := hSw; obtain ⟨⟨t0, t1, t2, t3, t4⟩, ⟨t5, t6, t7, t8, t9⟩, t10, t11⟩ := CE.out u hSu; go_simp; try with_reducible rfl)
            refine wpAnyH_take (i := 1) (oi := _) (v := ?_) rfl (by kernel_rfl) (by kernel_rfl) (by kernel_rfl) (fun _ _ _ h => h) (Or.inl ⟨by rfl, ?y1ra⟩) (by assumption) ?r1ra
            case y1ra => (intro u hSw; have hSu : Kept [] v2 u := hSw; obtain ⟨⟨t0, t1, t2, t3, t4⟩, ⟨t5, t6, t7, t8, t9⟩, t10, t11⟩ := CE.out u hSu; go_simp; try with_reducible rfl)
            refine wpAnyH_take (i := 2) (oi := _) (v := ?_) rfl (by kernel_rfl) (by kernel_rfl) (by kernel_rfl) (fun _ _ _ h => h) (Or.inl ⟨by rfl, ?y2ra⟩) (by assumption) ?r2ra
            case y2ra => (intro u hSw; have hSu : Kept [] v2 u := hSw; obtain ⟨⟨t0, t1, t2, t3, t4⟩, ⟨t5, t6, t7, t8, t9⟩, t10, t11⟩ := CE.out u hSu; go_simp; try with_reducible rfl)
            refine wpAnyH_take (i := 3) (oi := _) (v := ?_) rfl (by kernel_rfl) (by kernel_rfl) (by kernel_rfl) (fun _ _ _ h => h) (Or.inl ⟨by rfl, ?y3ra⟩) (by assumption) ?r3ra
            case y3ra => (intro u hSw; have hSu : Kept [] v2 u := hSw; obtain ⟨⟨t0, t1, t2, t3, t4⟩, ⟨t5, t6, t7, t8, t9⟩, t10, t11⟩ := CE.out u hSu; go_simp; try with_reducible rfl)
            refine wpAnyH_take (i := 4) (oi := _) (v := ?_) rfl (by kernel_rfl) (by kernel_rfl) (by kernel_rfl) (fun _ _ _ h => h) (Or.inl ⟨by rfl, ?y4ra⟩) (by assumption) ?r4ra
            case y4ra => (intro u hSw; have hSu : Kept [] v2 u := hSw; obtain ⟨⟨t0, t1, t2, t3, t4⟩, ⟨t5, t6, t7, t8, t9⟩, t10, t11⟩ := CE.out u hSu; go_simp; try with_reducible rfl)
            refine wpAnyH_take (i := 5) (oi := _) (v := ?_) rfl (by kernel_rfl) (by kernel_rfl) (by kernel_rfl) (fun _ _ _ h => h) (Or.inl ⟨by rfl, ?y5ra⟩) (by assumption) ?r5ra
            case y5ra => (intro u hSw; have hSu : Kept [] v2 u := hSw; obtain ⟨⟨t0, t1, t2, t3, t4⟩, ⟨t5, t6, t7, t8, t9⟩, t10, t11⟩ := CE.out u hSu; go_simp; try with_reducible rfl)
            refine wpAnyH_take (i := 6) (oi := _) (v := ?_) rfl (by kernel_rfl) (by kernel_rfl) (by kernel_rfl) (fun _ _ _ h => h) (Or.inl ⟨by rfl, ?y6ra⟩) (by assumption) ?r6ra
            case y6ra => (intro u hSw; have hSu : Kept [] v2 u := hSw; obtain ⟨⟨t0, t1, t2, t3, t4⟩, ⟨t5, t6, t7, t8, t9⟩, t10, t11⟩ := CE.out u hSu; go_simp; try with_reducible rfl)
            refine wpAnyH_take (i := 7) (oi := _) (v := ?_) rfl (by kernel_rfl) (by kernel_rfl) (by kernel_rfl) (fun _ _ _ h => h) (Or.inl ⟨by rfl, ?y7ra⟩) (by assumption) ?r7ra
            case y7ra => (intro u hSw; have hSu : Kept [] v2 u := hSw; obtain ⟨⟨t0, t1, t2, t3, t4⟩, ⟨t5, t6, t7, t8, t9⟩, t10, t11⟩ := CE.out u hSu; go_simp; try with_reducible rfl)
            refine wpAnyH_take (i := 8) (oi := _) (v := ?_) rfl (by kernel_rfl) (by kernel_rfl) (by kernel_rfl) (fun _ _ _ h => h) (Or.inl ⟨by rfl, ?y8ra⟩) (by assumption) ?r8ra
            case y8ra => (intro u hSw; have hSu : Kept [] v2 u := hSw; obtain ⟨⟨t0, t1, t2, t3, t4⟩, ⟨t5, t6, t7, t8, t9⟩, t10, t11⟩ := CE.out u hSu; go_simp; try with_reducible rfl)
            refine wpAnyH_take (i := 9) (oi := _) (v := ?_) rfl (by kernel_rfl) (by kernel_rfl) (by kernel_rfl) (fun _ _ _ h => h) (Or.inl ⟨by rfl, ?y9ra⟩) (by assumption) ?r9ra
            case y9ra => (intro u hSw; have hSu : Kept [] v2 u := hSw; obtain ⟨⟨t0, t1, t2, t3, t4⟩, ⟨t5, t6, t7, t8, t9⟩, t10, t11⟩ := CE.out u hSu; go_simp; try with_reducible rfl)
            refine wpAnyH_take (i := 10) (oi := _) (v := ?_) rfl (by kernel_rfl) (by kernel_rfl) (by kernel_rfl) (fun _ _ _ h => h) (Or.inl ⟨by rfl, ?y10ra⟩) (by assumption) ?r10ra
            case y10ra => (intro u hSw; have hSu : Kept [] v2 u := hSw; obtain ⟨⟨t0, t1, t2, t3, t4⟩, ⟨t5, t6, t7, t8, t9⟩, t10, t11⟩ := CE.out u hSu; go_simp; try with_reducible rfl)
            refine wpAnyH_take (i := 11) (oi := _) (v := ?_) rfl (by kernel_rfl) (by kernel_rfl) (by kernel_rfl) (fun _ _ _ h => h) (Or.inl ⟨by rfl, ?y11ra⟩) (by assumption) ?r11ra
            case y11ra => (intro u hSw; have hSu : Kept [] v2 u := hSw; obtain ⟨⟨t0, t1, t2, t3, t4⟩, ⟨t5, t6, t7, t8, t9⟩, t10, t11⟩ := CE.out u hSu; go_simp; try with_reducible rfl)
            have kk0 := (Kept.refl [] v2).drew
            clear hH0
            as_aux_lemma =>
              refine wpAnyH_ready (rs := [12, 16]) (by kernel_rfl) (by simp) ?_
              refine AllReadyH.cons rfl (fun K hK => ?_) (AllReadyH.cons rfl (fun K hK => ?_) AllReadyH.nil)
              · go_simp
                go_at_call 7
                refine (CM.out v2.drew kk0).mono ?_
                rintro e uu1 ⟨y, rfl, hy0, hRs, ku1⟩
                have kk1 := kk0.trans ku1
                obtain ⟨yW, yH, yD, yA, yV, yn, ybs, yln, yF⟩ := y
                obtain ⟨yp, yc, eV, -⟩ := Gx.pl hy0
                obtain rfl : yV = .slice yp yn yc := eV
                have hy := hy0.base kk0.size
                clear hy0
                refine hK.out _ _ kk1 (fun hH1 => ?_)
                clear hK K hH1
                refine wpAnyH_take (i := 13) (oi := _) (v := ?_) rfl (by kernel_rfl) (by kernel_rfl) (by kernel_rfl) (fun _ _ _ h => h) (Or.inl ⟨by rfl, ?y13rac1⟩) (by assumption) ?r13rac1
                case y13rac1 => (intro u hSw; have hSu : Kept [] v2 u := hSw; obtain ⟨⟨t0, t1, t2, t3, t4⟩, ⟨t5, t6, t7, t8, t9⟩, t10, t11⟩ := CE.out u hSu; go_simp; try with_reducible rfl)
                refine wpAnyH_take (i := 14) (oi := _) (v := ?_) rfl (by kernel_rfl) (by kernel_rfl) (by kernel_rfl) (fun _ _ _ h => h) (Or.inl ⟨by rfl, ?y14rac1⟩) (by assumption) ?r14rac1
                case y14rac1 => (intro u hSw; have hSu : Kept [] v2 u := hSw; obtain ⟨⟨t0, t1, t2, t3, t4⟩, ⟨t5, t6, t7, t8, t9⟩, t10, t11⟩ := CE.out u hSu; go_simp; try with_reducible rfl)
                refine wpAnyH_take (i := 15) (oi := _) (v := ?_) rfl (by kernel_rfl) (by kernel_rfl) (by kernel_rfl) (fun _ _ _ h => h) (Or.inl ⟨by rfl, ?y15rac1⟩) (by assumption) ?r15rac1
                case y15rac1 => (intro u hSw; have hSu : Kept [] v2 u := hSw; obtain ⟨⟨t0, t1, t2, t3, t4⟩, ⟨t5, t6, t7, t8, t9⟩, t10, t11⟩ := CE.out u hSu; go_simp; try with_reducible rfl)
                refine wpAnyH_ready (rs := [16]) (by kernel_rfl) (by simp) ?_
                refine AllReadyH.cons rfl (fun K hK => ?_) AllReadyH.nil
                go_simp
                obtain ⟨wA2, eA2⟩ : ∃ wA, uu1.alloc (.cells #[.int .i64 0, .int .i64 0, .int .i64 0, .bool false, .slice none 0 0] 29 (0, 0)) = wA := ⟨_, rfl⟩
                have kA2 : Kept [] v2 wA2 := by rw [← eA2]; exact kk1.alloc _
                have bX2 : wA2.heap[uu1.heap.size]? = some (.cells #[.int .i64 0, .int .i64 0, .int .i64 0, .bool false, .slice none 0 0] 29 (0, 0)) := by rw [← eA2]; exact heap_alloc_new uu1 _
                have lX2 : v2.heap.size ≤ uu1.heap.size := kk1.size
                have hy := hy.keep (show Kept [] uu1 wA2 by rw [← eA2]; exact alloc_kept _ _)
                refine hK.out _ _ (kk1.alloc _) (fun hH1 => ?_)
                clear hK K hH1
                try rw [eA2]
                obtain ⟨⟨z0, z1, z2, z3, z4⟩, f0, f1, f2, f3, f4⟩ := five bX2
                have FB := fin_box bX2 (base := v2) (y := ⟨yW, yH, yD, yA, .slice yp yn yc, yn, ybs, yln, yF⟩) lX2 kA2 hy
                dsimp only at FB
                refine wpAnyH_ready (rs := [17]) (by kernel_rfl) (by simp) ?_
                refine AllReadyH.cons rfl (fun K hK => ?_) AllReadyH.nil
                go_simp
                refine hK.out _ _ FB.2.2 (fun hH1 => ?_)
                clear hK K z0 z1 z2 z3 z4 f0 f1 f2 f3 f4
                refine wpAnyH_take (i := 18) (oi := _) (v := ?_) rfl (by kernel_rfl) (by kernel_rfl) (by kernel_rfl) (fun _ _ _ h => h) (Or.inl ⟨by rfl, ?y18racaz⟩) (by assumption) ?r18racaz
                case y18racaz => (intro u hSw; have hSu : Kept [] v2 u := hSw; obtain ⟨⟨t0, t1, t2, t3, t4⟩, ⟨t5, t6, t7, t8, t9⟩, t10, t11⟩ := CE.out u hSu; go_simp; try with_reducible rfl)
                refine wpAnyH_done (by kernel_rfl) ?_ _
                go_wp2
                go_meet
                exact ⟨_, ⟨yW, yH, yD, yA, .slice yp yn yc, yn, ybs, yln, yF⟩, rfl, rfl, lX2, FB.1, FB.2.1, hRs, FB.2.2⟩
              · go_simp
                obtain ⟨wA3, eA3⟩ : ∃ wA, (v2.alloc (.cells #[.int .i64 0, .int .i64 0, .int .i64 0, .bool false, .slice none 0 0] 29 (0, 0))).drew = wA := ⟨_, rfl⟩
                have kA3 : Kept [] v2 wA3 := by rw [← eA3]; exact ((Kept.refl [] v2).alloc _).drew
                have bX3 : wA3.heap[v2.heap.size]? = some (.cells #[.int .i64 0, .int .i64 0, .int .i64 0, .bool false, .slice none 0 0] 29 (0, 0)) := by rw [← eA3]; exact heap_alloc_new v2 _
                have lX3 : v2.heap.size ≤ v2.drew.heap.size := kk0.size
                refine hK.out _ _ (((Kept.refl [] v2).alloc _).drew) (fun hH1 => ?_)
                clear hK K hH1
                try rw [eA3]
                refine wpAnyH_ready (rs := [12]) (by kernel_rfl) (by simp) ?_
                refine AllReadyH.cons rfl (fun K hK => ?_) AllReadyH.nil
                go_simp
                go_at_call 7
                refine (CM.out wA3 kA3).mono ?_
                rintro e uu4 ⟨y, rfl, hy0, hRs, ku4⟩
                have kk4 := kA3.trans ku4
                have bX4 := ku4.heap bX3 (by simp)
                obtain ⟨yW, yH, yD, yA, yV, yn, ybs, yln, yF⟩ := y
                obtain ⟨yp, yc, eV, -⟩ := Gx.pl hy0
                obtain rfl : yV = .slice yp yn yc := eV
                have hy := hy0.base kA3.size
                clear hy0
                refine hK.out _ _ kk4 (fun hH1 => ?_)
                clear hK K hH1
                refine wpAnyH_take (i := 13) (oi := _) (v := ?_) rfl (by kernel_rfl) (by kernel_rfl) (by kernel_rfl) (fun _ _ _ h => h) (Or.inl ⟨by rfl, ?y13raac4⟩) (by assumption) ?r13raac4
                case y13raac4 => (intro u hSw; have hSu : Kept [] v2 u := hSw; obtain ⟨⟨t0, t1, t2, t3, t4⟩, ⟨t5, t6, t7, t8, t9⟩, t10, t11⟩ := CE.out u hSu; go_simp; try with_reducible rfl)
                refine wpAnyH_take (i := 14) (oi := _) (v := ?_) rfl (by kernel_rfl) (by kernel_rfl) (by kernel_rfl) (fun _ _ _ h => h) (Or.inl ⟨by rfl, ?y14raac4⟩) (by assumption) ?r14raac4
                case y14raac4 => (intro u hSw; have hSu : Kept [] v2 u := hSw; obtain ⟨⟨t0, t1, t2, t3, t4⟩, ⟨t5, t6, t7, t8, t9⟩, t10, t11⟩ := CE.out u hSu; go_simp; try with_reducible rfl)
                refine wpAnyH_take (i := 15) (oi := _) (v := ?_) rfl (by kernel_rfl) (by kernel_rfl) (by kernel_rfl) (fun _ _ _ h => h) (Or.inl ⟨by rfl, ?y15raac4⟩) (by assumption) ?r15raac4
                case y15raac4 => (intro u hSw; have hSu : Kept [] v2 u := hSw; obtain ⟨⟨t0, t1, t2, t3, t4⟩, ⟨t5, t6, t7, t8, t9⟩, t10, t11⟩ := CE.out u hSu; go_simp; try with_reducible rfl)
                obtain ⟨⟨z0, z1, z2, z3, z4⟩, f0, f1, f2, f3, f4⟩ := five bX4
                have FB := fin_box bX4 (base := v2) (y := ⟨yW, yH, yD, yA, .slice yp yn yc, yn, ybs, yln, yF⟩) lX3 kk4 hy
                dsimp only at FB
                refine wpAnyH_ready (rs := [17]) (by kernel_rfl) (by simp) ?_
                refine AllReadyH.cons rfl (fun K hK => ?_) AllReadyH.nil
                go_simp
                refine hK.out _ _ FB.2.2 (fun hH1 => ?_)
                clear hK K z0 z1 z2 z3 z4 f0 f1 f2 f3 f4
                refine wpAnyH_take (i := 18) (oi := _) (v := ?_) rfl (by kernel_rfl) (by kernel_rfl) (by kernel_rfl) (fun _ _ _ h => h) (Or.inl ⟨by rfl, ?y18raacz⟩) (by assumption) ?r18raacz
                case y18raacz => (intro u hSw; have hSu : Kept [] v2 u := hSw; obtain ⟨⟨t0, t1, t2, t3, t4⟩, ⟨t5, t6, t7, t8, t9⟩, t10, t11⟩ := CE.out u hSu; go_simp; try with_reducible rfl)
                refine wpAnyH_done (by kernel_rfl) ?_ _
                go_wp2
                go_meet
                exact ⟨_, ⟨yW, yH, yD, yA, .slice yp yn yc, yn, ybs, yln, yF⟩, rfl, rfl, lX3, FB.1, FB.2.1, hRs, FB.2.2⟩
          case rest =>
            obtain ⟨X10, y1, rfl, rfl, hl10, hb10, hy1, hR1, kc⟩ := hcut
            obtain ⟨wz, rfl⟩ : ∃ z, z = wc := ⟨_, rfl⟩
            have Y1 := Hid.mk hy1
            have R1 := Hid.mk hR1
            have B10 := Hid.mk hb10
            have KC := Hid.mk kc
            have A3 := Hid.mk (CA2.out.keep kc (by simp))
            have B3 := Hid.mk (CB2.out.keep kc (by simp))
            have X83 := Hid.mk (kc.heap BX8'.out (by simp))
            have X93 := Hid.mk (kc.heap BX9.out (by simp))
            have KO3 := Hid.mk (KOv.out.trans kc)
            have LA : Hid (∀ z ∈ rbs gsA x.a.n, z < v1.heap.size ∧ wo.heap.size ≤ z) := Hid.mk (fun z hz => ⟨LA1.out z hz, A3.out.ge z hz⟩)
            have LB : Hid (∀ z ∈ rbs gsB x.b.n, z < v2.heap.size ∧ v1.heap.size ≤ z) := Hid.mk (fun z hz => ⟨CB2.out.lt z hz, CB2.out.ge z hz⟩)
            have KOO := Hid.mk (KV1.out.trans (KV2.out.trans kc))
            have SV1 : Hid (wo.heap.size ≤ v1.heap.size ∧ v1.heap.size ≤ v2.heap.size ∧ v2.heap.size ≤ wz.heap.size) := Hid.mk ⟨KV1.out.size, KV2.out.size, kc.size⟩
            clear hy1 hR1 hb10 kc CM CE CA2 CB2 BX8' BX9 KOv KC
            have CE : Hid (∀ u, Kept (rbs gsA x.a.n) wz u → (u.cell? ⟨X8, 0, none⟩ = some (.int .i64 x.a.W) ∧ u.cell? ⟨X8, 1, none⟩ = some (.int .i64 x.a.H) ∧ u.cell? ⟨X8, 2, none⟩ = some (.int .i64 x.a.D) ∧ u.cell? ⟨X8, 3, none⟩ = some (.bool x.a.A) ∧ u.cell? ⟨X8, 4, none⟩ = some (.slice goA x.a.n gcA)) ∧ (u.cell? ⟨gl, ol + k * 12, none⟩ = some (.int .i64 x.a.W) ∧ u.cell? ⟨gl, ol + k * 12 + 1, none⟩ = some (.int .i64 x.a.H) ∧ u.cell? ⟨gl, ol + k * 12 + 2, none⟩ = some (.int .i64 x.a.D) ∧ u.cell? ⟨gl, ol + k * 12 + 3, none⟩ = some (.bool x.a.A) ∧ u.cell? ⟨gl, ol + k * 12 + 4, none⟩ = some (.slice x.a.po x.a.n x.a.c))) := Hid.mk (fun u hu => ⟨(five (hu.heap X83.out (A3.out.nbx X83.out))).1, (HX.out.1 u (KO3.out.step hu (fun z hz => .inr (by have := (LA.out z hz).2; have := KO.out.size; omega)))).1⟩)
            have CS : Hid (∀ u, Kept [] wz u → Calls Tryd.prog 8 #[frv x.a.W x.a.H x.a.D x.a.A goA x.a.n gcA, frv x.a.W x.a.H x.a.D x.a.A x.a.po x.a.n x.a.c] u fun e w' => e = .returned (.bool true) ∧ Cz wo.heap.size w' (.slice goA x.a.n gcA) x.a.n gsA csA x.a.ln (fun _ _ => 7) ∧ Kept (rbs gsA x.a.n) u w') := Hid.mk (fun u hu => still_yes x.a.W x.a.H x.a.D x.a.A goA x.a.n gcA wo.heap.size gsA csA x.a.ln x.a.po x.a.c x.a.F u (A3.out.keep hu (by simp)) ((HX.out.2.1.keep (KO3.out.trans hu)).pn.pl) HX.out.2.1.n1 HX.out.2.1.l1)
            go_upto_region 13 with (fail)
            go_cut [12] (fun s wc => s = .bool true ∧ Cz wo.heap.size wc (.slice goA x.a.n gcA) x.a.n gsA csA x.a.ln (fun _ _ => 7) ∧ Kept (rbs gsA x.a.n) wz wc)
            case first =>
              refine wp_region_held_drew (S := fun u => Kept (rbs gsA x.a.n) wz u) (by kernel_rfl) ((Kept.refl _ wz).drew) (fun hH0 => ?_)
              refine wpAnyH_take (i := 0) (oi := _) (v := ?_) rfl (by kernel_rfl) (by kernel_rfl) (by kernel_rfl) (fun _ _ _ h => h) (Or.inl ⟨by rfl, ?y0rb⟩) (by assumption) ?r0rb
              case y0rb => (intro u hSw; have hSu : Kept (rbs gsA x.a.n) wz u := hSw; obtain ⟨⟨t0, t1, t2, t3, t4⟩, ⟨t5, t6, t7, t8, t9⟩⟩ := CE.out u hSu; go_simp; try with_reducible rfl)
              refine wpAnyH_take (i := 1) (oi := _) (v := ?_) rfl (by kernel_rfl) (by kernel_rfl) (by kernel_rfl) (fun _ _ _ h => h) (Or.inl ⟨by rfl, ?y1rb⟩) (by assumption) ?r1rb
              case y1rb => (intro u hSw; have hSu : Kept (rbs gsA x.a.n) wz u := hSw; obtain ⟨⟨t0, t1, t2, t3, t4⟩, ⟨t5, t6, t7, t8, t9⟩⟩ := CE.out u hSu; go_simp; try with_reducible rfl)
              refine wpAnyH_take (i := 2) (oi := _) (v := ?_) rfl (by kernel_rfl) (by kernel_rfl) (by kernel_rfl) (fun _ _ _ h => h) (Or.inl ⟨by rfl, ?y2rb⟩) (by assumption) ?r2rb
              case y2rb => (intro u hSw; have hSu : Kept (rbs gsA x.a.n) wz u := hSw; obtain ⟨⟨t0, t1, t2, t3, t4⟩, ⟨t5, t6, t7, t8, t9⟩⟩ := CE.out u hSu; go_simp; try with_reducible rfl)
              refine wpAnyH_take (i := 3) (oi := _) (v := ?_) rfl (by kernel_rfl) (by kernel_rfl) (by kernel_rfl) (fun _ _ _ h => h) (Or.inl ⟨by rfl, ?y3rb⟩) (by assumption) ?r3rb
              case y3rb => (intro u hSw; have hSu : Kept (rbs gsA x.a.n) wz u := hSw; obtain ⟨⟨t0, t1, t2, t3, t4⟩, ⟨t5, t6, t7, t8, t9⟩⟩ := CE.out u hSu; go_simp; try with_reducible rfl)
              refine wpAnyH_take (i := 4) (oi := _) (v := ?_) rfl (by kernel_rfl) (by kernel_rfl) (by kernel_rfl) (fun _ _ _ h => h) (Or.inl ⟨by rfl, ?y4rb⟩) (by assumption) ?r4rb
              case y4rb => (intro u hSw; have hSu : Kept (rbs gsA x.a.n) wz u := hSw; obtain ⟨⟨t0, t1, t2, t3, t4⟩, ⟨t5, t6, t7, t8, t9⟩⟩ := CE.out u hSu; go_simp; try with_reducible rfl)
              refine wpAnyH_take (i := 5) (oi := _) (v := ?_) rfl (by kernel_rfl) (by kernel_rfl) (by kernel_rfl) (fun _ _ _ h => h) (Or.inl ⟨by rfl, ?y5rb⟩) (by assumption) ?r5rb
              case y5rb => (intro u hSw; have hSu : Kept (rbs gsA x.a.n) wz u := hSw; obtain ⟨⟨t0, t1, t2, t3, t4⟩, ⟨t5, t6, t7, t8, t9⟩⟩ := CE.out u hSu; go_simp; try with_reducible rfl)
              as_aux_lemma =>
                refine wpAnyH_ready (rs := [6]) (by kernel_rfl) (by simp) ?_
                refine AllReadyH.cons rfl (fun K hK => ?_) AllReadyH.nil
                go_simp
                go_at_call 8
                refine (CS.out _ (Kept.refl [] wz).drew).mono ?_
                rintro e wd ⟨rfl, hC7, kS⟩
                refine hK.out _ _ kS.undrew (fun hH1 => ?_)
                clear hK K hH0 CS CE
                refine wpAnyH_take (i := 7) (oi := _) (v := ?_) rfl (by kernel_rfl) (by kernel_rfl) (by kernel_rfl) (fun _ _ _ h => h) (Or.inl ⟨by rfl, ?y7rbz⟩) (by assumption) ?r7rbz
                case y7rbz => (intro u hSw; have hSu : Kept (rbs gsA x.a.n) wz u := hSw;  go_simp; try with_reducible rfl)
                refine wpAnyH_done (by kernel_rfl) ?_ _
                go_wp2
                go_meet
                exact ⟨rfl, hC7, kS.undrew⟩
            case rest =>
              obtain ⟨rfl, hC7, kS⟩ := hcut
              obtain ⟨wd, rfl⟩ : ∃ z, z = wc := ⟨_, rfl⟩
              have KS := Hid.mk kS
              have C7 := Hid.mk hC7
              clear kS hC7 CS CE
              have B4 := Hid.mk (B3.out.keep KS.out (fun z hz => .inl (LA.out z hz).1))
              have Y14 := Hid.mk (Y1.out.keepb KS.out (fun z hz => by have := (LA.out z hz).1; have := SV1.out; omega))
              have X84 := Hid.mk (KS.out.heap X83.out (A3.out.nbx X83.out))
              have X94 := Hid.mk (KS.out.heap X93.out (A3.out.nbx X93.out))
              have X104 := Hid.mk (KS.out.heap B10.out (A3.out.nbx B10.out))
              have KO4 := Hid.mk (KO3.out.step KS.out (fun z hz => .inr (by have := (LA.out z hz).2; have := KO.out.size; omega)))
              have KOO4 := Hid.mk (KOO.out.step KS.out (fun z hz => .inr (LA.out z hz).2))
              have SV4 : Hid (v2.heap.size ≤ wd.heap.size) := Hid.mk (by have := KS.out.size; have := SV1.out; omega)
              have A4 := Hid.mk C7.out
              clear A3 B3 Y1 X83 X93 B10 KO3 KOO KS C7
              have CE : Hid (∀ u, Kept (rbs gsB x.b.n) wd u → (u.cell? ⟨X9, 0, none⟩ = some (.int .i64 x.b.W) ∧ u.cell? ⟨X9, 1, none⟩ = some (.int .i64 x.b.H) ∧ u.cell? ⟨X9, 2, none⟩ = some (.int .i64 x.b.D) ∧ u.cell? ⟨X9, 3, none⟩ = some (.bool x.b.A) ∧ u.cell? ⟨X9, 4, none⟩ = some (.slice goB x.b.n gcB)) ∧ (u.cell? ⟨gl, ol + k * 12 + 5, none⟩ = some (.int .i64 x.b.W) ∧ u.cell? ⟨gl, ol + k * 12 + 6, none⟩ = some (.int .i64 x.b.H) ∧ u.cell? ⟨gl, ol + k * 12 + 7, none⟩ = some (.int .i64 x.b.D) ∧ u.cell? ⟨gl, ol + k * 12 + 8, none⟩ = some (.bool x.b.A) ∧ u.cell? ⟨gl, ol + k * 12 + 9, none⟩ = some (.slice x.b.po x.b.n x.b.c))) := Hid.mk (fun u hu => ⟨(five (hu.heap X94.out (B4.out.nbx X94.out))).1, (HX.out.1 u (KO4.out.step hu (fun z hz => .inr (by have := (LB.out z hz).2; have := SV1.out; have := KO.out.size; omega)))).2.1⟩)
              have CS : Hid (∀ u, Kept [] wd u → Calls Tryd.prog 8 #[frv x.b.W x.b.H x.b.D x.b.A goB x.b.n gcB, frv x.b.W x.b.H x.b.D x.b.A x.b.po x.b.n x.b.c] u fun e w' => e = .returned (.bool true) ∧ Cz v1.heap.size w' (.slice goB x.b.n gcB) x.b.n gsB csB x.b.ln (fun _ _ => 7) ∧ Kept (rbs gsB x.b.n) u w') := Hid.mk (fun u hu => still_yes x.b.W x.b.H x.b.D x.b.A goB x.b.n gcB v1.heap.size gsB csB x.b.ln x.b.po x.b.c x.b.F u (B4.out.keep hu (by simp)) ((HX.out.2.2.1.keep (KO4.out.trans hu)).pn.pl) HX.out.2.2.1.n1 HX.out.2.2.1.l1)
              go_upto_region 14 with (fail)
              go_cut [13] (fun s wc => s = .bool true ∧ Cz v1.heap.size wc (.slice goB x.b.n gcB) x.b.n gsB csB x.b.ln (fun _ _ => 7) ∧ Kept (rbs gsB x.b.n) wd wc)
              case first =>
                refine wp_region_held_drew (S := fun u => Kept (rbs gsB x.b.n) wd u) (by kernel_rfl) ((Kept.refl _ wd).drew) (fun hH0 => ?_)
                refine wpAnyH_take (i := 0) (oi := _) (v := ?_) rfl (by kernel_rfl) (by kernel_rfl) (by kernel_rfl) (fun _ _ _ h => h) (Or.inl ⟨by rfl, ?y0rc⟩) (by assumption) ?r0rc
                case y0rc => (intro u hSw; have hSu : Kept (rbs gsB x.b.n) wd u := hSw; obtain ⟨⟨t0, t1, t2, t3, t4⟩, ⟨t5, t6, t7, t8, t9⟩⟩ := CE.out u hSu; go_simp; try with_reducible rfl)
                refine wpAnyH_take (i := 1) (oi := _) (v := ?_) rfl (by kernel_rfl) (by kernel_rfl) (by kernel_rfl) (fun _ _ _ h => h) (Or.inl ⟨by rfl, ?y1rc⟩) (by assumption) ?r1rc
                case y1rc => (intro u hSw; have hSu : Kept (rbs gsB x.b.n) wd u := hSw; obtain ⟨⟨t0, t1, t2, t3, t4⟩, ⟨t5, t6, t7, t8, t9⟩⟩ := CE.out u hSu; go_simp; try with_reducible rfl)
                refine wpAnyH_take (i := 2) (oi := _) (v := ?_) rfl (by kernel_rfl) (by kernel_rfl) (by kernel_rfl) (fun _ _ _ h => h) (Or.inl ⟨by rfl, ?y2rc⟩) (by assumption) ?r2rc
                case y2rc => (intro u hSw; have hSu : Kept (rbs gsB x.b.n) wd u := hSw; obtain ⟨⟨t0, t1, t2, t3, t4⟩, ⟨t5, t6, t7, t8, t9⟩⟩ := CE.out u hSu; go_simp; try with_reducible rfl)
                refine wpAnyH_take (i := 3) (oi := _) (v := ?_) rfl (by kernel_rfl) (by kernel_rfl) (by kernel_rfl) (fun _ _ _ h => h) (Or.inl ⟨by rfl, ?y3rc⟩) (by assumption) ?r3rc
                case y3rc => (intro u hSw; have hSu : Kept (rbs gsB x.b.n) wd u := hSw; obtain ⟨⟨t0, t1, t2, t3, t4⟩, ⟨t5, t6, t7, t8, t9⟩⟩ := CE.out u hSu; go_simp; try with_reducible rfl)
                refine wpAnyH_take (i := 4) (oi := _) (v := ?_) rfl (by kernel_rfl) (by kernel_rfl) (by kernel_rfl) (fun _ _ _ h => h) (Or.inl ⟨by rfl, ?y4rc⟩) (by assumption) ?r4rc
                case y4rc => (intro u hSw; have hSu : Kept (rbs gsB x.b.n) wd u := hSw; obtain ⟨⟨t0, t1, t2, t3, t4⟩, ⟨t5, t6, t7, t8, t9⟩⟩ := CE.out u hSu; go_simp; try with_reducible rfl)
                refine wpAnyH_take (i := 5) (oi := _) (v := ?_) rfl (by kernel_rfl) (by kernel_rfl) (by kernel_rfl) (fun _ _ _ h => h) (Or.inl ⟨by rfl, ?y5rc⟩) (by assumption) ?r5rc
                case y5rc => (intro u hSw; have hSu : Kept (rbs gsB x.b.n) wd u := hSw; obtain ⟨⟨t0, t1, t2, t3, t4⟩, ⟨t5, t6, t7, t8, t9⟩⟩ := CE.out u hSu; go_simp; try with_reducible rfl)
                as_aux_lemma =>
                  refine wpAnyH_ready (rs := [6]) (by kernel_rfl) (by simp) ?_
                  refine AllReadyH.cons rfl (fun K hK => ?_) AllReadyH.nil
                  go_simp
                  go_at_call 8
                  refine (CS.out _ (Kept.refl [] wd).drew).mono ?_
                  rintro e we ⟨rfl, hC7, kS⟩
                  refine hK.out _ _ kS.undrew (fun hH1 => ?_)
                  clear hK K hH0 CS CE
                  refine wpAnyH_take (i := 7) (oi := _) (v := ?_) rfl (by kernel_rfl) (by kernel_rfl) (by kernel_rfl) (fun _ _ _ h => h) (Or.inl ⟨by rfl, ?y7rcz⟩) (by assumption) ?r7rcz
                  case y7rcz => (intro u hSw; have hSu : Kept (rbs gsB x.b.n) wd u := hSw;  go_simp; try with_reducible rfl)
                  refine wpAnyH_done (by kernel_rfl) ?_ _
                  go_wp2
                  go_meet
                  exact ⟨rfl, hC7, kS.undrew⟩
              case rest =>
                obtain ⟨rfl, hC7, kS⟩ := hcut
                obtain ⟨we, rfl⟩ : ∃ z, z = wc := ⟨_, rfl⟩
                have KS := Hid.mk kS
                have C7 := Hid.mk hC7
                clear kS hC7 CS CE
                have A5 := Hid.mk (A4.out.other B4.out (fun i hi => (LA.out _ (mem_rbs.2 ⟨i, hi, rfl⟩)).1) KS.out)
                have Y15 := Hid.mk (Y14.out.keepb KS.out (fun z hz => (LB.out z hz).1))
                have X85 := Hid.mk (KS.out.heap X84.out (B4.out.nbx X84.out))
                have X95 := Hid.mk (KS.out.heap X94.out (B4.out.nbx X94.out))
                have X105 := Hid.mk (KS.out.heap X104.out (B4.out.nbx X104.out))
                have KO5 := Hid.mk (KO4.out.step KS.out (fun z hz => .inr (by have := (LB.out z hz).2; have := SV1.out; have := KO.out.size; omega)))
                have KOO5 := Hid.mk (KOO4.out.step KS.out (fun z hz => .inr (by have := (LB.out z hz).2; have := SV1.out; omega)))
                have SV5 : Hid (v2.heap.size ≤ we.heap.size) := Hid.mk (by have := KS.out.size; have := SV4.out; omega)
                have B5 := Hid.mk C7.out
                clear A4 B4 Y14 X84 X94 X104 KO4 KOO4 KS C7 SV4
                have CE : Hid (∀ u, Kept [] we u → (u.cell? ⟨gl, ol + k * 12, none⟩ = some (.int .i64 x.a.W) ∧ u.cell? ⟨gl, ol + k * 12 + 1, none⟩ = some (.int .i64 x.a.H) ∧ u.cell? ⟨gl, ol + k * 12 + 2, none⟩ = some (.int .i64 x.a.D) ∧ u.cell? ⟨gl, ol + k * 12 + 3, none⟩ = some (.bool x.a.A) ∧ u.cell? ⟨gl, ol + k * 12 + 4, none⟩ = some (.slice x.a.po x.a.n x.a.c)) ∧ (u.cell? ⟨gl, ol + k * 12 + 5, none⟩ = some (.int .i64 x.b.W) ∧ u.cell? ⟨gl, ol + k * 12 + 6, none⟩ = some (.int .i64 x.b.H) ∧ u.cell? ⟨gl, ol + k * 12 + 7, none⟩ = some (.int .i64 x.b.D) ∧ u.cell? ⟨gl, ol + k * 12 + 8, none⟩ = some (.bool x.b.A) ∧ u.cell? ⟨gl, ol + k * 12 + 9, none⟩ = some (.slice x.b.po x.b.n x.b.c)) ∧ u.cell? ⟨gl, ol + k * 12 + 10, none⟩ = some (.int .i64 x.p) ∧ u.cell? ⟨gl, ol + k * 12 + 11, none⟩ = some (.int .i64 x.o)) := Hid.mk (fun u hu => HX.out.1 u (KO5.out.trans hu))
                have CR : Hid (∀ u, Kept [] we u → Calls Tryd.prog 9 #[frv x.a.W x.a.H x.a.D x.a.A x.a.po x.a.n x.a.c, frv x.b.W x.b.H x.b.D x.b.A x.b.po x.b.n x.b.c, .int .i64 x.p, .int .i64 x.o] u fun e w' => MuP E x.a.W x.a.H x.a.D x.a.A x.a.n (mxF x.a.F x.b.F x.p.toNat x.o.toNat) u e w') := Hid.mk (fun u hu => by
                  have h := rmix_u x.a.W x.a.H x.a.D x.a.A x.a.po x.a.n x.a.c x.a.ln x.a.F x.b.W x.b.H x.b.D x.b.A x.b.po x.b.n x.b.c x.b.ln x.b.F x.p x.o u ((HX.out.2.1.keep (KO5.out.trans hu)).pn.pl) HX.out.2.1.n1 HX.out.2.1.l1 ((HX.out.2.2.1.keep (KO5.out.trans hu)).pn.pl) HX.out.2.2.1.n1 HX.out.2.2.1.l1 HX.out.2.1.f1 HX.out.2.2.1.f1
                  rw [eE] at h
                  exact h)
                go_upto_region 15 with (fail)
                go_simp
                go_cut [14, 15] (fun s10 s11 wc => ∃ (X : Nat) (y : Fm), s10 = .pointer (some ⟨X, 0, none⟩) ∧ s11 = .int .i64 E ∧ we.heap.size ≤ X ∧ wc.heap[X]? = some (.cells #[.int .i64 y.W, .int .i64 y.H, .int .i64 y.D, .bool y.A, y.V] 29 (0, 0)) ∧ Fmk we.heap.size wc y ∧ Rsx E x.a.W x.a.H x.a.D x.a.A x.a.n (mxF x.a.F x.b.F x.p.toNat x.o.toNat) y ∧ Kept [] we wc)
                case first =>
                  refine wp_region_held_drew (S := fun u => Kept [] we u) (by kernel_rfl) (Kept.refl [] we).drew (fun hH0 => ?_)
                  refine wpAnyH_take (i := 0) (oi := _) (v := ?_) rfl (by kernel_rfl) (by kernel_rfl) (by kernel_rfl) (fun _ _ _ h => h) (Or.inl ⟨by rfl, ?y0rd⟩) (by assumption) ?r0rd
                  case y0rd => (intro u hSw; have hSu : Kept [] we u := hSw; obtain ⟨⟨t0, t1, t2, t3, t4⟩, ⟨t5, t6, t7, t8, t9⟩, t10, t11⟩ := CE.out u hSu; go_simp; try with_reducible rfl)
                  refine wpAnyH_take (i := 1) (oi := _) (v := ?_) rfl (by kernel_rfl) (by kernel_rfl) (by kernel_rfl) (fun _ _ _ h => h) (Or.inl ⟨by rfl, ?y1rd⟩) (by assumption) ?r1rd
                  case y1rd => (intro u hSw; have hSu : Kept [] we u := hSw; obtain ⟨⟨t0, t1, t2, t3, t4⟩, ⟨t5, t6, t7, t8, t9⟩, t10, t11⟩ := CE.out u hSu; go_simp; try with_reducible rfl)
                  refine wpAnyH_take (i := 2) (oi := _) (v := ?_) rfl (by kernel_rfl) (by kernel_rfl) (by kernel_rfl) (fun _ _ _ h => h) (Or.inl ⟨by rfl, ?y2rd⟩) (by assumption) ?r2rd
                  case y2rd => (intro u hSw; have hSu : Kept [] we u := hSw; obtain ⟨⟨t0, t1, t2, t3, t4⟩, ⟨t5, t6, t7, t8, t9⟩, t10, t11⟩ := CE.out u hSu; go_simp; try with_reducible rfl)
                  refine wpAnyH_take (i := 3) (oi := _) (v := ?_) rfl (by kernel_rfl) (by kernel_rfl) (by kernel_rfl) (fun _ _ _ h => h) (Or.inl ⟨by rfl, ?y3rd⟩) (by assumption) ?r3rd
                  case y3rd => (intro u hSw; have hSu : Kept [] we u := hSw; obtain ⟨⟨t0, t1, t2, t3, t4⟩, ⟨t5, t6, t7, t8, t9⟩, t10, t11⟩ := CE.out u hSu; go_simp; try with_reducible rfl)
                  refine wpAnyH_take (i := 4) (oi := _) (v := ?_) rfl (by kernel_rfl) (by kernel_rfl) (by kernel_rfl) (fun _ _ _ h => h) (Or.inl ⟨by rfl, ?y4rd⟩) (by assumption) ?r4rd
                  case y4rd => (intro u hSw; have hSu : Kept [] we u := hSw; obtain ⟨⟨t0, t1, t2, t3, t4⟩, ⟨t5, t6, t7, t8, t9⟩, t10, t11⟩ := CE.out u hSu; go_simp; try with_reducible rfl)
                  refine wpAnyH_take (i := 5) (oi := _) (v := ?_) rfl (by kernel_rfl) (by kernel_rfl) (by kernel_rfl) (fun _ _ _ h => h) (Or.inl ⟨by rfl, ?y5rd⟩) (by assumption) ?r5rd
                  case y5rd => (intro u hSw; have hSu : Kept [] we u := hSw; obtain ⟨⟨t0, t1, t2, t3, t4⟩, ⟨t5, t6, t7, t8, t9⟩, t10, t11⟩ := CE.out u hSu; go_simp; try with_reducible rfl)
                  refine wpAnyH_take (i := 6) (oi := _) (v := ?_) rfl (by kernel_rfl) (by kernel_rfl) (by kernel_rfl) (fun _ _ _ h => h) (Or.inl ⟨by rfl, ?y6rd⟩) (by assumption) ?r6rd
                  case y6rd => (intro u hSw; have hSu : Kept [] we u := hSw; obtain ⟨⟨t0, t1, t2, t3, t4⟩, ⟨t5, t6, t7, t8, t9⟩, t10, t11⟩ := CE.out u hSu; go_simp; try with_reducible rfl)
                  refine wpAnyH_take (i := 7) (oi := _) (v := ?_) rfl (by kernel_rfl) (by kernel_rfl) (by kernel_rfl) (fun _ _ _ h => h) (Or.inl ⟨by rfl, ?y7rd⟩) (by assumption) ?r7rd
                  case y7rd => (intro u hSw; have hSu : Kept [] we u := hSw; obtain ⟨⟨t0, t1, t2, t3, t4⟩, ⟨t5, t6, t7, t8, t9⟩, t10, t11⟩ := CE.out u hSu; go_simp; try with_reducible rfl)
                  refine wpAnyH_take (i := 8) (oi := _) (v := ?_) rfl (by kernel_rfl) (by kernel_rfl) (by kernel_rfl) (fun _ _ _ h => h) (Or.inl ⟨by rfl, ?y8rd⟩) (by assumption) ?r8rd
                  case y8rd => (intro u hSw; have hSu : Kept [] we u := hSw; obtain ⟨⟨t0, t1, t2, t3, t4⟩, ⟨t5, t6, t7, t8, t9⟩, t10, t11⟩ := CE.out u hSu; go_simp; try with_reducible rfl)
                  refine wpAnyH_take (i := 9) (oi := _) (v := ?_) rfl (by kernel_rfl) (by kernel_rfl) (by kernel_rfl) (fun _ _ _ h => h) (Or.inl ⟨by rfl, ?y9rd⟩) (by assumption) ?r9rd
                  case y9rd => (intro u hSw; have hSu : Kept [] we u := hSw; obtain ⟨⟨t0, t1, t2, t3, t4⟩, ⟨t5, t6, t7, t8, t9⟩, t10, t11⟩ := CE.out u hSu; go_simp; try with_reducible rfl)
                  refine wpAnyH_take (i := 10) (oi := _) (v := ?_) rfl (by kernel_rfl) (by kernel_rfl) (by kernel_rfl) (fun _ _ _ h => h) (Or.inl ⟨by rfl, ?y10rd⟩) (by assumption) ?r10rd
                  case y10rd => (intro u hSw; have hSu : Kept [] we u := hSw; obtain ⟨⟨t0, t1, t2, t3, t4⟩, ⟨t5, t6, t7, t8, t9⟩, t10, t11⟩ := CE.out u hSu; go_simp; try with_reducible rfl)
                  refine wpAnyH_take (i := 11) (oi := _) (v := ?_) rfl (by kernel_rfl) (by kernel_rfl) (by kernel_rfl) (fun _ _ _ h => h) (Or.inl ⟨by rfl, ?y11rd⟩) (by assumption) ?r11rd
                  case y11rd => (intro u hSw; have hSu : Kept [] we u := hSw; obtain ⟨⟨t0, t1, t2, t3, t4⟩, ⟨t5, t6, t7, t8, t9⟩, t10, t11⟩ := CE.out u hSu; go_simp; try with_reducible rfl)
                  refine wpAnyH_take (i := 12) (oi := _) (v := ?_) rfl (by kernel_rfl) (by kernel_rfl) (by kernel_rfl) (fun _ _ _ h => h) (Or.inl ⟨by rfl, ?y12rd⟩) (by assumption) ?r12rd
                  case y12rd => (intro u hSw; have hSu : Kept [] we u := hSw; obtain ⟨⟨t0, t1, t2, t3, t4⟩, ⟨t5, t6, t7, t8, t9⟩, t10, t11⟩ := CE.out u hSu; go_simp; try with_reducible rfl)
                  refine wpAnyH_take (i := 13) (oi := _) (v := ?_) rfl (by kernel_rfl) (by kernel_rfl) (by kernel_rfl) (fun _ _ _ h => h) (Or.inl ⟨by rfl, ?y13rd⟩) (by assumption) ?r13rd
                  case y13rd => (intro u hSw; have hSu : Kept [] we u := hSw; obtain ⟨⟨t0, t1, t2, t3, t4⟩, ⟨t5, t6, t7, t8, t9⟩, t10, t11⟩ := CE.out u hSu; go_simp; try with_reducible rfl)
                  refine wpAnyH_take (i := 14) (oi := _) (v := ?_) rfl (by kernel_rfl) (by kernel_rfl) (by kernel_rfl) (fun _ _ _ h => h) (Or.inl ⟨by rfl, ?y14rd⟩) (by assumption) ?r14rd
                  case y14rd => (intro u hSw; have hSu : Kept [] we u := hSw; obtain ⟨⟨t0, t1, t2, t3, t4⟩, ⟨t5, t6, t7, t8, t9⟩, t10, t11⟩ := CE.out u hSu; go_simp; try with_reducible rfl)
                  refine wpAnyH_take (i := 15) (oi := _) (v := ?_) rfl (by kernel_rfl) (by kernel_rfl) (by kernel_rfl) (fun _ _ _ h => h) (Or.inl ⟨by rfl, ?y15rd⟩) (by assumption) ?r15rd
                  case y15rd => (intro u hSw; have hSu : Kept [] we u := hSw; obtain ⟨⟨t0, t1, t2, t3, t4⟩, ⟨t5, t6, t7, t8, t9⟩, t10, t11⟩ := CE.out u hSu; go_simp; try with_reducible rfl)
                  refine wpAnyH_take (i := 16) (oi := _) (v := ?_) rfl (by kernel_rfl) (by kernel_rfl) (by kernel_rfl) (fun _ _ _ h => h) (Or.inl ⟨by rfl, ?y16rd⟩) (by assumption) ?r16rd
                  case y16rd => (intro u hSw; have hSu : Kept [] we u := hSw; obtain ⟨⟨t0, t1, t2, t3, t4⟩, ⟨t5, t6, t7, t8, t9⟩, t10, t11⟩ := CE.out u hSu; go_simp; try with_reducible rfl)
                  refine wpAnyH_take (i := 17) (oi := _) (v := ?_) rfl (by kernel_rfl) (by kernel_rfl) (by kernel_rfl) (fun _ _ _ h => h) (Or.inl ⟨by rfl, ?y17rd⟩) (by assumption) ?r17rd
                  case y17rd => (intro u hSw; have hSu : Kept [] we u := hSw; obtain ⟨⟨t0, t1, t2, t3, t4⟩, ⟨t5, t6, t7, t8, t9⟩, t10, t11⟩ := CE.out u hSu; go_simp; try with_reducible rfl)
                  refine wpAnyH_take (i := 18) (oi := _) (v := ?_) rfl (by kernel_rfl) (by kernel_rfl) (by kernel_rfl) (fun _ _ _ h => h) (Or.inl ⟨by rfl, ?y18rd⟩) (by assumption) ?r18rd
                  case y18rd => (intro u hSw; have hSu : Kept [] we u := hSw; obtain ⟨⟨t0, t1, t2, t3, t4⟩, ⟨t5, t6, t7, t8, t9⟩, t10, t11⟩ := CE.out u hSu; go_simp; try with_reducible rfl)
                  refine wpAnyH_take (i := 19) (oi := _) (v := ?_) rfl (by kernel_rfl) (by kernel_rfl) (by kernel_rfl) (fun _ _ _ h => h) (Or.inl ⟨by rfl, ?y19rd⟩) (by assumption) ?r19rd
                  case y19rd => (intro u hSw; have hSu : Kept [] we u := hSw; obtain ⟨⟨t0, t1, t2, t3, t4⟩, ⟨t5, t6, t7, t8, t9⟩, t10, t11⟩ := CE.out u hSu; go_simp; try with_reducible rfl)
                  have kk0 := (Kept.refl [] we).drew
                  clear hH0
                  as_aux_lemma =>
                    refine wpAnyH_ready (rs := [20, 24]) (by kernel_rfl) (by simp) ?_
                    refine AllReadyH.cons rfl (fun K hK => ?_) (AllReadyH.cons rfl (fun K hK => ?_) AllReadyH.nil)
                    · go_simp
                      go_at_call 9
                      refine (CR.out we.drew kk0).mono ?_
                      rintro e uu1 ⟨y, rfl, hy0, hRs, ku1⟩
                      have kk1 := kk0.trans ku1
                      obtain ⟨yW, yH, yD, yA, yV, yn, ybs, yln, yF⟩ := y
                      obtain ⟨yp, yc, eV, -⟩ := Gx.pl hy0
                      obtain rfl : yV = .slice yp yn yc := eV
                      have hy := hy0.base kk0.size
                      clear hy0
                      refine hK.out _ _ kk1 (fun hH1 => ?_)
                      clear hK K hH1
                      refine wpAnyH_take (i := 21) (oi := _) (v := ?_) rfl (by kernel_rfl) (by kernel_rfl) (by kernel_rfl) (fun _ _ _ h => h) (Or.inl ⟨by rfl, ?y21rdc1⟩) (by assumption) ?r21rdc1
                      case y21rdc1 => (intro u hSw; have hSu : Kept [] we u := hSw; obtain ⟨⟨t0, t1, t2, t3, t4⟩, ⟨t5, t6, t7, t8, t9⟩, t10, t11⟩ := CE.out u hSu; go_simp; try with_reducible rfl)
                      refine wpAnyH_take (i := 22) (oi := _) (v := ?_) rfl (by kernel_rfl) (by kernel_rfl) (by kernel_rfl) (fun _ _ _ h => h) (Or.inl ⟨by rfl, ?y22rdc1⟩) (by assumption) ?r22rdc1
                      case y22rdc1 => (intro u hSw; have hSu : Kept [] we u := hSw; obtain ⟨⟨t0, t1, t2, t3, t4⟩, ⟨t5, t6, t7, t8, t9⟩, t10, t11⟩ := CE.out u hSu; go_simp; try with_reducible rfl)
                      refine wpAnyH_take (i := 23) (oi := _) (v := ?_) rfl (by kernel_rfl) (by kernel_rfl) (by kernel_rfl) (fun _ _ _ h => h) (Or.inl ⟨by rfl, ?y23rdc1⟩) (by assumption) ?r23rdc1
                      case y23rdc1 => (intro u hSw; have hSu : Kept [] we u := hSw; obtain ⟨⟨t0, t1, t2, t3, t4⟩, ⟨t5, t6, t7, t8, t9⟩, t10, t11⟩ := CE.out u hSu; go_simp; try with_reducible rfl)
                      refine wpAnyH_ready (rs := [24]) (by kernel_rfl) (by simp) ?_
                      refine AllReadyH.cons rfl (fun K hK => ?_) AllReadyH.nil
                      go_simp
                      obtain ⟨wA2, eA2⟩ : ∃ wA, uu1.alloc (.cells #[.int .i64 0, .int .i64 0, .int .i64 0, .bool false, .slice none 0 0] 29 (0, 0)) = wA := ⟨_, rfl⟩
                      have kA2 : Kept [] we wA2 := by rw [← eA2]; exact kk1.alloc _
                      have bX2 : wA2.heap[uu1.heap.size]? = some (.cells #[.int .i64 0, .int .i64 0, .int .i64 0, .bool false, .slice none 0 0] 29 (0, 0)) := by rw [← eA2]; exact heap_alloc_new uu1 _
                      have lX2 : we.heap.size ≤ uu1.heap.size := kk1.size
                      have hy := hy.keep (show Kept [] uu1 wA2 by rw [← eA2]; exact alloc_kept _ _)
                      refine hK.out _ _ (kk1.alloc _) (fun hH1 => ?_)
                      clear hK K hH1
                      try rw [eA2]
                      obtain ⟨⟨z0, z1, z2, z3, z4⟩, f0, f1, f2, f3, f4⟩ := five bX2
                      have FB := fin_box bX2 (base := we) (y := ⟨yW, yH, yD, yA, .slice yp yn yc, yn, ybs, yln, yF⟩) lX2 kA2 hy
                      dsimp only at FB
                      refine wpAnyH_ready (rs := [25]) (by kernel_rfl) (by simp) ?_
                      refine AllReadyH.cons rfl (fun K hK => ?_) AllReadyH.nil
                      go_simp
                      refine hK.out _ _ FB.2.2 (fun hH1 => ?_)
                      clear hK K z0 z1 z2 z3 z4 f0 f1 f2 f3 f4
                      refine wpAnyH_take (i := 26) (oi := _) (v := ?_) rfl (by kernel_rfl) (by kernel_rfl) (by kernel_rfl) (fun _ _ _ h => h) (Or.inl ⟨by rfl, ?y26rdcaz⟩) (by assumption) ?r26rdcaz
                      case y26rdcaz => (intro u hSw; have hSu : Kept [] we u := hSw; obtain ⟨⟨t0, t1, t2, t3, t4⟩, ⟨t5, t6, t7, t8, t9⟩, t10, t11⟩ := CE.out u hSu; go_simp; try with_reducible rfl)
                      refine wpAnyH_done (by kernel_rfl) ?_ _
                      go_wp2
                      go_meet
                      exact ⟨_, ⟨yW, yH, yD, yA, .slice yp yn yc, yn, ybs, yln, yF⟩, rfl, rfl, lX2, FB.1, FB.2.1, hRs, FB.2.2⟩
                    · go_simp
                      obtain ⟨wA3, eA3⟩ : ∃ wA, (we.alloc (.cells #[.int .i64 0, .int .i64 0, .int .i64 0, .bool false, .slice none 0 0] 29 (0, 0))).drew = wA := ⟨_, rfl⟩
                      have kA3 : Kept [] we wA3 := by rw [← eA3]; exact ((Kept.refl [] we).alloc _).drew
                      have bX3 : wA3.heap[we.heap.size]? = some (.cells #[.int .i64 0, .int .i64 0, .int .i64 0, .bool false, .slice none 0 0] 29 (0, 0)) := by rw [← eA3]; exact heap_alloc_new we _
                      have lX3 : we.heap.size ≤ we.drew.heap.size := kk0.size
                      refine hK.out _ _ (((Kept.refl [] we).alloc _).drew) (fun hH1 => ?_)
                      clear hK K hH1
                      try rw [eA3]
                      refine wpAnyH_ready (rs := [20]) (by kernel_rfl) (by simp) ?_
                      refine AllReadyH.cons rfl (fun K hK => ?_) AllReadyH.nil
                      go_simp
                      go_at_call 9
                      refine (CR.out wA3 kA3).mono ?_
                      rintro e uu4 ⟨y, rfl, hy0, hRs, ku4⟩
                      have kk4 := kA3.trans ku4
                      have bX4 := ku4.heap bX3 (by simp)
                      obtain ⟨yW, yH, yD, yA, yV, yn, ybs, yln, yF⟩ := y
                      obtain ⟨yp, yc, eV, -⟩ := Gx.pl hy0
                      obtain rfl : yV = .slice yp yn yc := eV
                      have hy := hy0.base kA3.size
                      clear hy0
                      refine hK.out _ _ kk4 (fun hH1 => ?_)
                      clear hK K hH1
                      refine wpAnyH_take (i := 21) (oi := _) (v := ?_) rfl (by kernel_rfl) (by kernel_rfl) (by kernel_rfl) (fun _ _ _ h => h) (Or.inl ⟨by rfl, ?y21rdac4⟩) (by assumption) ?r21rdac4
                      case y21rdac4 => (intro u hSw; have hSu : Kept [] we u := hSw; obtain ⟨⟨t0, t1, t2, t3, t4⟩, ⟨t5, t6, t7, t8, t9⟩, t10, t11⟩ := CE.out u hSu; go_simp; try with_reducible rfl)
                      refine wpAnyH_take (i := 22) (oi := _) (v := ?_) rfl (by kernel_rfl) (by kernel_rfl) (by kernel_rfl) (fun _ _ _ h => h) (Or.inl ⟨by rfl, ?y22rdac4⟩) (by assumption) ?r22rdac4
                      case y22rdac4 => (intro u hSw; have hSu : Kept [] we u := hSw; obtain ⟨⟨t0, t1, t2, t3, t4⟩, ⟨t5, t6, t7, t8, t9⟩, t10, t11⟩ := CE.out u hSu; go_simp; try with_reducible rfl)
                      refine wpAnyH_take (i := 23) (oi := _) (v := ?_) rfl (by kernel_rfl) (by kernel_rfl) (by kernel_rfl) (fun _ _ _ h => h) (Or.inl ⟨by rfl, ?y23rdac4⟩) (by assumption) ?r23rdac4
                      case y23rdac4 => (intro u hSw; have hSu : Kept [] we u := hSw; obtain ⟨⟨t0, t1, t2, t3, t4⟩, ⟨t5, t6, t7, t8, t9⟩, t10, t11⟩ := CE.out u hSu; go_simp; try with_reducible rfl)
                      obtain ⟨⟨z0, z1, z2, z3, z4⟩, f0, f1, f2, f3, f4⟩ := five bX4
                      have FB := fin_box bX4 (base := we) (y := ⟨yW, yH, yD, yA, .slice yp yn yc, yn, ybs, yln, yF⟩) lX3 kk4 hy
                      dsimp only at FB
                      refine wpAnyH_ready (rs := [25]) (by kernel_rfl) (by simp) ?_
                      refine AllReadyH.cons rfl (fun K hK => ?_) AllReadyH.nil
                      go_simp
                      refine hK.out _ _ FB.2.2 (fun hH1 => ?_)
                      clear hK K z0 z1 z2 z3 z4 f0 f1 f2 f3 f4
                      refine wpAnyH_take (i := 26) (oi := _) (v := ?_) rfl (by kernel_rfl) (by kernel_rfl) (by kernel_rfl) (fun _ _ _ h => h) (Or.inl ⟨by rfl, ?y26rdacz⟩) (by assumption) ?r26rdacz
                      case y26rdacz => (intro u hSw; have hSu : Kept [] we u := hSw; obtain ⟨⟨t0, t1, t2, t3, t4⟩, ⟨t5, t6, t7, t8, t9⟩, t10, t11⟩ := CE.out u hSu; go_simp; try with_reducible rfl)
                      refine wpAnyH_done (by kernel_rfl) ?_ _
                      go_wp2
                      go_meet
                      exact ⟨_, ⟨yW, yH, yD, yA, .slice yp yn yc, yn, ybs, yln, yF⟩, rfl, rfl, lX3, FB.1, FB.2.1, hRs, FB.2.2⟩
                case rest =>
                  obtain ⟨X14, y2, rfl, rfl, hl14, hb14, hy2, hR2, kc⟩ := hcut
                  have Y2 := Hid.mk hy2
                  have R2 := Hid.mk hR2
                  have B14 := Hid.mk hb14
                  have A6 := Hid.mk (A5.out.keep kc (by simp))
                  have B6 := Hid.mk (B5.out.keep kc (by simp))
                  have Y16 := Hid.mk (Y15.out.keep kc)
                  have X86 := Hid.mk (kc.heap X85.out (by simp))
                  have X96 := Hid.mk (kc.heap X95.out (by simp))
                  have X106 := Hid.mk (kc.heap X105.out (by simp))
                  have KO6 := Hid.mk (KO5.out.trans kc)
                  have KOO6 := Hid.mk (KOO5.out.trans kc)
                  have SV6 : Hid (we.heap.size ≤ wc.heap.size) := Hid.mk kc.size
                  clear hy2 hR2 hb14 kc CE CR A5 B5 Y15 X85 X95 X105 KO5 KOO5
                  obtain ⟨wf, rfl⟩ : ∃ wf, wf = wc := ⟨_, rfl⟩
                  have hEE : (E != E) = false := by simp
                  obtain ⟨E7, eE7⟩ : ∃ E7, mixE x.a.W x.a.H x.a.D x.a.A x.a.n x.a.ln (fun _ _ => 7) x.b.W x.b.H x.b.D x.b.A x.b.n x.b.ln (fun _ _ => 7) x.p x.o = E7 := ⟨_, rfl⟩
                  have CM : Hid (∀ u, Kept [] wf u → Calls Tryd.prog 7 #[frv x.a.W x.a.H x.a.D x.a.A goA x.a.n gcA, frv x.b.W x.b.H x.b.D x.b.A goB x.b.n gcB, .int .i64 x.p, .int .i64 x.o] u fun e w' => MuP E7 x.a.W x.a.H x.a.D x.a.A x.a.n (mxF (fun _ _ => 7) (fun _ _ => 7) x.p.toNat x.o.toNat) u e w') := Hid.mk (fun u hu => by
                    have h := mix_u x.a.W x.a.H x.a.D x.a.A goA x.a.n gcA x.a.ln (fun _ _ => 7) x.b.W x.b.H x.b.D x.b.A goB x.b.n gcB x.b.ln (fun _ _ => 7) x.p x.o u ((A6.out.keep hu (by simp)).pl) HX.out.2.1.n1 HX.out.2.1.l1 ((B6.out.keep hu (by simp)).pl) HX.out.2.2.1.n1 HX.out.2.2.1.l1
                    rw [eE7] at h
                    exact h)
                  have CE : Hid (∀ u, Kept [] wf u → (u.cell? ⟨X8, 0, none⟩ = some (.int .i64 x.a.W) ∧ u.cell? ⟨X8, 1, none⟩ = some (.int .i64 x.a.H) ∧ u.cell? ⟨X8, 2, none⟩ = some (.int .i64 x.a.D) ∧ u.cell? ⟨X8, 3, none⟩ = some (.bool x.a.A) ∧ u.cell? ⟨X8, 4, none⟩ = some (.slice goA x.a.n gcA)) ∧ (u.cell? ⟨X9, 0, none⟩ = some (.int .i64 x.b.W) ∧ u.cell? ⟨X9, 1, none⟩ = some (.int .i64 x.b.H) ∧ u.cell? ⟨X9, 2, none⟩ = some (.int .i64 x.b.D) ∧ u.cell? ⟨X9, 3, none⟩ = some (.bool x.b.A) ∧ u.cell? ⟨X9, 4, none⟩ = some (.slice goB x.b.n gcB)) ∧ u.cell? ⟨gl, ol + k * 12 + 10, none⟩ = some (.int .i64 x.p) ∧ u.cell? ⟨gl, ol + k * 12 + 11, none⟩ = some (.int .i64 x.o)) := Hid.mk (fun u hu => ⟨(five (hu.heap X86.out (by simp))).1, (five (hu.heap X96.out (by simp))).1, (HX.out.1 u (KO6.out.trans hu)).2.2⟩)
                  go_upto_region 18 with (fail)
                  go_cut [16, 17] (fun s10 s11 wc => ∃ (X : Nat) (y : Fm), s10 = .pointer (some ⟨X, 0, none⟩) ∧ s11 = .int .i64 E7 ∧ wf.heap.size ≤ X ∧ wc.heap[X]? = some (.cells #[.int .i64 y.W, .int .i64 y.H, .int .i64 y.D, .bool y.A, y.V] 29 (0, 0)) ∧ Fmk wf.heap.size wc y ∧ Rsx E7 x.a.W x.a.H x.a.D x.a.A x.a.n (mxF (fun _ _ => 7) (fun _ _ => 7) x.p.toNat x.o.toNat) y ∧ Kept [] wf wc)
                  case first =>
                    refine wp_region_held_drew (S := fun u => Kept [] wf u) (by kernel_rfl) (Kept.refl [] wf).drew (fun hH0 => ?_)
                    refine wpAnyH_take (i := 0) (oi := _) (v := ?_) rfl (by kernel_rfl) (by kernel_rfl) (by kernel_rfl) (fun _ _ _ h => h) (Or.inl ⟨by rfl, ?y0re⟩) (by assumption) ?r0re
                    case y0re => (intro u hSw; have hSu : Kept [] wf u := hSw; obtain ⟨⟨t0, t1, t2, t3, t4⟩, ⟨t5, t6, t7, t8, t9⟩, t10, t11⟩ := CE.out u hSu; go_simp; try with_reducible rfl)
                    refine wpAnyH_take (i := 1) (oi := _) (v := ?_) rfl (by kernel_rfl) (by kernel_rfl) (by kernel_rfl) (fun _ _ _ h => h) (Or.inl ⟨by rfl, ?y1re⟩) (by assumption) ?r1re
                    case y1re => (intro u hSw; have hSu : Kept [] wf u := hSw; obtain ⟨⟨t0, t1, t2, t3, t4⟩, ⟨t5, t6, t7, t8, t9⟩, t10, t11⟩ := CE.out u hSu; go_simp; try with_reducible rfl)
                    refine wpAnyH_take (i := 2) (oi := _) (v := ?_) rfl (by kernel_rfl) (by kernel_rfl) (by kernel_rfl) (fun _ _ _ h => h) (Or.inl ⟨by rfl, ?y2re⟩) (by assumption) ?r2re
                    case y2re => (intro u hSw; have hSu : Kept [] wf u := hSw; obtain ⟨⟨t0, t1, t2, t3, t4⟩, ⟨t5, t6, t7, t8, t9⟩, t10, t11⟩ := CE.out u hSu; go_simp; try with_reducible rfl)
                    refine wpAnyH_take (i := 3) (oi := _) (v := ?_) rfl (by kernel_rfl) (by kernel_rfl) (by kernel_rfl) (fun _ _ _ h => h) (Or.inl ⟨by rfl, ?y3re⟩) (by assumption) ?r3re
                    case y3re => (intro u hSw; have hSu : Kept [] wf u := hSw; obtain ⟨⟨t0, t1, t2, t3, t4⟩, ⟨t5, t6, t7, t8, t9⟩, t10, t11⟩ := CE.out u hSu; go_simp; try with_reducible rfl)
                    refine wpAnyH_take (i := 4) (oi := _) (v := ?_) rfl (by kernel_rfl) (by kernel_rfl) (by kernel_rfl) (fun _ _ _ h => h) (Or.inl ⟨by rfl, ?y4re⟩) (by assumption) ?r4re
                    case y4re => (intro u hSw; have hSu : Kept [] wf u := hSw; obtain ⟨⟨t0, t1, t2, t3, t4⟩, ⟨t5, t6, t7, t8, t9⟩, t10, t11⟩ := CE.out u hSu; go_simp; try with_reducible rfl)
                    refine wpAnyH_take (i := 5) (oi := _) (v := ?_) rfl (by kernel_rfl) (by kernel_rfl) (by kernel_rfl) (fun _ _ _ h => h) (Or.inl ⟨by rfl, ?y5re⟩) (by assumption) ?r5re
                    case y5re => (intro u hSw; have hSu : Kept [] wf u := hSw; obtain ⟨⟨t0, t1, t2, t3, t4⟩, ⟨t5, t6, t7, t8, t9⟩, t10, t11⟩ := CE.out u hSu; go_simp; try with_reducible rfl)
                    refine wpAnyH_take (i := 6) (oi := _) (v := ?_) rfl (by kernel_rfl) (by kernel_rfl) (by kernel_rfl) (fun _ _ _ h => h) (Or.inl ⟨by rfl, ?y6re⟩) (by assumption) ?r6re
                    case y6re => (intro u hSw; have hSu : Kept [] wf u := hSw; obtain ⟨⟨t0, t1, t2, t3, t4⟩, ⟨t5, t6, t7, t8, t9⟩, t10, t11⟩ := CE.out u hSu; go_simp; try with_reducible rfl)
                    refine wpAnyH_take (i := 7) (oi := _) (v := ?_) rfl (by kernel_rfl) (by kernel_rfl) (by kernel_rfl) (fun _ _ _ h => h) (Or.inl ⟨by rfl, ?y7re⟩) (by assumption) ?r7re
                    case y7re => (intro u hSw; have hSu : Kept [] wf u := hSw; obtain ⟨⟨t0, t1, t2, t3, t4⟩, ⟨t5, t6, t7, t8, t9⟩, t10, t11⟩ := CE.out u hSu; go_simp; try with_reducible rfl)
                    refine wpAnyH_take (i := 8) (oi := _) (v := ?_) rfl (by kernel_rfl) (by kernel_rfl) (by kernel_rfl) (fun _ _ _ h => h) (Or.inl ⟨by rfl, ?y8re⟩) (by assumption) ?r8re
                    case y8re => (intro u hSw; have hSu : Kept [] wf u := hSw; obtain ⟨⟨t0, t1, t2, t3, t4⟩, ⟨t5, t6, t7, t8, t9⟩, t10, t11⟩ := CE.out u hSu; go_simp; try with_reducible rfl)
                    refine wpAnyH_take (i := 9) (oi := _) (v := ?_) rfl (by kernel_rfl) (by kernel_rfl) (by kernel_rfl) (fun _ _ _ h => h) (Or.inl ⟨by rfl, ?y9re⟩) (by assumption) ?r9re
                    case y9re => (intro u hSw; have hSu : Kept [] wf u := hSw; obtain ⟨⟨t0, t1, t2, t3, t4⟩, ⟨t5, t6, t7, t8, t9⟩, t10, t11⟩ := CE.out u hSu; go_simp; try with_reducible rfl)
                    refine wpAnyH_take (i := 10) (oi := _) (v := ?_) rfl (by kernel_rfl) (by kernel_rfl) (by kernel_rfl) (fun _ _ _ h => h) (Or.inl ⟨by rfl, ?y10re⟩) (by assumption) ?r10re
                    case y10re => (intro u hSw; have hSu : Kept [] wf u := hSw; obtain ⟨⟨t0, t1, t2, t3, t4⟩, ⟨t5, t6, t7, t8, t9⟩, t10, t11⟩ := CE.out u hSu; go_simp; try with_reducible rfl)
                    refine wpAnyH_take (i := 11) (oi := _) (v := ?_) rfl (by kernel_rfl) (by kernel_rfl) (by kernel_rfl) (fun _ _ _ h => h) (Or.inl ⟨by rfl, ?y11re⟩) (by assumption) ?r11re
                    case y11re => (intro u hSw; have hSu : Kept [] wf u := hSw; obtain ⟨⟨t0, t1, t2, t3, t4⟩, ⟨t5, t6, t7, t8, t9⟩, t10, t11⟩ := CE.out u hSu; go_simp; try with_reducible rfl)
                    have kk0 := (Kept.refl [] wf).drew
                    clear hH0
                    as_aux_lemma =>
                      refine wpAnyH_ready (rs := [12, 16]) (by kernel_rfl) (by simp) ?_
                      refine AllReadyH.cons rfl (fun K hK => ?_) (AllReadyH.cons rfl (fun K hK => ?_) AllReadyH.nil)
                      · go_simp
                        go_at_call 7
                        refine (CM.out wf.drew kk0).mono ?_
                        rintro e uu1 ⟨y, rfl, hy0, hRs, ku1⟩
                        have kk1 := kk0.trans ku1
                        obtain ⟨yW, yH, yD, yA, yV, yn, ybs, yln, yF⟩ := y
                        obtain ⟨yp, yc, eV, -⟩ := Gx.pl hy0
                        obtain rfl : yV = .slice yp yn yc := eV
                        have hy := hy0.base kk0.size
                        clear hy0
                        refine hK.out _ _ kk1 (fun hH1 => ?_)
                        clear hK K hH1
                        refine wpAnyH_take (i := 13) (oi := _) (v := ?_) rfl (by kernel_rfl) (by kernel_rfl) (by kernel_rfl) (fun _ _ _ h => h) (Or.inl ⟨by rfl, ?y13rec1⟩) (by assumption) ?r13rec1
                        case y13rec1 => (intro u hSw; have hSu : Kept [] wf u := hSw; obtain ⟨⟨t0, t1, t2, t3, t4⟩, ⟨t5, t6, t7, t8, t9⟩, t10, t11⟩ := CE.out u hSu; go_simp; try with_reducible rfl)
                        refine wpAnyH_take (i := 14) (oi := _) (v := ?_) rfl (by kernel_rfl) (by kernel_rfl) (by kernel_rfl) (fun _ _ _ h => h) (Or.inl ⟨by rfl, ?y14rec1⟩) (by assumption) ?r14rec1
                        case y14rec1 => (intro u hSw; have hSu : Kept [] wf u := hSw; obtain ⟨⟨t0, t1, t2, t3, t4⟩, ⟨t5, t6, t7, t8, t9⟩, t10, t11⟩ := CE.out u hSu; go_simp; try with_reducible rfl)
                        refine wpAnyH_take (i := 15) (oi := _) (v := ?_) rfl (by kernel_rfl) (by kernel_rfl) (by kernel_rfl) (fun _ _ _ h => h) (Or.inl ⟨by rfl, ?y15rec1⟩) (by assumption) ?r15rec1
                        case y15rec1 => (intro u hSw; have hSu : Kept [] wf u := hSw; obtain ⟨⟨t0, t1, t2, t3, t4⟩, ⟨t5, t6, t7, t8, t9⟩, t10, t11⟩ := CE.out u hSu; go_simp; try with_reducible rfl)
                        refine wpAnyH_ready (rs := [16]) (by kernel_rfl) (by simp) ?_
                        refine AllReadyH.cons rfl (fun K hK => ?_) AllReadyH.nil
                        go_simp
                        obtain ⟨wA2, eA2⟩ : ∃ wA, uu1.alloc (.cells #[.int .i64 0, .int .i64 0, .int .i64 0, .bool false, .slice none 0 0] 29 (0, 0)) = wA := ⟨_, rfl⟩
                        have kA2 : Kept [] wf wA2 := by rw [← eA2]; exact kk1.alloc _
                        have bX2 : wA2.heap[uu1.heap.size]? = some (.cells #[.int .i64 0, .int .i64 0, .int .i64 0, .bool false, .slice none 0 0] 29 (0, 0)) := by rw [← eA2]; exact heap_alloc_new uu1 _
                        have lX2 : wf.heap.size ≤ uu1.heap.size := kk1.size
                        have hy := hy.keep (show Kept [] uu1 wA2 by rw [← eA2]; exact alloc_kept _ _)
                        refine hK.out _ _ (kk1.alloc _) (fun hH1 => ?_)
                        clear hK K hH1
                        try rw [eA2]
                        obtain ⟨⟨z0, z1, z2, z3, z4⟩, f0, f1, f2, f3, f4⟩ := five bX2
                        have FB := fin_box bX2 (base := wf) (y := ⟨yW, yH, yD, yA, .slice yp yn yc, yn, ybs, yln, yF⟩) lX2 kA2 hy
                        dsimp only at FB
                        refine wpAnyH_ready (rs := [17]) (by kernel_rfl) (by simp) ?_
                        refine AllReadyH.cons rfl (fun K hK => ?_) AllReadyH.nil
                        go_simp
                        refine hK.out _ _ FB.2.2 (fun hH1 => ?_)
                        clear hK K z0 z1 z2 z3 z4 f0 f1 f2 f3 f4
                        refine wpAnyH_take (i := 18) (oi := _) (v := ?_) rfl (by kernel_rfl) (by kernel_rfl) (by kernel_rfl) (fun _ _ _ h => h) (Or.inl ⟨by rfl, ?y18recaz⟩) (by assumption) ?r18recaz
                        case y18recaz => (intro u hSw; have hSu : Kept [] wf u := hSw; obtain ⟨⟨t0, t1, t2, t3, t4⟩, ⟨t5, t6, t7, t8, t9⟩, t10, t11⟩ := CE.out u hSu; go_simp; try with_reducible rfl)
                        refine wpAnyH_done (by kernel_rfl) ?_ _
                        go_wp2
                        go_meet
                        exact ⟨_, ⟨yW, yH, yD, yA, .slice yp yn yc, yn, ybs, yln, yF⟩, rfl, rfl, lX2, FB.1, FB.2.1, hRs, FB.2.2⟩
                      · go_simp
                        obtain ⟨wA3, eA3⟩ : ∃ wA, (wf.alloc (.cells #[.int .i64 0, .int .i64 0, .int .i64 0, .bool false, .slice none 0 0] 29 (0, 0))).drew = wA := ⟨_, rfl⟩
                        have kA3 : Kept [] wf wA3 := by rw [← eA3]; exact ((Kept.refl [] wf).alloc _).drew
                        have bX3 : wA3.heap[wf.heap.size]? = some (.cells #[.int .i64 0, .int .i64 0, .int .i64 0, .bool false, .slice none 0 0] 29 (0, 0)) := by rw [← eA3]; exact heap_alloc_new wf _
                        have lX3 : wf.heap.size ≤ wf.drew.heap.size := kk0.size
                        refine hK.out _ _ (((Kept.refl [] wf).alloc _).drew) (fun hH1 => ?_)
                        clear hK K hH1
                        try rw [eA3]
                        refine wpAnyH_ready (rs := [12]) (by kernel_rfl) (by simp) ?_
                        refine AllReadyH.cons rfl (fun K hK => ?_) AllReadyH.nil
                        go_simp
                        go_at_call 7
                        refine (CM.out wA3 kA3).mono ?_
                        rintro e uu4 ⟨y, rfl, hy0, hRs, ku4⟩
                        have kk4 := kA3.trans ku4
                        have bX4 := ku4.heap bX3 (by simp)
                        obtain ⟨yW, yH, yD, yA, yV, yn, ybs, yln, yF⟩ := y
                        obtain ⟨yp, yc, eV, -⟩ := Gx.pl hy0
                        obtain rfl : yV = .slice yp yn yc := eV
                        have hy := hy0.base kA3.size
                        clear hy0
                        refine hK.out _ _ kk4 (fun hH1 => ?_)
                        clear hK K hH1
                        refine wpAnyH_take (i := 13) (oi := _) (v := ?_) rfl (by kernel_rfl) (by kernel_rfl) (by kernel_rfl) (fun _ _ _ h => h) (Or.inl ⟨by rfl, ?y13reac4⟩) (by assumption) ?r13reac4
                        case y13reac4 => (intro u hSw; have hSu : Kept [] wf u := hSw; obtain ⟨⟨t0, t1, t2, t3, t4⟩, ⟨t5, t6, t7, t8, t9⟩, t10, t11⟩ := CE.out u hSu; go_simp; try with_reducible rfl)
                        refine wpAnyH_take (i := 14) (oi := _) (v := ?_) rfl (by kernel_rfl) (by kernel_rfl) (by kernel_rfl) (fun _ _ _ h => h) (Or.inl ⟨by rfl, ?y14reac4⟩) (by assumption) ?r14reac4
                        case y14reac4 => (intro u hSw; have hSu : Kept [] wf u := hSw; obtain ⟨⟨t0, t1, t2, t3, t4⟩, ⟨t5, t6, t7, t8, t9⟩, t10, t11⟩ := CE.out u hSu; go_simp; try with_reducible rfl)
                        refine wpAnyH_take (i := 15) (oi := _) (v := ?_) rfl (by kernel_rfl) (by kernel_rfl) (by kernel_rfl) (fun _ _ _ h => h) (Or.inl ⟨by rfl, ?y15reac4⟩) (by assumption) ?r15reac4
                        case y15reac4 => (intro u hSw; have hSu : Kept [] wf u := hSw; obtain ⟨⟨t0, t1, t2, t3, t4⟩, ⟨t5, t6, t7, t8, t9⟩, t10, t11⟩ := CE.out u hSu; go_simp; try with_reducible rfl)
                        obtain ⟨⟨z0, z1, z2, z3, z4⟩, f0, f1, f2, f3, f4⟩ := five bX4
                        have FB := fin_box bX4 (base := wf) (y := ⟨yW, yH, yD, yA, .slice yp yn yc, yn, ybs, yln, yF⟩) lX3 kk4 hy
                        dsimp only at FB
                        refine wpAnyH_ready (rs := [17]) (by kernel_rfl) (by simp) ?_
                        refine AllReadyH.cons rfl (fun K hK => ?_) AllReadyH.nil
                        go_simp
                        refine hK.out _ _ FB.2.2 (fun hH1 => ?_)
                        clear hK K z0 z1 z2 z3 z4 f0 f1 f2 f3 f4
                        refine wpAnyH_take (i := 18) (oi := _) (v := ?_) rfl (by kernel_rfl) (by kernel_rfl) (by kernel_rfl) (fun _ _ _ h => h) (Or.inl ⟨by rfl, ?y18reacz⟩) (by assumption) ?r18reacz
                        case y18reacz => (intro u hSw; have hSu : Kept [] wf u := hSw; obtain ⟨⟨t0, t1, t2, t3, t4⟩, ⟨t5, t6, t7, t8, t9⟩, t10, t11⟩ := CE.out u hSu; go_simp; try with_reducible rfl)
                        refine wpAnyH_done (by kernel_rfl) ?_ _
                        go_wp2
                        go_meet
                        exact ⟨_, ⟨yW, yH, yD, yA, .slice yp yn yc, yn, ybs, yln, yF⟩, rfl, rfl, lX3, FB.1, FB.2.1, hRs, FB.2.2⟩
                  case rest =>
                    obtain ⟨X16, y3, rfl, rfl, hl16, hb16, hy3, hR3, kc⟩ := hcut
                    obtain ⟨wg, rfl⟩ : ∃ wg, wg = wc := ⟨_, rfl⟩
                    have Y3 := Hid.mk hy3
                    have R3 := Hid.mk hR3
                    have B16 := Hid.mk hb16
                    have Y17 := Hid.mk (Y16.out.keep kc)
                    have Y27 := Hid.mk (Y2.out.keep kc)
                    have X107 := Hid.mk (kc.heap X106.out (by simp))
                    have X147 := Hid.mk (kc.heap B14.out (by simp))
                    have KO7 := Hid.mk (KO6.out.trans kc)
                    have KOO7 := Hid.mk (KOO6.out.trans kc)
                    have L13 : Hid (∀ q, q < y1.n → ∀ q', q' < y3.n → y1.bs q < y3.bs q') := Hid.mk (fun q hq q' hq' => by have h1 := (Y16.out.row q hq).lt; have h2 := hy3.lo q' hq'; omega)
                    have ZS : Hid (wo.heap.size ≤ wf.heap.size ∧ wo.heap.size ≤ we.heap.size ∧ wf.heap.size ≤ wg.heap.size ∧ wo.heap.size ≤ v2.heap.size) := Hid.mk ⟨KOO6.out.size, by have := SV5.out; have := SV1.out; omega, kc.size, by have := SV1.out; omega⟩
                    clear hy3 hR3 hb16 kc CE CM A6 B6 Y16 Y2 X86 X96 X106 B14 KO6 KOO6 hEE
                    have CE : Hid (∀ u, Kept [] wg u → (u.cell? ⟨gl, ol + k * 12, none⟩ = some (.int .i64 x.a.W) ∧ u.cell? ⟨gl, ol + k * 12 + 1, none⟩ = some (.int .i64 x.a.H) ∧ u.cell? ⟨gl, ol + k * 12 + 2, none⟩ = some (.int .i64 x.a.D) ∧ u.cell? ⟨gl, ol + k * 12 + 3, none⟩ = some (.bool x.a.A) ∧ u.cell? ⟨gl, ol + k * 12 + 4, none⟩ = some (.slice x.a.po x.a.n x.a.c)) ∧ (u.cell? ⟨gl, ol + k * 12 + 5, none⟩ = some (.int .i64 x.b.W) ∧ u.cell? ⟨gl, ol + k * 12 + 6, none⟩ = some (.int .i64 x.b.H) ∧ u.cell? ⟨gl, ol + k * 12 + 7, none⟩ = some (.int .i64 x.b.D) ∧ u.cell? ⟨gl, ol + k * 12 + 8, none⟩ = some (.bool x.b.A) ∧ u.cell? ⟨gl, ol + k * 12 + 9, none⟩ = some (.slice x.b.po x.b.n x.b.c)) ∧ u.cell? ⟨gl, ol + k * 12 + 10, none⟩ = some (.int .i64 x.p) ∧ u.cell? ⟨gl, ol + k * 12 + 11, none⟩ = some (.int .i64 x.o)) := Hid.mk (fun u hu => HX.out.1 u (KO7.out.trans hu))
                    have CO1 : Hid (∀ u, Kept [] wg u → Calls Tryd.prog 10 #[frv x.a.W x.a.H x.a.D x.a.A x.a.po x.a.n x.a.c] u fun e w' => ∃ po' c', e = .returned (frv x.a.W x.a.H x.a.D x.a.A po' x.a.n c') ∧ Pl w' po' x.a.n x.a.ln (fun _ _ => 7) ∧ Kept [] u w') := Hid.mk (fun u hu => over_any x.a.W x.a.H x.a.D x.a.A x.a.po x.a.n x.a.c x.a.ln x.a.F u ((HX.out.2.1.keep (KO7.out.trans hu)).pn.pl) HX.out.2.1.n1 HX.out.2.1.l1)
                    have CO2 : Hid (∀ u, Kept [] wg u → Calls Tryd.prog 10 #[frv x.b.W x.b.H x.b.D x.b.A x.b.po x.b.n x.b.c] u fun e w' => ∃ po' c', e = .returned (frv x.b.W x.b.H x.b.D x.b.A po' x.b.n c') ∧ Pl w' po' x.b.n x.b.ln (fun _ _ => 7) ∧ Kept [] u w') := Hid.mk (fun u hu => over_any x.b.W x.b.H x.b.D x.b.A x.b.po x.b.n x.b.c x.b.ln x.b.F u ((HX.out.2.2.1.keep (KO7.out.trans hu)).pn.pl) HX.out.2.2.1.n1 HX.out.2.2.1.l1)
                    have CR : Hid (∀ u p1 d1 p2 d2, Pl u p1 x.a.n x.a.ln (fun _ _ => 7) → Pl u p2 x.b.n x.b.ln (fun _ _ => 7) → Calls Tryd.prog 9 #[frv x.a.W x.a.H x.a.D x.a.A p1 x.a.n d1, frv x.b.W x.b.H x.b.D x.b.A p2 x.b.n d2, .int .i64 x.p, .int .i64 x.o] u fun e w' => MuP E7 x.a.W x.a.H x.a.D x.a.A x.a.n (mxF (fun _ _ => 7) (fun _ _ => 7) x.p.toNat x.o.toNat) u e w') := Hid.mk (fun u p1 d1 p2 d2 g1 g2 => by
                      have h := rmix_u x.a.W x.a.H x.a.D x.a.A p1 x.a.n d1 x.a.ln (fun _ _ => 7) x.b.W x.b.H x.b.D x.b.A p2 x.b.n d2 x.b.ln (fun _ _ => 7) x.p x.o u g1 HX.out.2.1.n1 HX.out.2.1.l1 g2 HX.out.2.2.1.n1 HX.out.2.2.1.l1 (fun _ _ _ _ => by decide) (fun _ _ _ _ => by decide)
                      rw [eE7] at h
                      exact h)
                    go_upto_region 19 with (fail)
                    go_cut [18, 19] (fun s10 s11 wc => ∃ (X : Nat) (y : Fm), s10 = .pointer (some ⟨X, 0, none⟩) ∧ s11 = .int .i64 E7 ∧ wg.heap.size ≤ X ∧ wc.heap[X]? = some (.cells #[.int .i64 y.W, .int .i64 y.H, .int .i64 y.D, .bool y.A, y.V] 29 (0, 0)) ∧ Fmk wg.heap.size wc y ∧ Rsx E7 x.a.W x.a.H x.a.D x.a.A x.a.n (mxF (fun _ _ => 7) (fun _ _ => 7) x.p.toNat x.o.toNat) y ∧ Kept [] wg wc)
                    case first =>
                      refine wp_region_held_drew (S := fun u => Kept [] wg u) (by kernel_rfl) (Kept.refl [] wg).drew (fun hH0 => ?_)
                      refine wpAnyH_take (i := 0) (oi := _) (v := ?_) rfl (by kernel_rfl) (by kernel_rfl) (by kernel_rfl) (fun _ _ _ h => h) (Or.inl ⟨by rfl, ?y0rf⟩) (by assumption) ?r0rf
                      case y0rf => (intro u hSw; have hSu : Kept [] wg u := hSw; obtain ⟨⟨t0, t1, t2, t3, t4⟩, ⟨t5, t6, t7, t8, t9⟩, t10, t11⟩ := CE.out u hSu; go_simp; try with_reducible rfl)
                      refine wpAnyH_take (i := 1) (oi := _) (v := ?_) rfl (by kernel_rfl) (by kernel_rfl) (by kernel_rfl) (fun _ _ _ h => h) (Or.inl ⟨by rfl, ?y1rf⟩) (by assumption) ?r1rf
                      case y1rf => (intro u hSw; have hSu : Kept [] wg u := hSw; obtain ⟨⟨t0, t1, t2, t3, t4⟩, ⟨t5, t6, t7, t8, t9⟩, t10, t11⟩ := CE.out u hSu; go_simp; try with_reducible rfl)
                      refine wpAnyH_take (i := 2) (oi := _) (v := ?_) rfl (by kernel_rfl) (by kernel_rfl) (by kernel_rfl) (fun _ _ _ h => h) (Or.inl ⟨by rfl, ?y2rf⟩) (by assumption) ?r2rf
                      case y2rf => (intro u hSw; have hSu : Kept [] wg u := hSw; obtain ⟨⟨t0, t1, t2, t3, t4⟩, ⟨t5, t6, t7, t8, t9⟩, t10, t11⟩ := CE.out u hSu; go_simp; try with_reducible rfl)
                      refine wpAnyH_take (i := 3) (oi := _) (v := ?_) rfl (by kernel_rfl) (by kernel_rfl) (by kernel_rfl) (fun _ _ _ h => h) (Or.inl ⟨by rfl, ?y3rf⟩) (by assumption) ?r3rf
                      case y3rf => (intro u hSw; have hSu : Kept [] wg u := hSw; obtain ⟨⟨t0, t1, t2, t3, t4⟩, ⟨t5, t6, t7, t8, t9⟩, t10, t11⟩ := CE.out u hSu; go_simp; try with_reducible rfl)
                      refine wpAnyH_take (i := 4) (oi := _) (v := ?_) rfl (by kernel_rfl) (by kernel_rfl) (by kernel_rfl) (fun _ _ _ h => h) (Or.inl ⟨by rfl, ?y4rf⟩) (by assumption) ?r4rf
                      case y4rf => (intro u hSw; have hSu : Kept [] wg u := hSw; obtain ⟨⟨t0, t1, t2, t3, t4⟩, ⟨t5, t6, t7, t8, t9⟩, t10, t11⟩ := CE.out u hSu; go_simp; try with_reducible rfl)
                      refine wpAnyH_take (i := 6) (oi := _) (v := ?_) rfl (by kernel_rfl) (by kernel_rfl) (by kernel_rfl) (fun _ _ _ h => h) (Or.inl ⟨by rfl, ?y6rf⟩) (by assumption) ?r6rf
                      case y6rf => (intro u hSw; have hSu : Kept [] wg u := hSw; obtain ⟨⟨t0, t1, t2, t3, t4⟩, ⟨t5, t6, t7, t8, t9⟩, t10, t11⟩ := CE.out u hSu; go_simp; try with_reducible rfl)
                      refine wpAnyH_take (i := 7) (oi := _) (v := ?_) rfl (by kernel_rfl) (by kernel_rfl) (by kernel_rfl) (fun _ _ _ h => h) (Or.inl ⟨by rfl, ?y7rf⟩) (by assumption) ?r7rf
                      case y7rf => (intro u hSw; have hSu : Kept [] wg u := hSw; obtain ⟨⟨t0, t1, t2, t3, t4⟩, ⟨t5, t6, t7, t8, t9⟩, t10, t11⟩ := CE.out u hSu; go_simp; try with_reducible rfl)
                      refine wpAnyH_take (i := 8) (oi := _) (v := ?_) rfl (by kernel_rfl) (by kernel_rfl) (by kernel_rfl) (fun _ _ _ h => h) (Or.inl ⟨by rfl, ?y8rf⟩) (by assumption) ?r8rf
                      case y8rf => (intro u hSw; have hSu : Kept [] wg u := hSw; obtain ⟨⟨t0, t1, t2, t3, t4⟩, ⟨t5, t6, t7, t8, t9⟩, t10, t11⟩ := CE.out u hSu; go_simp; try with_reducible rfl)
                      refine wpAnyH_take (i := 9) (oi := _) (v := ?_) rfl (by kernel_rfl) (by kernel_rfl) (by kernel_rfl) (fun _ _ _ h => h) (Or.inl ⟨by rfl, ?y9rf⟩) (by assumption) ?r9rf
                      case y9rf => (intro u hSw; have hSu : Kept [] wg u := hSw; obtain ⟨⟨t0, t1, t2, t3, t4⟩, ⟨t5, t6, t7, t8, t9⟩, t10, t11⟩ := CE.out u hSu; go_simp; try with_reducible rfl)
                      refine wpAnyH_take (i := 10) (oi := _) (v := ?_) rfl (by kernel_rfl) (by kernel_rfl) (by kernel_rfl) (fun _ _ _ h => h) (Or.inl ⟨by rfl, ?y10rf⟩) (by assumption) ?r10rf
                      case y10rf => (intro u hSw; have hSu : Kept [] wg u := hSw; obtain ⟨⟨t0, t1, t2, t3, t4⟩, ⟨t5, t6, t7, t8, t9⟩, t10, t11⟩ := CE.out u hSu; go_simp; try with_reducible rfl)
                      refine wpAnyH_take (i := 12) (oi := _) (v := ?_) rfl (by kernel_rfl) (by kernel_rfl) (by kernel_rfl) (fun _ _ _ h => h) (Or.inl ⟨by rfl, ?y12rf⟩) (by assumption) ?r12rf
                      case y12rf => (intro u hSw; have hSu : Kept [] wg u := hSw; obtain ⟨⟨t0, t1, t2, t3, t4⟩, ⟨t5, t6, t7, t8, t9⟩, t10, t11⟩ := CE.out u hSu; go_simp; try with_reducible rfl)
                      refine wpAnyH_take (i := 13) (oi := _) (v := ?_) rfl (by kernel_rfl) (by kernel_rfl) (by kernel_rfl) (fun _ _ _ h => h) (Or.inl ⟨by rfl, ?y13rf⟩) (by assumption) ?r13rf
                      case y13rf => (intro u hSw; have hSu : Kept [] wg u := hSw; obtain ⟨⟨t0, t1, t2, t3, t4⟩, ⟨t5, t6, t7, t8, t9⟩, t10, t11⟩ := CE.out u hSu; go_simp; try with_reducible rfl)
                      refine wpAnyH_take (i := 14) (oi := _) (v := ?_) rfl (by kernel_rfl) (by kernel_rfl) (by kernel_rfl) (fun _ _ _ h => h) (Or.inl ⟨by rfl, ?y14rf⟩) (by assumption) ?r14rf
                      case y14rf => (intro u hSw; have hSu : Kept [] wg u := hSw; obtain ⟨⟨t0, t1, t2, t3, t4⟩, ⟨t5, t6, t7, t8, t9⟩, t10, t11⟩ := CE.out u hSu; go_simp; try with_reducible rfl)
                      refine wpAnyH_take (i := 15) (oi := _) (v := ?_) rfl (by kernel_rfl) (by kernel_rfl) (by kernel_rfl) (fun _ _ _ h => h) (Or.inl ⟨by rfl, ?y15rf⟩) (by assumption) ?r15rf
                      case y15rf => (intro u hSw; have hSu : Kept [] wg u := hSw; obtain ⟨⟨t0, t1, t2, t3, t4⟩, ⟨t5, t6, t7, t8, t9⟩, t10, t11⟩ := CE.out u hSu; go_simp; try with_reducible rfl)
                      refine wpAnyH_take (i := 16) (oi := _) (v := ?_) rfl (by kernel_rfl) (by kernel_rfl) (by kernel_rfl) (fun _ _ _ h => h) (Or.inl ⟨by rfl, ?y16rf⟩) (by assumption) ?r16rf
                      case y16rf => (intro u hSw; have hSu : Kept [] wg u := hSw; obtain ⟨⟨t0, t1, t2, t3, t4⟩, ⟨t5, t6, t7, t8, t9⟩, t10, t11⟩ := CE.out u hSu; go_simp; try with_reducible rfl)
                      refine wpAnyH_take (i := 17) (oi := _) (v := ?_) rfl (by kernel_rfl) (by kernel_rfl) (by kernel_rfl) (fun _ _ _ h => h) (Or.inl ⟨by rfl, ?y17rf⟩) (by assumption) ?r17rf
                      case y17rf => (intro u hSw; have hSu : Kept [] wg u := hSw; obtain ⟨⟨t0, t1, t2, t3, t4⟩, ⟨t5, t6, t7, t8, t9⟩, t10, t11⟩ := CE.out u hSu; go_simp; try with_reducible rfl)
                      refine wpAnyH_take (i := 18) (oi := _) (v := ?_) rfl (by kernel_rfl) (by kernel_rfl) (by kernel_rfl) (fun _ _ _ h => h) (Or.inl ⟨by rfl, ?y18rf⟩) (by assumption) ?r18rf
                      case y18rf => (intro u hSw; have hSu : Kept [] wg u := hSw; obtain ⟨⟨t0, t1, t2, t3, t4⟩, ⟨t5, t6, t7, t8, t9⟩, t10, t11⟩ := CE.out u hSu; go_simp; try with_reducible rfl)
                      refine wpAnyH_take (i := 19) (oi := _) (v := ?_) rfl (by kernel_rfl) (by kernel_rfl) (by kernel_rfl) (fun _ _ _ h => h) (Or.inl ⟨by rfl, ?y19rf⟩) (by assumption) ?r19rf
                      case y19rf => (intro u hSw; have hSu : Kept [] wg u := hSw; obtain ⟨⟨t0, t1, t2, t3, t4⟩, ⟨t5, t6, t7, t8, t9⟩, t10, t11⟩ := CE.out u hSu; go_simp; try with_reducible rfl)
                      refine wpAnyH_take (i := 20) (oi := _) (v := ?_) rfl (by kernel_rfl) (by kernel_rfl) (by kernel_rfl) (fun _ _ _ h => h) (Or.inl ⟨by rfl, ?y20rf⟩) (by assumption) ?r20rf
                      case y20rf => (intro u hSw; have hSu : Kept [] wg u := hSw; obtain ⟨⟨t0, t1, t2, t3, t4⟩, ⟨t5, t6, t7, t8, t9⟩, t10, t11⟩ := CE.out u hSu; go_simp; try with_reducible rfl)
                      refine wpAnyH_take (i := 21) (oi := _) (v := ?_) rfl (by kernel_rfl) (by kernel_rfl) (by kernel_rfl) (fun _ _ _ h => h) (Or.inl ⟨by rfl, ?y21rf⟩) (by assumption) ?r21rf
                      case y21rf => (intro u hSw; have hSu : Kept [] wg u := hSw; obtain ⟨⟨t0, t1, t2, t3, t4⟩, ⟨t5, t6, t7, t8, t9⟩, t10, t11⟩ := CE.out u hSu; go_simp; try with_reducible rfl)
                      have kk0 := (Kept.refl [] wg).drew
                      clear hH0
                      as_aux_lemma =>
                        refine wpAnyH_ready (rs := [5, 26]) (by kernel_rfl) (by simp) ?_
                        refine AllReadyH.cons rfl (fun K hK => ?_) (AllReadyH.cons rfl (fun K hK => ?_) AllReadyH.nil)
                        · go_simp
                          go_at_call 10
                          refine (CO1.out wg.drew kk0).mono ?_
                          rintro e uu1 ⟨pA, dA, rfl, hplA, ku1⟩
                          have kk1 := kk0.trans ku1
                          refine hK.out _ _ kk1 (fun hH1 => ?_)
                          clear hK K hH1
                          refine wpAnyH_ready (rs := [11, 26]) (by kernel_rfl) (by simp) ?_
                          refine AllReadyH.cons rfl (fun K hK => ?_) (AllReadyH.cons rfl (fun K hK => ?_) AllReadyH.nil)
                          · go_simp
                            go_at_call 10
                            refine (CO2.out uu1 kk1).mono ?_
                            rintro e uu2 ⟨pB, dB, rfl, hplB, ku2⟩
                            have kk2 := kk1.trans ku2
                            have hplA := hplA.keep ku2
                            refine hK.out _ _ kk2 (fun hH1 => ?_)
                            clear hK K hH1
                            refine wpAnyH_ready (rs := [22, 26]) (by kernel_rfl) (by simp) ?_
                            refine AllReadyH.cons rfl (fun K hK => ?_) (AllReadyH.cons rfl (fun K hK => ?_) AllReadyH.nil)
                            · go_simp
                              go_at_call 9
                              refine (CR.out uu2 pA dA pB dB hplA hplB).mono ?_
                              rintro e uu3 ⟨y, rfl, hy0, hRs, ku3⟩
                              have kk3 := kk2.trans ku3
                              have hplA := hplA.keep ku3
                              have hplB := hplB.keep ku3
                              obtain ⟨yW, yH, yD, yA, yV, yn, ybs, yln, yF⟩ := y
                              obtain ⟨yp, yc, eV, -⟩ := Gx.pl hy0
                              obtain rfl : yV = .slice yp yn yc := eV
                              have hy := hy0.base kk2.size
                              clear hy0
                              refine hK.out _ _ kk3 (fun hH1 => ?_)
                              clear hK K hH1
                              refine wpAnyH_take (i := 23) (oi := _) (v := ?_) rfl (by kernel_rfl) (by kernel_rfl) (by kernel_rfl) (fun _ _ _ h => h) (Or.inl ⟨by rfl, ?y23rfccc3⟩) (by assumption) ?r23rfccc3
                              case y23rfccc3 => (intro u hSw; have hSu : Kept [] wg u := hSw; obtain ⟨⟨t0, t1, t2, t3, t4⟩, ⟨t5, t6, t7, t8, t9⟩, t10, t11⟩ := CE.out u hSu; go_simp; try with_reducible rfl)
                              refine wpAnyH_take (i := 24) (oi := _) (v := ?_) rfl (by kernel_rfl) (by kernel_rfl) (by kernel_rfl) (fun _ _ _ h => h) (Or.inl ⟨by rfl, ?y24rfccc3⟩) (by assumption) ?r24rfccc3
                              case y24rfccc3 => (intro u hSw; have hSu : Kept [] wg u := hSw; obtain ⟨⟨t0, t1, t2, t3, t4⟩, ⟨t5, t6, t7, t8, t9⟩, t10, t11⟩ := CE.out u hSu; go_simp; try with_reducible rfl)
                              refine wpAnyH_take (i := 25) (oi := _) (v := ?_) rfl (by kernel_rfl) (by kernel_rfl) (by kernel_rfl) (fun _ _ _ h => h) (Or.inl ⟨by rfl, ?y25rfccc3⟩) (by assumption) ?r25rfccc3
                              case y25rfccc3 => (intro u hSw; have hSu : Kept [] wg u := hSw; obtain ⟨⟨t0, t1, t2, t3, t4⟩, ⟨t5, t6, t7, t8, t9⟩, t10, t11⟩ := CE.out u hSu; go_simp; try with_reducible rfl)
                              refine wpAnyH_ready (rs := [26]) (by kernel_rfl) (by simp) ?_
                              refine AllReadyH.cons rfl (fun K hK => ?_) AllReadyH.nil
                              go_simp
                              obtain ⟨wA4, eA4⟩ : ∃ wA, uu3.alloc (.cells #[.int .i64 0, .int .i64 0, .int .i64 0, .bool false, .slice none 0 0] 29 (0, 0)) = wA := ⟨_, rfl⟩
                              have kA4 : Kept [] wg wA4 := by rw [← eA4]; exact kk3.alloc _
                              have bX4 : wA4.heap[uu3.heap.size]? = some (.cells #[.int .i64 0, .int .i64 0, .int .i64 0, .bool false, .slice none 0 0] 29 (0, 0)) := by rw [← eA4]; exact heap_alloc_new uu3 _
                              have lX4 : wg.heap.size ≤ uu3.heap.size := kk3.size
                              have hplA := hplA.keep (show Kept [] uu3 wA4 by rw [← eA4]; exact alloc_kept _ _)
                              have hplB := hplB.keep (show Kept [] uu3 wA4 by rw [← eA4]; exact alloc_kept _ _)
                              have hy := hy.keep (show Kept [] uu3 wA4 by rw [← eA4]; exact alloc_kept _ _)
                              refine hK.out _ _ (kk3.alloc _) (fun hH1 => ?_)
                              clear hK K hH1
                              try rw [eA4]
                              obtain ⟨⟨z0, z1, z2, z3, z4⟩, f0, f1, f2, f3, f4⟩ := five bX4
                              have FB := fin_box bX4 (base := wg) (y := ⟨yW, yH, yD, yA, .slice yp yn yc, yn, ybs, yln, yF⟩) lX4 kA4 hy
                              dsimp only at FB
                              refine wpAnyH_ready (rs := [27]) (by kernel_rfl) (by simp) ?_
                              refine AllReadyH.cons rfl (fun K hK => ?_) AllReadyH.nil
                              go_simp
                              refine hK.out _ _ FB.2.2 (fun hH1 => ?_)
                              clear hK K z0 z1 z2 z3 z4 f0 f1 f2 f3 f4
                              refine wpAnyH_take (i := 28) (oi := _) (v := ?_) rfl (by kernel_rfl) (by kernel_rfl) (by kernel_rfl) (fun _ _ _ h => h) (Or.inl ⟨by rfl, ?y28rfcccaz⟩) (by assumption) ?r28rfcccaz
                              case y28rfcccaz => (intro u hSw; have hSu : Kept [] wg u := hSw; obtain ⟨⟨t0, t1, t2, t3, t4⟩, ⟨t5, t6, t7, t8, t9⟩, t10, t11⟩ := CE.out u hSu; go_simp; try with_reducible rfl)
                              refine wpAnyH_done (by kernel_rfl) ?_ _
                              go_wp2
                              go_meet
                              exact ⟨_, ⟨yW, yH, yD, yA, .slice yp yn yc, yn, ybs, yln, yF⟩, rfl, rfl, lX4, FB.1, FB.2.1, hRs, FB.2.2⟩
                            · go_simp
                              obtain ⟨wA5, eA5⟩ : ∃ wA, uu2.alloc (.cells #[.int .i64 0, .int .i64 0, .int .i64 0, .bool false, .slice none 0 0] 29 (0, 0)) = wA := ⟨_, rfl⟩
                              have kA5 : Kept [] wg wA5 := by rw [← eA5]; exact kk2.alloc _
                              have bX5 : wA5.heap[uu2.heap.size]? = some (.cells #[.int .i64 0, .int .i64 0, .int .i64 0, .bool false, .slice none 0 0] 29 (0, 0)) := by rw [← eA5]; exact heap_alloc_new uu2 _
                              have lX5 : wg.heap.size ≤ uu2.heap.size := kk2.size
                              have hplA := hplA.keep (show Kept [] uu2 wA5 by rw [← eA5]; exact alloc_kept _ _)
                              have hplB := hplB.keep (show Kept [] uu2 wA5 by rw [← eA5]; exact alloc_kept _ _)
                              refine hK.out _ _ (kk2.alloc _) (fun hH1 => ?_)
                              clear hK K hH1
                              try rw [eA5]
                              refine wpAnyH_ready (rs := [22]) (by kernel_rfl) (by simp) ?_
                              refine AllReadyH.cons rfl (fun K hK => ?_) AllReadyH.nil
                              go_simp
                              go_at_call 9
                              refine (CR.out wA5 pA dA pB dB hplA hplB).mono ?_
                              rintro e uu6 ⟨y, rfl, hy0, hRs, ku6⟩
                              have kk6 := kA5.trans ku6
                              have bX6 := ku6.heap bX5 (by simp)
                              have hplA := hplA.keep ku6
                              have hplB := hplB.keep ku6
                              obtain ⟨yW, yH, yD, yA, yV, yn, ybs, yln, yF⟩ := y
                              obtain ⟨yp, yc, eV, -⟩ := Gx.pl hy0
                              obtain rfl : yV = .slice yp yn yc := eV
                              have hy := hy0.base kA5.size
                              clear hy0
                              refine hK.out _ _ kk6 (fun hH1 => ?_)
                              clear hK K hH1
                              refine wpAnyH_take (i := 23) (oi := _) (v := ?_) rfl (by kernel_rfl) (by kernel_rfl) (by kernel_rfl) (fun _ _ _ h => h) (Or.inl ⟨by rfl, ?y23rfccac6⟩) (by assumption) ?r23rfccac6
                              case y23rfccac6 => (intro u hSw; have hSu : Kept [] wg u := hSw; obtain ⟨⟨t0, t1, t2, t3, t4⟩, ⟨t5, t6, t7, t8, t9⟩, t10, t11⟩ := CE.out u hSu; go_simp; try with_reducible rfl)
                              refine wpAnyH_take (i := 24) (oi := _) (v := ?_) rfl (by kernel_rfl) (by kernel_rfl) (by kernel_rfl) (fun _ _ _ h => h) (Or.inl ⟨by rfl, ?y24rfccac6⟩) (by assumption) ?r24rfccac6
                              case y24rfccac6 => (intro u hSw; have hSu : Kept [] wg u := hSw; obtain ⟨⟨t0, t1, t2, t3, t4⟩, ⟨t5, t6, t7, t8, t9⟩, t10, t11⟩ := CE.out u hSu; go_simp; try with_reducible rfl)
                              refine wpAnyH_take (i := 25) (oi := _) (v := ?_) rfl (by kernel_rfl) (by kernel_rfl) (by kernel_rfl) (fun _ _ _ h => h) (Or.inl ⟨by rfl, ?y25rfccac6⟩) (by assumption) ?r25rfccac6
                              case y25rfccac6 => (intro u hSw; have hSu : Kept [] wg u := hSw; obtain ⟨⟨t0, t1, t2, t3, t4⟩, ⟨t5, t6, t7, t8, t9⟩, t10, t11⟩ := CE.out u hSu; go_simp; try with_reducible rfl)
                              obtain ⟨⟨z0, z1, z2, z3, z4⟩, f0, f1, f2, f3, f4⟩ := five bX6
                              have FB := fin_box bX6 (base := wg) (y := ⟨yW, yH, yD, yA, .slice yp yn yc, yn, ybs, yln, yF⟩) lX5 kk6 hy
                              dsimp only at FB
                              refine wpAnyH_ready (rs := [27]) (by kernel_rfl) (by simp) ?_
                              refine AllReadyH.cons rfl (fun K hK => ?_) AllReadyH.nil
                              go_simp
                              refine hK.out _ _ FB.2.2 (fun hH1 => ?_)
                              clear hK K z0 z1 z2 z3 z4 f0 f1 f2 f3 f4
                              refine wpAnyH_take (i := 28) (oi := _) (v := ?_) rfl (by kernel_rfl) (by kernel_rfl) (by kernel_rfl) (fun _ _ _ h => h) (Or.inl ⟨by rfl, ?y28rfccacz⟩) (by assumption) ?r28rfccacz
                              case y28rfccacz => (intro u hSw; have hSu : Kept [] wg u := hSw; obtain ⟨⟨t0, t1, t2, t3, t4⟩, ⟨t5, t6, t7, t8, t9⟩, t10, t11⟩ := CE.out u hSu; go_simp; try with_reducible rfl)
                              refine wpAnyH_done (by kernel_rfl) ?_ _
                              go_wp2
                              go_meet
                              exact ⟨_, ⟨yW, yH, yD, yA, .slice yp yn yc, yn, ybs, yln, yF⟩, rfl, rfl, lX5, FB.1, FB.2.1, hRs, FB.2.2⟩
                          · go_simp
                            obtain ⟨wA7, eA7⟩ : ∃ wA, uu1.alloc (.cells #[.int .i64 0, .int .i64 0, .int .i64 0, .bool false, .slice none 0 0] 29 (0, 0)) = wA := ⟨_, rfl⟩
                            have kA7 : Kept [] wg wA7 := by rw [← eA7]; exact kk1.alloc _
                            have bX7 : wA7.heap[uu1.heap.size]? = some (.cells #[.int .i64 0, .int .i64 0, .int .i64 0, .bool false, .slice none 0 0] 29 (0, 0)) := by rw [← eA7]; exact heap_alloc_new uu1 _
                            have lX7 : wg.heap.size ≤ uu1.heap.size := kk1.size
                            have hplA := hplA.keep (show Kept [] uu1 wA7 by rw [← eA7]; exact alloc_kept _ _)
                            refine hK.out _ _ (kk1.alloc _) (fun hH1 => ?_)
                            clear hK K hH1
                            try rw [eA7]
                            refine wpAnyH_ready (rs := [11]) (by kernel_rfl) (by simp) ?_
                            refine AllReadyH.cons rfl (fun K hK => ?_) AllReadyH.nil
                            go_simp
                            go_at_call 10
                            refine (CO2.out wA7 kA7).mono ?_
                            rintro e uu8 ⟨pB, dB, rfl, hplB, ku8⟩
                            have kk8 := kA7.trans ku8
                            have bX8 := ku8.heap bX7 (by simp)
                            have hplA := hplA.keep ku8
                            refine hK.out _ _ kk8 (fun hH1 => ?_)
                            clear hK K hH1
                            refine wpAnyH_ready (rs := [22]) (by kernel_rfl) (by simp) ?_
                            refine AllReadyH.cons rfl (fun K hK => ?_) AllReadyH.nil
                            go_simp
                            go_at_call 9
                            refine (CR.out uu8 pA dA pB dB hplA hplB).mono ?_
                            rintro e uu9 ⟨y, rfl, hy0, hRs, ku9⟩
                            have kk9 := kk8.trans ku9
                            have bX9 := ku9.heap bX8 (by simp)
                            have hplA := hplA.keep ku9
                            have hplB := hplB.keep ku9
                            obtain ⟨yW, yH, yD, yA, yV, yn, ybs, yln, yF⟩ := y
                            obtain ⟨yp, yc, eV, -⟩ := Gx.pl hy0
                            obtain rfl : yV = .slice yp yn yc := eV
                            have hy := hy0.base kk8.size
                            clear hy0
                            refine hK.out _ _ kk9 (fun hH1 => ?_)
                            clear hK K hH1
                            refine wpAnyH_take (i := 23) (oi := _) (v := ?_) rfl (by kernel_rfl) (by kernel_rfl) (by kernel_rfl) (fun _ _ _ h => h) (Or.inl ⟨by rfl, ?y23rfcacc9⟩) (by assumption) ?r23rfcacc9
                            case y23rfcacc9 => (intro u hSw; have hSu : Kept [] wg u := hSw; obtain ⟨⟨t0, t1, t2, t3, t4⟩, ⟨t5, t6, t7, t8, t9⟩, t10, t11⟩ := CE.out u hSu; go_simp; try with_reducible rfl)
                            refine wpAnyH_take (i := 24) (oi := _) (v := ?_) rfl (by kernel_rfl) (by kernel_rfl) (by kernel_rfl) (fun _ _ _ h => h) (Or.inl ⟨by rfl, ?y24rfcacc9⟩) (by assumption) ?r24rfcacc9
                            case y24rfcacc9 => (intro u hSw; have hSu : Kept [] wg u := hSw; obtain ⟨⟨t0, t1, t2, t3, t4⟩, ⟨t5, t6, t7, t8, t9⟩, t10, t11⟩ := CE.out u hSu; go_simp; try with_reducible rfl)
                            refine wpAnyH_take (i := 25) (oi := _) (v := ?_) rfl (by kernel_rfl) (by kernel_rfl) (by kernel_rfl) (fun _ _ _ h => h) (Or.inl ⟨by rfl, ?y25rfcacc9⟩) (by assumption) ?r25rfcacc9
                            case y25rfcacc9 => (intro u hSw; have hSu : Kept [] wg u := hSw; obtain ⟨⟨t0, t1, t2, t3, t4⟩, ⟨t5, t6, t7, t8, t9⟩, t10, t11⟩ := CE.out u hSu; go_simp; try with_reducible rfl)
                            obtain ⟨⟨z0, z1, z2, z3, z4⟩, f0, f1, f2, f3, f4⟩ := five bX9
                            have FB := fin_box bX9 (base := wg) (y := ⟨yW, yH, yD, yA, .slice yp yn yc, yn, ybs, yln, yF⟩) lX7 kk9 hy
                            dsimp only at FB
                            refine wpAnyH_ready (rs := [27]) (by kernel_rfl) (by simp) ?_
                            refine AllReadyH.cons rfl (fun K hK => ?_) AllReadyH.nil
                            go_simp
                            refine hK.out _ _ FB.2.2 (fun hH1 => ?_)
                            clear hK K z0 z1 z2 z3 z4 f0 f1 f2 f3 f4
                            refine wpAnyH_take (i := 28) (oi := _) (v := ?_) rfl (by kernel_rfl) (by kernel_rfl) (by kernel_rfl) (fun _ _ _ h => h) (Or.inl ⟨by rfl, ?y28rfcaccz⟩) (by assumption) ?r28rfcaccz
                            case y28rfcaccz => (intro u hSw; have hSu : Kept [] wg u := hSw; obtain ⟨⟨t0, t1, t2, t3, t4⟩, ⟨t5, t6, t7, t8, t9⟩, t10, t11⟩ := CE.out u hSu; go_simp; try with_reducible rfl)
                            refine wpAnyH_done (by kernel_rfl) ?_ _
                            go_wp2
                            go_meet
                            exact ⟨_, ⟨yW, yH, yD, yA, .slice yp yn yc, yn, ybs, yln, yF⟩, rfl, rfl, lX7, FB.1, FB.2.1, hRs, FB.2.2⟩
                        · go_simp
                          obtain ⟨wA10, eA10⟩ : ∃ wA, (wg.alloc (.cells #[.int .i64 0, .int .i64 0, .int .i64 0, .bool false, .slice none 0 0] 29 (0, 0))).drew = wA := ⟨_, rfl⟩
                          have kA10 : Kept [] wg wA10 := by rw [← eA10]; exact ((Kept.refl [] wg).alloc _).drew
                          have bX10 : wA10.heap[wg.heap.size]? = some (.cells #[.int .i64 0, .int .i64 0, .int .i64 0, .bool false, .slice none 0 0] 29 (0, 0)) := by rw [← eA10]; exact heap_alloc_new wg _
                          have lX10 : wg.heap.size ≤ wg.drew.heap.size := kk0.size
                          refine hK.out _ _ (((Kept.refl [] wg).alloc _).drew) (fun hH1 => ?_)
                          clear hK K hH1
                          try rw [eA10]
                          refine wpAnyH_ready (rs := [5]) (by kernel_rfl) (by simp) ?_
                          refine AllReadyH.cons rfl (fun K hK => ?_) AllReadyH.nil
                          go_simp
                          go_at_call 10
                          refine (CO1.out wA10 kA10).mono ?_
                          rintro e uu11 ⟨pA, dA, rfl, hplA, ku11⟩
                          have kk11 := kA10.trans ku11
                          have bX11 := ku11.heap bX10 (by simp)
                          refine hK.out _ _ kk11 (fun hH1 => ?_)
                          clear hK K hH1
                          refine wpAnyH_ready (rs := [11]) (by kernel_rfl) (by simp) ?_
                          refine AllReadyH.cons rfl (fun K hK => ?_) AllReadyH.nil
                          go_simp
                          go_at_call 10
                          refine (CO2.out uu11 kk11).mono ?_
                          rintro e uu12 ⟨pB, dB, rfl, hplB, ku12⟩
                          have kk12 := kk11.trans ku12
                          have bX12 := ku12.heap bX11 (by simp)
                          have hplA := hplA.keep ku12
                          refine hK.out _ _ kk12 (fun hH1 => ?_)
                          clear hK K hH1
                          refine wpAnyH_ready (rs := [22]) (by kernel_rfl) (by simp) ?_
                          refine AllReadyH.cons rfl (fun K hK => ?_) AllReadyH.nil
                          go_simp
                          go_at_call 9
                          refine (CR.out uu12 pA dA pB dB hplA hplB).mono ?_
                          rintro e uu13 ⟨y, rfl, hy0, hRs, ku13⟩
                          have kk13 := kk12.trans ku13
                          have bX13 := ku13.heap bX12 (by simp)
                          have hplA := hplA.keep ku13
                          have hplB := hplB.keep ku13
                          obtain ⟨yW, yH, yD, yA, yV, yn, ybs, yln, yF⟩ := y
                          obtain ⟨yp, yc, eV, -⟩ := Gx.pl hy0
                          obtain rfl : yV = .slice yp yn yc := eV
                          have hy := hy0.base kk12.size
                          clear hy0
                          refine hK.out _ _ kk13 (fun hH1 => ?_)
                          clear hK K hH1
                          refine wpAnyH_take (i := 23) (oi := _) (v := ?_) rfl (by kernel_rfl) (by kernel_rfl) (by kernel_rfl) (fun _ _ _ h => h) (Or.inl ⟨by rfl, ?y23rfaccc13⟩) (by assumption) ?r23rfaccc13
                          case y23rfaccc13 => (intro u hSw; have hSu : Kept [] wg u := hSw; obtain ⟨⟨t0, t1, t2, t3, t4⟩, ⟨t5, t6, t7, t8, t9⟩, t10, t11⟩ := CE.out u hSu; go_simp; try with_reducible rfl)
                          refine wpAnyH_take (i := 24) (oi := _) (v := ?_) rfl (by kernel_rfl) (by kernel_rfl) (by kernel_rfl) (fun _ _ _ h => h) (Or.inl ⟨by rfl, ?y24rfaccc13⟩) (by assumption) ?r24rfaccc13
                          case y24rfaccc13 => (intro u hSw; have hSu : Kept [] wg u := hSw; obtain ⟨⟨t0, t1, t2, t3, t4⟩, ⟨t5, t6, t7, t8, t9⟩, t10, t11⟩ := CE.out u hSu; go_simp; try with_reducible rfl)
                          refine wpAnyH_take (i := 25) (oi := _) (v := ?_) rfl (by kernel_rfl) (by kernel_rfl) (by kernel_rfl) (fun _ _ _ h => h) (Or.inl ⟨by rfl, ?y25rfaccc13⟩) (by assumption) ?r25rfaccc13
                          case y25rfaccc13 => (intro u hSw; have hSu : Kept [] wg u := hSw; obtain ⟨⟨t0, t1, t2, t3, t4⟩, ⟨t5, t6, t7, t8, t9⟩, t10, t11⟩ := CE.out u hSu; go_simp; try with_reducible rfl)
                          obtain ⟨⟨z0, z1, z2, z3, z4⟩, f0, f1, f2, f3, f4⟩ := five bX13
                          have FB := fin_box bX13 (base := wg) (y := ⟨yW, yH, yD, yA, .slice yp yn yc, yn, ybs, yln, yF⟩) lX10 kk13 hy
                          dsimp only at FB
                          refine wpAnyH_ready (rs := [27]) (by kernel_rfl) (by simp) ?_
                          refine AllReadyH.cons rfl (fun K hK => ?_) AllReadyH.nil
                          go_simp
                          refine hK.out _ _ FB.2.2 (fun hH1 => ?_)
                          clear hK K z0 z1 z2 z3 z4 f0 f1 f2 f3 f4
                          refine wpAnyH_take (i := 28) (oi := _) (v := ?_) rfl (by kernel_rfl) (by kernel_rfl) (by kernel_rfl) (fun _ _ _ h => h) (Or.inl ⟨by rfl, ?y28rfacccz⟩) (by assumption) ?r28rfacccz
                          case y28rfacccz => (intro u hSw; have hSu : Kept [] wg u := hSw; obtain ⟨⟨t0, t1, t2, t3, t4⟩, ⟨t5, t6, t7, t8, t9⟩, t10, t11⟩ := CE.out u hSu; go_simp; try with_reducible rfl)
                          refine wpAnyH_done (by kernel_rfl) ?_ _
                          go_wp2
                          go_meet
                          exact ⟨_, ⟨yW, yH, yD, yA, .slice yp yn yc, yn, ybs, yln, yF⟩, rfl, rfl, lX10, FB.1, FB.2.1, hRs, FB.2.2⟩
                    case rest =>
                      obtain ⟨X18, y4, rfl, rfl, hl18, hb18, hy4, hR4, kc⟩ := hcut
                      obtain ⟨wh, rfl⟩ : ∃ wh, wh = wc := ⟨_, rfl⟩
                      have hEE : (E7 != E7) = false := by simp
                      have HF : Hid (Fmk wo.heap.size wh y1 ∧ Fmk wo.heap.size wh y2 ∧ Fmk wo.heap.size wh y3 ∧ Fmk wo.heap.size wh y4) := Hid.mk ⟨(Y17.out.keep kc).base ZS.out.2.2.2, (Y27.out.keep kc).base ZS.out.2.1, (Y3.out.keep kc).base ZS.out.1, hy4.base (by have := ZS.out; omega)⟩
                      have HA : Hid (Alk y1 y2 ∧ Alk y3 y4) := Hid.mk ⟨R1.out.alk R2.out, R3.out.alk hR4⟩
                      have KOO8 := Hid.mk (KOO7.out.trans kc)
                      have HB4 : Hid (wh.heap[X10]? = some (.cells #[.int .i64 y1.W, .int .i64 y1.H, .int .i64 y1.D, .bool y1.A, y1.V] 29 (0, 0)) ∧ wh.heap[X16]? = some (.cells #[.int .i64 y3.W, .int .i64 y3.H, .int .i64 y3.D, .bool y3.A, y3.V] 29 (0, 0)) ∧ wh.heap[X14]? = some (.cells #[.int .i64 y2.W, .int .i64 y2.H, .int .i64 y2.D, .bool y2.A, y2.V] 29 (0, 0)) ∧ wh.heap[X18]? = some (.cells #[.int .i64 y4.W, .int .i64 y4.H, .int .i64 y4.D, .bool y4.A, y4.V] 29 (0, 0))) := Hid.mk ⟨kc.heap X107.out (by simp), kc.heap B16.out (by simp), kc.heap X147.out (by simp), hb18⟩
                      have PH8 := Hid.mk (HP2.out.keep KOO8.out)
                      clear hy4 hR4 hb18 kc CE CO1 CO2 CR Y17 Y27 Y3 X107 X147 B16 R1 R2 R3
                      obtain ⟨⟨p0, p1, p2, p3, p4⟩, _⟩ := five HB4.out.1
                      obtain ⟨⟨q0, q1, q2, q3, q4⟩, _⟩ := five HB4.out.2.1
                      have NX : Hid (X14 ∉ u4.ownBlock.toList ∧ X18 ∉ u4.ownBlock.toList) := Hid.mk (by
                        have h9 : ∀ z ∈ u4.ownBlock.toList, z < wo.heap.size := fun z hz => by rw [mem_own] at hz; exact (own5_ty HP2.out.oo z hz).2.1
                        have := ZS.out
                        exact ⟨fun hm => by have := h9 _ hm; omega, fun hm => by have := h9 _ hm; omega⟩)
                      have hll : O.length ≤ 100000000 := by have := HOl.out; omega
                      have hyl : Y.length ≤ 100000000 := by have := HP2.out.len; have := HOl.out; omega
                      go_upto_region 22 with (fail)
                      go_upto_region 23 with (at_builtin; refine wpList_fm wh rfl _ _ w1.heap.size rfl u4 O (by rfl) PH8.out.oo y1 y3 (by rfl) (gx_one HF.out.1) (gx_one HF.out.2.2.1) PH8.out.kept.size hll ?_; intro V1 w7 ho7 hk7 hl7; have HO7 := Hid.mk ho7; have HK7 := Hid.mk hk7; have HL7 := Hid.mk hl7; have HY7 := Hid.mk (hk7.row PH8.out.yo (fun g0 hg0 hm => by rw [mem_own] at hm; exact PH8.out.ne g0 hm hg0)); obtain ⟨⟨r0, r1, r2, r3, r4⟩, _⟩ := five (hk7.heap HB4.out.2.2.1 NX.out.1); obtain ⟨⟨s0, s1, s2, s3, s4⟩, _⟩ := five (hk7.heap HB4.out.2.2.2 NX.out.2); clear ho7 hk7 hl7 p0 p1 p2 p3 p4 q0 q1 q2 q3 q4)
                      go_wp2_with (at_builtin; refine wpList_fm w7 rfl _ _ w1.heap.size rfl u5 Y (by rfl) HY7.out y2 y4 (by rfl) (gx_one HF.out.2.1) (gx_one HF.out.2.2.2) (Nat.le_trans PH8.out.kept.size HK7.out.size) hyl ?_; intro V2 w8 ho8 hk8 hl8; have HPN := Hid.mk (HP2.out.app KOO8.out HF.out.1 HF.out.2.2.1 HF.out.2.1 HF.out.2.2.2 L13.out HA.out.1 HA.out.2 HO7.out HK7.out HL7.out ho8 hk8 hl8); clear ho8 hk8 hl8)
                      exact ⟨⟨t + 1, O ++ [y1, y3], Y ++ [y2, y4], by omega, by go_num, by have := HOl.out; simp only [List.length_append, List.length_cons, List.length_nil]; omega, HPN.out⟩, by simp [intOf]; omega⟩
        · obtain rfl : t = 2 := by omega
          go_wp2_with (fail)
          go_roundw
          case rel => exact ⟨k + 1, O, Y, by omega, by go_num, by have := HOl.out; omega, HP2.out⟩
          case measure => simp [intOf]; omega
    · obtain rfl : N = k := by omega
      obtain ⟨wo, rfl⟩ : ∃ wo, wo = wr := ⟨_, rfl⟩
      obtain ⟨ao, cO, rfl⟩ := own5_form HP.out.oo
      obtain ⟨bo, cY, rfl⟩ := own5_form HP.out.yo
      have hly : Y1.length = O1.length := HP.out.len.symm
      have HLY := Hid.mk hly
      have hM : O1.length ≤ 4194304 := by omega
      obtain ⟨M, eM⟩ : ∃ M, O1.length = M := ⟨_, rfl⟩
      have EM := Hid.mk eM
      rw [hly, eM]
      rw [eM] at hM
      clear hly hO1 eM
      go_wp2_with (fail)
      go_loopw [20] (fun i wq => ∃ q : Nat, q ≤ M ∧ i = .int .i64 (q : Int) ∧ Kept [] wo wq) (fun i _ => M - (intOf i).toNat)
      case atStart => exact ⟨0, by omega, rfl, Kept.refl _ _⟩
      case round =>
        obtain ⟨q, hq, rfl, hkq⟩ := hrel
        have KQ := Hid.mk hkq
        clear hkq
        by_cases hlt3 : q < M
        · have ix3 : (q : Int) < (M : Int) := by omega
          obtain ⟨x, hx⟩ : ∃ x, O1[q]? = some x := ⟨O1[q]'(by rw [EM.out]; exact hlt3), List.getElem?_eq_getElem _⟩
          obtain ⟨y, hy⟩ : ∃ y, Y1[q]? = some y := ⟨Y1[q]'(by rw [HLY.out, EM.out]; exact hlt3), List.getElem?_eq_getElem _⟩
          have hPq := HP.out.keep KQ.out
          have hal := hPq.al q x y hx hy
          have hfx := hPq.ofm x (List.mem_of_getElem? hx)
          have hfy := hPq.yfm y (List.mem_of_getElem? hy)
          obtain ⟨px, dx, evx, hplx⟩ := Gx.pl hfx
          obtain ⟨py, dy, evy, hply⟩ := Gx.pl hfy
          have CE : Hid (∀ u, Kept [] wr u → ∃ go gy, ao = some ⟨go, 0, none⟩ ∧ bo = some ⟨gy, 0, none⟩ ∧ True) := Hid.mk (fun u hu => by
            obtain ⟨go, e1, -⟩ := own5_at (hPq.keep hu).oo hx
            obtain ⟨gy, e2, -⟩ := own5_at (hPq.keep hu).yo hy
            exact ⟨go, gy, e1, e2, trivial⟩)
          obtain ⟨go, gy, rfl, rfl, -⟩ := CE.out wr (Kept.refl _ _)
          clear CE
          obtain ⟨i1, i2, i3, i4, i5, i6, i7, i8, i9⟩ := hal
          have CE : Hid (∀ u, Kept [] wr u → (u.cell? ⟨go, q * 5, none⟩ = some (.int .i64 x.W) ∧ u.cell? ⟨go, q * 5 + 1, none⟩ = some (.int .i64 x.H) ∧ u.cell? ⟨go, q * 5 + 2, none⟩ = some (.int .i64 x.D) ∧ u.cell? ⟨go, q * 5 + 3, none⟩ = some (.bool x.A) ∧ u.cell? ⟨go, q * 5 + 4, none⟩ = some (.slice px x.n dx)) ∧ (u.cell? ⟨gy, q * 5, none⟩ = some (.int .i64 x.W) ∧ u.cell? ⟨gy, q * 5 + 1, none⟩ = some (.int .i64 x.H) ∧ u.cell? ⟨gy, q * 5 + 2, none⟩ = some (.int .i64 x.D) ∧ u.cell? ⟨gy, q * 5 + 3, none⟩ = some (.bool x.A) ∧ u.cell? ⟨gy, q * 5 + 4, none⟩ = some (.slice py x.n dy))) := Hid.mk (fun u hu => by
            obtain ⟨g1, e1, c1⟩ := own5_at (hPq.keep hu).oo hx
            obtain ⟨g2, e2, c2⟩ := own5_at (hPq.keep hu).yo hy
            cases e1
            cases e2
            rw [evx] at c1
            rw [evy, ← i1, ← i2, ← i3, ← i4, ← i5] at c2
            exact ⟨c1, c2⟩)
          have CS : Hid (∀ u, Kept [] wr u → Calls Tryd.prog 11 #[frv x.W x.H x.D x.A px x.n dx, frv x.W x.H x.D x.A py x.n dy] u fun e w' => e = .returned (.bool true) ∧ Kept [] u w') := Hid.mk (fun u hu => same_yes x.W x.H x.D x.A px py x.n dx dy x.ln x.F y.F u (hplx.keep hu) (by rw [i5]; exact (hply.keep hu).lens (fun i hi => (i6 i (by rw [i5]; exact hi)).symm)) i7 (by omega) (fun i hi => by have := i9 i hi; omega))
          clear hPq hfx hfy hplx hply evx evy i1 i2 i3 i4 i5 i6 i7 i8 i9 hx hy
          go_upto_region 27 with (fail)
          go_cut [21] (fun s wc => s = .bool true ∧ Kept [] wr wc)
          case first =>
            refine wp_region_held_drew (S := fun u => Kept [] wr u) (by kernel_rfl) ((Kept.refl _ wr).drew) (fun hH0 => ?_)
            refine wpAnyH_take (i := 0) (oi := _) (v := ?_) rfl (by kernel_rfl) (by kernel_rfl) (by kernel_rfl) (fun _ _ _ h => h) (Or.inl ⟨by rfl, ?y0rg⟩) (by assumption) ?r0rg
            case y0rg => (intro u hSw; have hSu : Kept [] wr u := hSw; obtain ⟨⟨t0, t1, t2, t3, t4⟩, ⟨t5, t6, t7, t8, t9⟩⟩ := CE.out u hSu; go_simp; try with_reducible rfl)
            refine wpAnyH_take (i := 1) (oi := _) (v := ?_) rfl (by kernel_rfl) (by kernel_rfl) (by kernel_rfl) (fun _ _ _ h => h) (Or.inl ⟨by rfl, ?y1rg⟩) (by assumption) ?r1rg
            case y1rg => (intro u hSw; have hSu : Kept [] wr u := hSw; obtain ⟨⟨t0, t1, t2, t3, t4⟩, ⟨t5, t6, t7, t8, t9⟩⟩ := CE.out u hSu; go_simp; try with_reducible rfl)
            refine wpAnyH_take (i := 2) (oi := _) (v := ?_) rfl (by kernel_rfl) (by kernel_rfl) (by kernel_rfl) (fun _ _ _ h => h) (Or.inl ⟨by rfl, ?y2rg⟩) (by assumption) ?r2rg
            case y2rg => (intro u hSw; have hSu : Kept [] wr u := hSw; obtain ⟨⟨t0, t1, t2, t3, t4⟩, ⟨t5, t6, t7, t8, t9⟩⟩ := CE.out u hSu; go_simp; try with_reducible rfl)
            refine wpAnyH_take (i := 3) (oi := _) (v := ?_) rfl (by kernel_rfl) (by kernel_rfl) (by kernel_rfl) (fun _ _ _ h => h) (Or.inl ⟨by rfl, ?y3rg⟩) (by assumption) ?r3rg
            case y3rg => (intro u hSw; have hSu : Kept [] wr u := hSw; obtain ⟨⟨t0, t1, t2, t3, t4⟩, ⟨t5, t6, t7, t8, t9⟩⟩ := CE.out u hSu; go_simp; try with_reducible rfl)
            refine wpAnyH_take (i := 4) (oi := _) (v := ?_) rfl (by kernel_rfl) (by kernel_rfl) (by kernel_rfl) (fun _ _ _ h => h) (Or.inl ⟨by rfl, ?y4rg⟩) (by assumption) ?r4rg
            case y4rg => (intro u hSw; have hSu : Kept [] wr u := hSw; obtain ⟨⟨t0, t1, t2, t3, t4⟩, ⟨t5, t6, t7, t8, t9⟩⟩ := CE.out u hSu; go_simp; try with_reducible rfl)
            refine wpAnyH_take (i := 5) (oi := _) (v := ?_) rfl (by kernel_rfl) (by kernel_rfl) (by kernel_rfl) (fun _ _ _ h => h) (Or.inl ⟨by rfl, ?y5rg⟩) (by assumption) ?r5rg
            case y5rg => (intro u hSw; have hSu : Kept [] wr u := hSw; obtain ⟨⟨t0, t1, t2, t3, t4⟩, ⟨t5, t6, t7, t8, t9⟩⟩ := CE.out u hSu; go_simp; try with_reducible rfl)
            refine wpAnyH_take (i := 6) (oi := _) (v := ?_) rfl (by kernel_rfl) (by kernel_rfl) (by kernel_rfl) (fun _ _ _ h => h) (Or.inl ⟨by rfl, ?y6rg⟩) (by assumption) ?r6rg
            case y6rg => (intro u hSw; have hSu : Kept [] wr u := hSw; obtain ⟨⟨t0, t1, t2, t3, t4⟩, ⟨t5, t6, t7, t8, t9⟩⟩ := CE.out u hSu; go_simp; try with_reducible rfl)
            refine wpAnyH_take (i := 7) (oi := _) (v := ?_) rfl (by kernel_rfl) (by kernel_rfl) (by kernel_rfl) (fun _ _ _ h => h) (Or.inl ⟨by rfl, ?y7rg⟩) (by assumption) ?r7rg
            case y7rg => (intro u hSw; have hSu : Kept [] wr u := hSw; obtain ⟨⟨t0, t1, t2, t3, t4⟩, ⟨t5, t6, t7, t8, t9⟩⟩ := CE.out u hSu; go_simp; try with_reducible rfl)
            refine wpAnyH_ready (rs := [8]) (by kernel_rfl) (by simp) ?_
            refine AllReadyH.cons rfl (fun K hK => ?_) AllReadyH.nil
            go_simp
            go_at_call 11
            refine (CS.out _ (Kept.refl [] wr).drew).mono ?_
            rintro e wd ⟨rfl, kS⟩
            refine hK.out _ _ kS.undrew (fun hH1 => ?_)
            clear hK K hH0 CS CE
            refine wpAnyH_take (i := 9) (oi := _) (v := ?_) rfl (by kernel_rfl) (by kernel_rfl) (by kernel_rfl) (fun _ _ _ h => h) (Or.inl ⟨by rfl, ?y9rgz⟩) (by assumption) ?r9rgz
            case y9rgz => (intro u hSw; have hSu : Kept [] wr u := hSw;  go_simp; try with_reducible rfl)
            refine wpAnyH_done (by kernel_rfl) ?_ _
            go_wp2
            go_meet
            exact ⟨rfl, kS.undrew⟩
          case rest =>
            obtain ⟨rfl, kS⟩ := hcut
            have KS := Hid.mk (KQ.out.trans kS)
            clear kS CS CE
            go_wp2_with (fail)
            go_roundw
            case rel => exact ⟨q + 1, by omega, by go_num, KS.out⟩
            case measure => simp [intOf]; omega
        · obtain rfl : M = q := by omega
          obtain ⟨wp3, rfl⟩ : ∃ z, z = wr := ⟨_, rfl⟩
          as_aux_lemma =>
            have HP3 := Hid.mk (HP.out.keep KQ.out)
            have KP3 := Hid.mk (K1.out.trans HP3.out.kept)
            have HN4 : Hid (∀ x ∈ O1, x.n ≤ 4) := Hid.mk (fun x hx => by
              obtain ⟨q, hq⟩ := List.mem_iff_getElem?.1 hx
              have hql := (List.getElem?_eq_some_iff.1 hq).1
              exact (HP.out.al q x _ hq (List.getElem?_eq_getElem (by rw [HLY.out]; exact hql))).2.2.2.2.2.2.2.1)
            have HN5 : Hid (∀ x ∈ O1, ∀ i, i < x.n → x.ln i ≤ 16777216) := Hid.mk (fun x hx => by
              obtain ⟨q, hq⟩ := List.mem_iff_getElem?.1 hx
              have hql := (List.getElem?_eq_some_iff.1 hq).1
              exact (HP.out.al q x _ hq (List.getElem?_eq_getElem (by rw [HLY.out]; exact hql))).2.2.2.2.2.2.2.2)
            obtain ⟨j0, gi, gz0, gz1, gz2⟩ := info_parts Tryd.infoR
            clear KQ HP
            go_wp2_with (fail)
            go_loopw [22, 23] (fun av i wq => ∃ q : Nat, q ≤ M ∧ i = .int .i64 (q : Int) ∧ wq.ownsRow wp3.heap.size 37 1 av (rws (O1.take q)).length ((rws (O1.take q)).map sv) ∧ Kept [] wp3 wq) (fun _ i _ => M - (intOf i).toNat)
            case atStart => exact ⟨0, by omega, rfl, ⟨rfl, .inl ⟨rfl, rfl⟩⟩, Kept.refl _ _⟩
            case round =>
              obtain ⟨q, hq, rfl, hav, hkq⟩ := hrel
              have HAV := Hid.mk hav
              have KQ := Hid.mk hkq
              clear hav hkq
              by_cases hlt3 : q < M
              · have ix3 : (q : Int) < (M : Int) := by omega
                obtain ⟨x, hx⟩ : ∃ x, O1[q]? = some x := ⟨O1[q]'(by rw [EM.out]; exact hlt3), List.getElem?_eq_getElem _⟩
                have hPq := HP3.out.keep KQ.out
                obtain ⟨px, dx, evx, hsv, hnl⟩ := gx_src (hPq.ofm x (List.mem_of_getElem? hx))
                have hoo := hPq.oo
                rw [EM.out] at hoo
                obtain ⟨go, rfl, c0, c1, c2, c3, c4⟩ := own5_at (by rw [EM.out]; exact hoo) hx
                rw [evx] at c4
                have HSV := Hid.mk (And.intro hsv hnl)
                have HX := Hid.mk hx
                have hxn := HN4.out x (List.mem_of_getElem? hx)
                have hl1 : Hid ((rws (O1.take q)).length ≤ 16777216) := Hid.mk (by
                  have h1 := rws_le (O := O1.take q) (fun y hy => HN4.out y (List.mem_of_mem_take hy))
                  have h2 : (O1.take q).length ≤ M := by rw [List.length_take]; omega
                  omega)
                clear hPq evx hsv hnl hoo hx c0 c1 c2 c3
                go_wp2_with (at_builtin; refine wpList_app wr rfl _ _ 27 wp3.heap.size 37 j0 (.slice none 0 0) 24 Tryd.underlying27 gi gz0 gz1 gz2 rfl (by decide) rfl u22 (rws (O1.take q)).length ((rws (O1.take q)).map sv) (by rfl) HAV.out px x.n dx (fun p => slv (x.bs p) (x.ln p) (x.ln p)) (by rfl) HSV.out.1 HSV.out.2 (fun _ _ => rfl) KQ.out.size (by have := hl1.out; omega) ?_; intro V1 w7 ho7 hk7 _; have HO7 := Hid.mk ho7; have HK7 := Hid.mk hk7; clear ho7 hk7)
                refine ⟨⟨q + 1, by omega, by go_num, ?_, KQ.out.step HK7.out (fun z hz => by rw [mem_own] at hz; exact .inr (own_lt HAV.out z hz).1)⟩, by simp [intOf]; omega⟩
                rw [rws_snoc HX.out, List.map_append, rw1_sv, List.length_append, show (rw1 x).length = x.n by simp [rw1]]
                exact HO7.out
              · obtain rfl : M = q := by omega
                obtain ⟨wp4, rfl⟩ : ∃ z, z = wr := ⟨_, rfl⟩
                have eT : O1.take M = O1 := List.take_of_length_le (by rw [EM.out]; exact Nat.le_refl _)
                have hav := HAV.out
                rw [eT] at hav
                obtain ⟨ax, cx, rfl⟩ := own_slice hav
                have HR4 : Hid (RwS wp4 (rws O1) 0 ∧ (rws O1).Pairwise (fun r s => r.1 < s.1)) := Hid.mk ⟨RwS.start (HP3.out.keep KQ.out).ofm, rws_pw (fun x hx => (HP3.out.ofm x hx).mon) HP3.out.ap⟩
                have HT : Hid ((rws O1).length ≤ 16777216) := Hid.mk (by have h1 := rws_le HN4.out; rw [EM.out] at h1; omega)
                obtain ⟨R, eR⟩ : ∃ R, rws O1 = R := ⟨_, rfl⟩
                rw [eR]
                rw [eR] at hav HR4 HT
                obtain ⟨T, eTT⟩ : ∃ T, R.length = T := ⟨_, rfl⟩
                have ET := Hid.mk eTT
                have HV4 := Hid.mk hav
                have hT := HT.out
                have KP4 := Hid.mk (KP3.out.trans KQ.out)
                rw [eTT] at hT ⊢
                have NB4 : Hid (∀ (i : Nat) (r : Nat × Nat), R[i]? = some r → ∀ g, ax = some ⟨g, 0, none⟩ → g ≠ r.1) := Hid.mk (fun i r hr g hg e => by
                  obtain ⟨f, h1, -⟩ := HR4.out.1 i r hr
                  have h2 := own_row HV4.out h1
                  rw [hg] at h2
                  exact h2 (by simp [Value.ownBlock, e]))
                have HB4' : Hid (∀ r ∈ R, w1.heap.size ≤ r.1) := Hid.mk (fun r hr => by
                  rw [← eR] at hr
                  simp only [rws, List.mem_flatMap] at hr
                  obtain ⟨x, hx, hm⟩ := hr
                  obtain ⟨p, hp, rfl⟩ := rw1_mem hm
                  exact (HP3.out.ofm x hx).lo p hp)
                have HL5 : Hid (∀ r ∈ R, r.2 ≤ 16777216) := Hid.mk (fun r hr => by
                  rw [← eR] at hr
                  simp only [rws, List.mem_flatMap] at hr
                  obtain ⟨x, hx, hm⟩ := hr
                  obtain ⟨p, hp, rfl⟩ := rw1_mem hm
                  exact HN5.out x hx p hp)
                clear hav eT eR eTT HAV HP3 KP3 KQ HN4 HN5 HT
                go_wp2_with (fail)
                go_loopw [24] (fun i wq => ∃ k : Nat, k ≤ T ∧ i = .int .i64 (k : Int) ∧ RwS wq R k ∧ Kept (R.map (·.1)) wp4 wq) (fun i _ => T - (intOf i).toNat)
                case atStart => exact ⟨0, by omega, rfl, HR4.out.1, Kept.refl _ _⟩
                case round =>
                  obtain ⟨wo, rfl⟩ : ∃ z, z = wr := ⟨_, rfl⟩
                  obtain ⟨k4, hk4, rfl, hS4, hkq⟩ := hrel
                  have HS4 := Hid.mk hS4
                  have KQ := Hid.mk hkq
                  clear hS4 hkq
                  by_cases hlt4 : k4 < T
                  · have ix4 : (k4 : Int) < (T : Int) := by omega
                    obtain ⟨⟨b4, n4⟩, hr4⟩ : ∃ r, R[k4]? = some r := ⟨R[k4]'(by rw [ET.out]; exact hlt4), List.getElem?_eq_getElem _⟩
                    obtain ⟨gA, rfl, hcA⟩ := all_at HV4.out hr4
                    obtain ⟨f4, hf4, -⟩ := HS4.out k4 _ hr4
                    have nA : ∀ r ∈ R, gA ≠ r.1 := fun r hr => by
                      obtain ⟨i, hi⟩ := List.mem_iff_getElem?.1 hr
                      exact NB4.out i r hi gA rfl
                    have hcA2 := cell_keep KQ.out hcA (by simp only [List.mem_map, not_exists, not_and]; exact fun r hr e => nA r hr e.symm)
                    have hbb : ∃ m : Nat, n4 = m := ⟨_, rfl⟩
                    obtain ⟨mk, emk⟩ : ∃ mk : Nat, (5000 + k4) % 65536 = mk := ⟨_, rfl⟩
                    have NA4 : Hid (gA ≠ b4) := Hid.mk (nA _ (List.mem_of_getElem? hr4))
                    have hb0 : (-9223372036854775808 : Int) ≤ 5000 + (k4 : Int) := by omega
                    have hb1 : 5000 + (k4 : Int) ≤ 9223372036854775807 := by omega
                    have wm1 : wrap64 (5000 + (k4 : Int)) = 5000 + (k4 : Int) := w64_in hb0 hb1
                    have wm2 : IntKind.u16.wrap (5000 + (k4 : Int)) = (mk : Int) := by
                      rw [← emk]
                      simp only [IntKind.wrap, IntKind.bits, IntKind.signed]
                      simp
                    have wm3 : IntKind.i64.wrap (5000 + (k4 : Int)) = 5000 + (k4 : Int) := wrap_i hb0 hb1
                    clear hb0 hb1
                    have hn4b : n4 ≤ 16777216 := HL5.out _ (List.mem_of_getElem? hr4)
                    have HF4 : Hid (Row wo b4 n4 (fun j => if j < 0 then mk else f4 j)) := Hid.mk (hf4.congr (fun j _ => by rw [if_neg (by omega)]))
                    have HRK := Hid.mk hr4
                    have EMK := Hid.mk emk
                    clear hcA hf4 nA hbb hr4 emk
                    go_wp2_with (fail)
                    go_loopw [25] (fun i wq => ∃ t : Nat, t ≤ n4 ∧ i = .int .i64 (t : Int) ∧ Row wq b4 n4 (fun j => if j < t then mk else f4 j) ∧ Kept [b4] wo wq) (fun i _ => n4 - (intOf i).toNat)
                    case atStart => exact ⟨0, by omega, rfl, HF4.out, Kept.refl _ _⟩
                    case round =>
                      obtain ⟨t, ht, rfl, hrow, hkt⟩ := hrel
                      have hcA3 := cell_keep hkt hcA2 (by simpa using NA4.out)
                      by_cases hlt5 : t < n4
                      · have ix5 : (t : Int) < (n4 : Int) := by clear wm1 wm2 wm3; omega
                        have c3 := hrow.at hlt5
                        have c4 := hrow.fz t
                        have HS : Hid (Row (wr.setCell ⟨b4, t, none⟩ (.int .u16 (mk : Int))) b4 n4 (fun j => if j < t + 1 then mk else f4 j)) := Hid.mk ((hrow.set (i := t) (v := mk)).congr (fun j hj => by
                          by_cases e : j = t
                          · subst e; rw [if_pos rfl, if_pos (Nat.lt_succ_self _)]
                          · rw [if_neg e]
                            by_cases e2 : j < t
                            · rw [if_pos e2, if_pos (Nat.lt_succ_of_lt e2)]
                            · rw [if_neg e2, if_neg (fun h => (Nat.lt_succ_iff_lt_or_eq.1 h).elim e2 e)]))
                        have HK2 : Hid (Kept [b4] wo (wr.setCell ⟨b4, t, none⟩ (.int .u16 (mk : Int)))) := Hid.mk (hkt.setCell (p := ⟨b4, t, none⟩) (.inl (by simp)) _)
                        obtain ⟨z, ez⟩ : ∃ z, (if t < t then mk else f4 t) = z := ⟨_, rfl⟩
                        rw [ez] at c3
                        clear hrow hkt ez hcA2
                        go_wp2_with (fail)
                        go_roundw
                        case rel => exact ⟨t + 1, hlt5, by clear wm1 wm2 wm3; go_num, HS.out, HK2.out⟩
                        case measure => clear wm1 wm2 wm3; simp [intOf]; omega
                      · obtain rfl : n4 = t := by clear wm1 wm2 wm3; omega
                        have HN := Hid.mk (HS4.out.step HR4.out.2 HRK.out hkt hrow (fun j hj => by rw [if_pos hj, EMK.out]))
                        have HKN := Hid.mk (KQ.out.step hkt (fun x hx => by simp at hx; subst hx; exact .inl (List.mem_map.2 ⟨_, List.mem_of_getElem? HRK.out, rfl⟩)))
                        clear hrow hkt hcA2 wm1 wm2 wm3
                        go_wp2_with (fail)
                        go_roundw
                        case rel => exact ⟨k4 + 1, hlt4, by go_num, HN.out, HKN.out⟩
                        case measure => simp [intOf]; exact Nat.sub_lt_sub_left hlt4 (Nat.lt_succ_self _)
                  · obtain rfl : T = k4 := by omega
                    obtain ⟨wp5, rfl⟩ : ∃ z, z = wo := ⟨_, rfl⟩
                    have HS5 := Hid.mk HS4.out
                    have HV5 : Hid (∀ (i : Nat) r, R[i]? = some r → ∃ g, ax = some ⟨g, 0, none⟩ ∧ wp5.cell? ⟨g, i, none⟩ = some (slv r.1 r.2 r.2)) := Hid.mk (fun i r hr => by
                      obtain ⟨g, e, hc⟩ := all_at HV4.out hr
                      refine ⟨g, e, cell_keep KQ.out hc ?_⟩
                      simp only [List.mem_map, not_exists, not_and]
                      intro r' hr' e'
                      obtain ⟨i', hi'⟩ := List.mem_iff_getElem?.1 hr'
                      exact NB4.out i' r' hi' g e e'.symm)
                    have KP5 : Hid (Kept [] w wp5) := Hid.mk (KP4.out.step KQ.out (fun x hx => by
                      simp only [List.mem_map] at hx
                      obtain ⟨r, hr, rfl⟩ := hx
                      exact .inr (Nat.le_trans K1.out.size (HB4'.out r hr))))
                    clear HS4 KQ HV4 NB4 HB4' KP4 HR4 K1
                    go_wp2_with (fail)
                    go_loopw [26] (fun i wq => ∃ q : Nat, q ≤ T ∧ i = .int .i64 (q : Int) ∧ Kept [] wp5 wq) (fun i _ => T - (intOf i).toNat)
                    case atStart => exact ⟨0, by omega, rfl, Kept.refl _ _⟩
                    case round =>
                      obtain ⟨wo, rfl⟩ : ∃ z, z = wr := ⟨_, rfl⟩
                      obtain ⟨q, hq, rfl, hkq⟩ := hrel
                      have KQ := Hid.mk hkq
                      clear hkq
                      by_cases hlt6 : q < T
                      · have ix6 : (q : Int) < (T : Int) := by omega
                        obtain ⟨⟨b6, n6⟩, hr6⟩ : ∃ r, R[q]? = some r := ⟨R[q]'(by rw [ET.out]; exact hlt6), List.getElem?_eq_getElem _⟩
                        obtain ⟨gA, rfl, hcA⟩ := HV5.out q _ hr6
                        obtain ⟨f6, hf6, -⟩ := HS5.out q _ hr6
                        have hcA2 := cell_keep KQ.out hcA (by simp)
                        have HA6 : Hid (Ax wo wo.heap.size (slv b6 n6 n6) n6) := Hid.mk (.inl ⟨b6, f6, rfl, hf6.keep KQ.out (by simp)⟩)
                        have HL6 : Hid (n6 ≤ 16777216) := Hid.mk (HL5.out _ (List.mem_of_getElem? hr6))
                        obtain ⟨mk, emk⟩ : ∃ mk : Nat, (5000 + q) % 65536 = mk := ⟨_, rfl⟩
                        have hb0 : (-9223372036854775808 : Int) ≤ 5000 + (q : Int) := by omega
                        have hb1 : 5000 + (q : Int) ≤ 9223372036854775807 := by omega
                        have wm1 : wrap64 (5000 + (q : Int)) = 5000 + (q : Int) := w64_in hb0 hb1
                        have wm2 : IntKind.u16.wrap (5000 + (q : Int)) = (mk : Int) := by
                          rw [← emk]
                          simp only [IntKind.wrap, IntKind.bits, IntKind.signed]
                          simp
                        have wm3 : IntKind.i64.wrap (5000 + (q : Int)) = 5000 + (q : Int) := wrap_i hb0 hb1
                        clear hb0 hb1
                        clear hcA hf6 hr6 emk
                        go_wp2_with (fail)
                        go_loopw [27, 28] (fun xv i wq => ∃ t : Nat, t ≤ 20 ∧ i = .int .i64 (t : Int) ∧ Ax wq wo.heap.size xv (n6 + t) ∧ Kept [] wo wq) (fun _ i _ => 20 - (intOf i).toNat)
                        case atStart => exact ⟨0, by omega, rfl, HA6.out, Kept.refl _ _⟩
                        case round =>
                          obtain ⟨t, ht, rfl, hax, hkt⟩ := hrel
                          have HAX := Hid.mk hax
                          have HKT := Hid.mk hkt
                          clear hax hkt hcA2
                          by_cases hlt7 : t < 20
                          · have ix7 : (t : Int) < 20 := by clear wm1 wm2 wm3; omega
                            have hbn : Hid (n6 + t ≤ 100000000) := Hid.mk (by have := HL6.out; clear wm1 wm2 wm3; omega)
                            go_wp2_with (at_builtin; refine wpList_ax wr rfl _ _ wo.heap.size rfl u27 (n6 + t) (by rfl) HAX.out (.int .u16 (mk : Int)) (by rfl) rfl HKT.out.size hbn.out ?_; intro V1 w7 ha7 hk7; have HA7 := Hid.mk ha7; have HK7 := Hid.mk hk7; clear ha7 hk7)
                            refine ⟨⟨t + 1, hlt7, by go_num, HA7.out, ?_⟩, by clear wm1 wm2 wm3; simp [intOf]; omega⟩
                            obtain ⟨ks, h1, h2⟩ := HK7.out
                            exact HKT.out.step h1 (fun x hx => .inr (h2 x hx))
                          · obtain rfl : t = 20 := by clear wm1 wm2 wm3; omega
                            have KQ2 := Hid.mk (KQ.out.trans HKT.out)
                            clear wm1 wm2 wm3
                            go_wp2_with (fail)
                            go_roundw
                            case rel => exact ⟨q + 1, hlt6, by go_num, KQ2.out⟩
                            case measure => simp [intOf]; exact Nat.sub_lt_sub_left hlt6 (Nat.lt_succ_self _)
                      · obtain rfl : T = q := by omega
                        obtain ⟨wp6, rfl⟩ : ∃ z, z = wo := ⟨_, rfl⟩
                        have HS6 := Hid.mk (HS5.out.keep KQ.out)
                        have KP6 := Hid.mk (KP5.out.trans KQ.out)
                        have HV6 : Hid (∀ (i : Nat) r, R[i]? = some r → ∃ g, ax = some ⟨g, 0, none⟩ ∧ wp6.cell? ⟨g, i, none⟩ = some (slv r.1 r.2 r.2)) := Hid.mk (fun i r hr => by
                          obtain ⟨g, e, hc⟩ := HV5.out i r hr
                          exact ⟨g, e, cell_keep KQ.out hc (by simp)⟩)
                        clear HS5 KP5 HV5 KQ
                        go_wp2_with (fail)
                        go_loopw [29] (fun i wq => ∃ q : Nat, q ≤ T ∧ i = .int .i64 (q : Int) ∧ Kept [] wp6 wq) (fun i _ => T - (intOf i).toNat)
                        case atStart => exact ⟨0, by omega, rfl, Kept.refl _ _⟩
                        case round =>
                          obtain ⟨q, hq, rfl, hkq⟩ := hrel
                          have KQ := Hid.mk hkq
                          clear hkq
                          by_cases hlt8 : q < T
                          · have ix8 : (q : Int) < (T : Int) := by omega
                            obtain ⟨⟨b8, n8⟩, hr8⟩ : ∃ r, R[q]? = some r := ⟨R[q]'(by rw [ET.out]; exact hlt8), List.getElem?_eq_getElem _⟩
                            obtain ⟨gA, rfl, hcA⟩ := HV6.out q _ hr8
                            obtain ⟨f8, hf8, hv8⟩ := HS6.out q _ hr8
                            have hcA2 := cell_keep KQ.out hcA (by simp)
                            obtain ⟨mk, emk⟩ : ∃ mk : Nat, (5000 + q) % 65536 = mk := ⟨_, rfl⟩
                            have HF8 : Hid (Row wp6 b8 n8 (fun _ => mk)) := Hid.mk (hf8.congr (fun j hj => by rw [hv8 hlt8 j hj, emk]))
                            have hb0 : (-9223372036854775808 : Int) ≤ 5000 + (q : Int) := by omega
                            have hb1 : 5000 + (q : Int) ≤ 9223372036854775807 := by omega
                            have wm1 : wrap64 (5000 + (q : Int)) = 5000 + (q : Int) := w64_in hb0 hb1
                            have wm2 : IntKind.u16.wrap (5000 + (q : Int)) = (mk : Int) := by
                              rw [← emk]
                              simp only [IntKind.wrap, IntKind.bits, IntKind.signed]
                              simp
                            have wm3 : IntKind.i64.wrap (5000 + (q : Int)) = 5000 + (q : Int) := wrap_i hb0 hb1
                            clear hb0 hb1
                            have HCA := Hid.mk hcA
                            have hn8b : n8 ≤ 16777216 := HL5.out _ (List.mem_of_getElem? hr8)
                            clear hcA hf8 hv8 hr8 emk
                            go_wp2_with (fail)
                            go_loopw [30] (fun i wq => ∃ t : Nat, t ≤ n8 ∧ i = .int .i64 (t : Int) ∧ Kept [] wp6 wq) (fun i _ => n8 - (intOf i).toNat)
                            case atStart => exact ⟨0, by clear wm1 wm2 wm3; omega, rfl, KQ.out⟩
                            case round =>
                              obtain ⟨t, ht, rfl, hkt⟩ := hrel
                              have HKT := Hid.mk hkt
                              clear hkt hcA2
                              have hcA3 := cell_keep HKT.out HCA.out (by simp)
                              by_cases hlt9 : t < n8
                              · have ix9 : (t : Int) < (n8 : Int) := by clear wm1 wm2 wm3; omega
                                have c3 := (HF8.out.keep HKT.out (by simp)).at hlt9
                                have hne : ((mk : Int) != (mk : Int)) = false := by simp
                                go_wp2_with (fail)
                                go_roundw
                                case rel => exact ⟨t + 1, hlt9, by clear wm1 wm2 wm3; go_num, HKT.out⟩
                                case measure => clear wm1 wm2 wm3; simp [intOf]; omega
                              · obtain rfl : n8 = t := by clear wm1 wm2 wm3; omega
                                clear wm1 wm2 wm3
                                go_wp2_with (fail)
                                go_roundw
                                case rel => exact ⟨q + 1, hlt8, by go_num, HKT.out⟩
                                case measure => simp [intOf]; exact Nat.sub_lt_sub_left hlt8 (Nat.lt_succ_self _)
                          · obtain rfl : T = q := by omega
                            have KE := Hid.mk (KP6.out.trans KQ.out)
                            clear KQ KP6
                            go_wp2_with (fail)
                            go_ret
                            exact ⟨rfl, KE.out⟩
end Go.Proofs.YtgjjnkhkjnkahaaDoor
