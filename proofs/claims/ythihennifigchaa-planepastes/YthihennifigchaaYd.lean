import Derived.Test.YthihennifigchaaYb
import Derived.Test.YthihennifigchaaA8
import Derived.Test.YthihennifigchaaLd
namespace Go.Proofs.Ythihennifigchaa
open Go.RowKit

theorem wpList_eqR {ops : Array Oper} {rest : List Oper} {o : Oper} {a : Act} {w : World} {Q : Exit → Act → World → Prop} (hg : o.guard = none) (s x : Operand) (t : Nat)
    (hop : o.op = Op.call { callee := Callee.builtin Builtin.append, args := #[s, x], argTypes := #[t, t] }) (v1 v2 v' : Value) (w' : World) (hs : a.eval s = v1) (hx : a.eval x = v2)
    (hr : Sem.run Try.prog (Builtin.append_ #[t, t] o.type #[v1, v2]) w = .ok v' w') (hK : wpList Try.prog ops Q rest (a.put o.dst v') w') : wpList Try.prog ops Q (o :: rest) a w := by
  refine wpList_plain hg fun K hK' => ?_
  unfold Oper.wp
  simp [execOp, hop, resolve, invoke, builtin, hs, hx, hr, Result.andThen]
  exact hK' _ _ hK

/-- What the document has cut out so far: planes in memory new to w0. -/
structure Ct (w0 w : World) (B : Nat) (W H D : Int) (A : Bool) (k : Nat) (V : Value) (f : Nat → Value) (ln : Nat → Nat) (F : Nat → Nat → Nat) : Prop where
  box : w.heap[B]? = some (.cells #[.int .i64 W, .int .i64 H, .int .i64 D, .bool A, V] 38 (0, 0))
  gy : Gy w0.heap.size w V k f ln F
  new : w0.heap.size ≤ B
  far : ∀ i, i < k → ∀ g c, f i = .slice (some ⟨g, 0, none⟩) (ln i) c → g ≠ B
  kept : Kept [] w0 w
theorem Ct.vfar {w0 w : World} {B : Nat} {W H D : Int} {A : Bool} {k : Nat} {V : Value} {f : Nat → Value} {ln : Nat → Nat} {F : Nat → Nat → Nat} (h : Ct w0 w B W H D A k V f ln F) : B ∉ V.ownBlock.toList := fun hm => by
  rcases h.gy.own.2 with ⟨e, -⟩ | ⟨g', cap, cur, e, -, hx, -⟩
  · subst e; simp [Value.ownBlock] at hm
  · subst e
    simp [Value.ownBlock] at hm
    rw [← hm, h.box] at hx
    simp at hx
theorem Gy.keep1 {B0 x : Nat} {w w' : World} {V : Value} {k : Nat} {f : Nat → Value} {ln : Nat → Nat} {F : Nat → Nat → Nat} (h : Gy B0 w V k f ln F) (hk : Kept [x] w w') (h1 : V.ownBlock ≠ some x) (h2 : ∀ i, i < k → ∀ g c, f i = .slice (some ⟨g, 0, none⟩) (ln i) c → g ≠ x) : Gy B0 w' V k f ln F := by
  refine ⟨hk.row h.own (fun g hg hm => ?_), fun i hi => ?_⟩
  · simp at hm; subst hm; exact h1 hg
  · obtain ⟨g, c, e1, e2, e3, e4, e5, e6⟩ := h.row i hi
    exact ⟨g, c, e1, e2, e3.kept hk (fun g2 off e hm => by cases e; simp at hm; exact h2 i hi g c e1 hm), e4, by have := hk.size; omega, e6⟩
theorem Ct.keep {w0 w w' : World} {B : Nat} {W H D : Int} {A : Bool} {k : Nat} {V : Value} {f : Nat → Value} {ln : Nat → Nat} {F : Nat → Nat → Nat} (h : Ct w0 w B W H D A k V f ln F) (hk : Kept [] w w') : Ct w0 w' B W H D A k V f ln F :=
  ⟨hk.heap h.box (by simp), h.gy.keep hk (by simp), h.new, h.far, h.kept.trans hk⟩
/-- One plane more. -/
theorem Ct.next {w0 w wA w7 : World} {B : Nat} {W H D : Int} {A : Bool} {k gn c g2 c2 : Nat} {V : Value} {f : Nat → Value} {ln : Nat → Nat} {F : Nat → Nat → Nat} (h : Ct w0 w B W H D A k V f ln F) (hk : Kept [] w wA) (hc : ln k ≤ c) (hgn : w.heap.size ≤ gn) (hgn2 : gn < wA.heap.size) (hr : Rd wA (some ⟨gn, 0, none⟩) (ln k) (F k))
    (ho : w7.ownsRow w0.heap.size 52 1 (slv g2 (k + 1) c2) (k + 1) (fl f k ++ [.slice (some ⟨gn, 0, none⟩) (ln k) c])) (hk2 : Kept V.ownBlock.toList wA w7) (hl : Lies wA V (slv g2 (k + 1) c2)) :
    Ct w0 (w7.setCell ⟨B, 4, none⟩ (slv g2 (k + 1) c2)) B W H D A (k + 1) (slv g2 (k + 1) c2) (fun i => if i = k then .slice (some ⟨gn, 0, none⟩) (ln k) c else f i) ln F ∧ w7.heap[B]? = some (.cells #[.int .i64 W, .int .i64 H, .int .i64 D, .bool A, V] 38 (0, 0)) := by
  have b7 : w7.heap[B]? = some (.cells #[.int .i64 W, .int .i64 H, .int .i64 D, .bool A, V] 38 (0, 0)) := hk2.heap (hk.heap h.box (by simp)) h.vfar
  have hlB : B < w.heap.size := lt_of_block h.box
  have g7 := h.gy.step h.kept.size hk rfl hc hgn hgn2 hr ho hk2 hl
  have k7 : Kept [] w0 w7 := (h.kept.trans hk).step hk2 (fun x hx => .inr (own_lt h.gy.own x (by simpa using hx)).1)
  have kS : Kept [B] w7 (w7.setCell ⟨B, 4, none⟩ (slv g2 (k + 1) c2)) := (Kept.refl _ _).setCell (.inl (by simp)) _
  have far : ∀ i, i < k + 1 → ∀ g c', (if i = k then Value.slice (some ⟨gn, 0, none⟩) (ln k) c else f i) = .slice (some ⟨g, 0, none⟩) (ln i) c' → g ≠ B := fun i hi g c' e => by
    by_cases e0 : i = k
    · rw [if_pos e0] at e
      simp at e
      omega
    · rw [if_neg e0] at e
      exact h.far i (by omega) g c' e
  have vf : (slv g2 (k + 1) c2).ownBlock ≠ some B := fun e => by
    rcases hl with hl | ⟨g3, hg, hge⟩
    · rw [hl] at e; exact h.vfar (by simp [e])
    · rw [hg] at e; cases e; have := hk.size; omega
  exact ⟨⟨by rw [heap_setCell_at b7]; simp, g7.keep1 kS vf far, h.new, far, k7.setCell (.inr h.new) _⟩, b7⟩

set_option maxHeartbeats 16000000 in
set_option maxRecDepth 1000000 in
theorem rcut_yes (W H D X Y rw rh : Int) (A : Bool) (po : Option Addr) (n c : Nat) (ln : Nat → Nat) (F : Nat → Nat → Nat) (w : World) (hr : Pc w po n ln F) (hF : ∀ i, i < n → ∀ j, j < ln i → F i j < 65536) (hv : Vld W H D A n ln F) (hw : whl W H X Y rw rh = true) :
    Calls Try.prog 37 #[frv W H D A po n c, rcv X Y rw rh] w fun e w' => ∃ qo d, e = .returned (.tuple #[frv rw rh D A qo n d, .int .i64 0]) ∧ Pl w' qo n (pz rw rh) (cutF F W X Y rw) ∧ Kept [] w w' := by
  have hd := of_decide_eq_true hw
  have hn4 : n ≤ 4 := by rw [hv.num]; exact np_hi A
  have hs := hv.shp
  have hs1 := hs.1
  have hs2 := hs.2.1
  have hln : ∀ i, i < n → ln i ≤ 9223372036854775807 := fun i hi => by
    have h1 := hv.len i hi
    have h2 := wpH (i : Int) hs.1.1 hs.1.2 hs.2.1.1 hs.2.1.2
    omega
  have CV := Hid.mk (fun u (hk : Kept [] w u) => by
    have h := rvalid_any W H D A po n c ln F u (hr.keep hk).pl (by omega) hln hF
    rw [vE_zero.2 hv] at h
    exact h)
  have CW := Hid.mk (fun u => rwhole_any W H D X Y rw rh A u (by omega) (by omega) hs.1 hs.2.1)
  rw [hw] at CW
  have CH : Hid (∀ u (p : Nat), p < n → Calls Try.prog 35 #[shv W H D A, .int .i64 (p : Int), rcv X Y rw rh] u fun e w' => e = .returned (.tuple #[rcv (bX (p : Int) X) Y (bW (p : Int) rw) rh, .int .i64 0]) ∧ Kept [] u w') := Hid.mk (fun u p hp => by
    have h := rhalfR_any W H D (p : Int) X Y rw rh A u (by omega) (by omega)
    have e0 : hE W H D (p : Int) X Y rw rh A = 0 := by
      unfold hE
      rw [if_pos (shE_ok hs), if_pos ⟨by rw [← hv.num]; omega, hw⟩]
    rw [e0] at h
    exact h)
  have CC : Hid (∀ u (p : Nat), Kept [] w u → p < n → ∃ m : Nat, m = pz rw rh p ∧ Calls Try.prog 28 #[frv W H D A po n c, .int .i64 (p : Int), rcv (bX (p : Int) X) Y (bW (p : Int) rw) rh] u fun e w' => ∃ gn k, e = .returned (.tuple #[blv (bW (p : Int) rw) rh (some ⟨gn, 0, none⟩) m k, .int .i64 0]) ∧ (m ≤ k ∧ u.heap.size ≤ gn ∧ gn < w'.heap.size) ∧ Rd w' (some ⟨gn, 0, none⟩) m (cutF F W X Y rw p) ∧ Kept [] u w') := Hid.mk (fun u p hu hp => by
    obtain ⟨q1, q2, q3⟩ := belongs_in (W := W) (H := H) (X := X) (Y := Y) (rw := rw) (rh := rh) (p : Int) hs.1.1 hd.1 hd.2.1
    obtain ⟨xN, exN⟩ : ∃ m : Nat, bX (p : Int) X = (m : Int) := ⟨(bX (p : Int) X).toNat, by omega⟩
    obtain ⟨wN, ewN⟩ : ∃ m : Nat, bW (p : Int) rw = (m : Int) := ⟨(bW (p : Int) rw).toNat, by omega⟩
    obtain ⟨yN, eyN⟩ : ∃ m : Nat, Y = (m : Int) := ⟨Y.toNat, by omega⟩
    obtain ⟨hN, ehN⟩ : ∃ m : Nat, rh = (m : Int) := ⟨rh.toNat, by omega⟩
    refine ⟨wN * hN, ?_, ?_⟩
    · unfold pz
      rw [show wp rw (p : Int) = bW (p : Int) rw from rfl, ewN, ehN]
      have : ((wN : Int) * (hN : Int)) = ((wN * hN : Nat) : Int) := by exact_mod_cast rfl
      rw [this]; rfl
    · have h := rcrop_yes W H D A po n c ln F p xN yN wN hN u (hr.keep hu) hF hv hp (by omega) (by omega) (by omega) (by omega)
      have e : cutF F W X Y rw p = crp (F p) (wp W (p : Int)).toNat xN yN wN := by
        unfold cutF
        rw [exN, eyN, ewN]; rfl
      rw [e, exN, ewN, eyN, ehN]
      exact h)
  have Hr := Hid.mk hr
  have N := ent3 w (.int .i64 W) (.int .i64 H) (.int .i64 D) (.bool A) (.slice po n c) (.int .i64 X) (.int .i64 Y) (.int .i64 rw) (.int .i64 rh) (.int .i64 0) (.int .i64 0) (.int .i64 0) (.bool false) (.slice none 0 0) 38 51 38
  obtain ⟨w1, ew1⟩ : ∃ w1, w1 = ((w.alloc (.cells #[.int .i64 W, .int .i64 H, .int .i64 D, .bool A, .slice po n c] 38 (0, 0))).alloc (.cells #[.int .i64 X, .int .i64 Y, .int .i64 rw, .int .i64 rh] 51 (0, 0))).alloc (.cells #[.int .i64 0, .int .i64 0, .int .i64 0, .bool false, .slice none 0 0] 38 (0, 0)) := ⟨_, rfl⟩
  rw [← ew1] at N
  have HN := Hid.mk N
  have EW := Hid.mk ew1
  clear N ew1 hr hv hs hs1 hs2 hln hw hd hF
  go_enter Try.func37, Try.ntmps37
  go_wp2_with (first | (go_at_call 24; rw [← EW.out]; refine (CV.out _ HN.out.2.2.2).mono ?_; rintro e w2 ⟨rfl, hk2⟩; obtain ⟨⟨c0, c1, c2, c3, c4⟩, _⟩ := five (hk2.heap HN.out.1 (by simp)); obtain ⟨⟨r0, r1, r2, r3⟩, _⟩ := four (hk2.heap HN.out.2.1 (by simp))) | fail)
  refine (CW.out _).mono ?_
  rintro e w5 ⟨rfl, hk5⟩
  have hk25 := hk2.trans hk5
  have HN5 := Hid.mk (And.intro (hk25.heap HN.out.1 (by simp)) (And.intro (hk25.heap HN.out.2.1 (by simp)) (And.intro (hk25.heap HN.out.2.2.1 (by simp)) (HN.out.2.2.2.trans hk25))))
  obtain ⟨b, eb⟩ : ∃ b, w.heap.size = b := ⟨_, rfl⟩
  have HEB := Hid.mk eb
  rw [eb] at HN5 ⊢
  obtain ⟨⟨x0, x1, x2, x3, x4⟩, -⟩ := five HN5.out.1
  obtain ⟨⟨y0, y1, y2, y3⟩, -⟩ := four HN5.out.2.1
  clear c0 c1 c2 c3 c4 r0 r1 r2 r3 hk2 hk5 hk25 HN EW CV CW eb
  go_upto_region 8 with (fail)
  obtain ⟨w6, ew6⟩ : ∃ w6, w5.alloc (.cells #[.int .i64 rw, .int .i64 rh, .int .i64 D, .bool A, .slice none 0 0] 38) = w6 := ⟨_, rfl⟩
  have R6 : Hid (Ct w5 w6 w5.heap.size rw rh D A 0 (.slice none 0 0) (fun _ => .slice none 0 0) (pz rw rh) (cutF F W X Y rw)) := Hid.mk (by
    rw [← ew6]
    exact ⟨heap_alloc_new _ _, Gy.start _ _ _ _ _, Nat.le_refl _, fun i hi => by omega, alloc_kept _ _⟩)
  rw [ew6]
  obtain ⟨B, eB⟩ : ∃ B, w5.heap.size = B := ⟨_, rfl⟩
  rw [eB] at R6 ⊢
  clear ew6 eB x0 x1 x2 x3 x4 y0 y1 y2 y3
  go_wp2
  go_loopw [9] (fun i wr => ∃ (k : Nat) (V : Value) (f : Nat → Value), k ≤ n ∧ i = .int .i64 (k : Int) ∧ Ct w5 wr B rw rh D A k V f (pz rw rh) (cutF F W X Y rw)) (fun i _ => n - (intOf i).toNat)
  case atStart => exact ⟨0, _, _, by omega, rfl, R6.out⟩
  case round =>
    obtain ⟨k, V, f, hk, rfl, hR⟩ := hrel
    obtain ⟨⟨x0, x1, x2, x3, x4⟩, -⟩ := five (hR.kept.heap HN5.out.1 (by simp))
    obtain ⟨⟨y0, y1, y2, y3⟩, -⟩ := four (hR.kept.heap HN5.out.2.1 (by simp))
    have HR := Hid.mk hR
    clear hR
    by_cases hlt : k < n
    · have ik : (k : Int) < (n : Int) := by omega
      have C1 := Hid.mk (CH.out wr k hlt)
      go_wp2_with (fail)
      with_reducible refine C1.out.mono ?_
      rintro e v1 ⟨rfl, hk1⟩
      have ka1 := alloc_kept v1 (.cells #[.int .i64 (bX (k : Int) X), .int .i64 Y, .int .i64 (bW (k : Int) rw), .int .i64 rh] 51)
      obtain ⟨⟨x0', x1', x2', x3', x4'⟩, -⟩ := five (((HR.out.kept.trans hk1).trans ka1).heap HN5.out.1 (by simp))
      have K1 := Hid.mk hk1
      clear x0 x1 x2 x3 x4 y0 y1 y2 y3 C1 hk1
      go_wp2_with (fail)
      obtain ⟨u1, eu1⟩ : ∃ u1, v1.alloc (.cells #[.int .i64 (bX (k : Int) X), .int .i64 Y, .int .i64 (bW (k : Int) rw), .int .i64 rh] 51) = u1 := ⟨_, rfl⟩
      rw [eu1] at ka1
      rw [eu1]
      have KU := Hid.mk (K1.out.trans ka1)
      obtain ⟨m, em, C2⟩ := CC.out u1 k (HN5.out.2.2.2.trans (HR.out.kept.trans KU.out)) hlt
      have C2 := Hid.mk C2
      have EM := Hid.mk em
      clear eu1 ka1 x0' x1' x2' x3' x4' K1 em
      with_reducible refine C2.out.mono ?_
      rintro e v2 ⟨gn, kc, rfl, hg, hrd, hk2⟩
      have H2 := Hid.mk (And.intro hg (And.intro hrd (KU.out.trans hk2)))
      clear hg hrd C2
      have ka2 := alloc_kept v2 (.cells #[.int .i64 (bW (k : Int) rw), .int .i64 rh, .slice (some ⟨gn, 0, none⟩) m kc] 54)
      have hb2 := heap_alloc_new v2 (.cells #[.int .i64 (bW (k : Int) rw), .int .i64 rh, .slice (some ⟨gn, 0, none⟩) m kc] 54)
      go_upto_region 13 with (fail)
      obtain ⟨u2, eu2⟩ : ∃ u2, v2.alloc (.cells #[.int .i64 (bW (k : Int) rw), .int .i64 rh, .slice (some ⟨gn, 0, none⟩) m kc] 54) = u2 := ⟨_, rfl⟩
      rw [eu2] at ka2 hb2
      rw [eu2]
      obtain ⟨G2, eG2⟩ : ∃ G2, v2.heap.size = G2 := ⟨_, rfl⟩
      rw [eG2] at hb2 ⊢
      obtain ⟨⟨-, -, z2⟩, -⟩ := tri' hb2
      have hRu := HR.out.keep (H2.out.2.2.trans ka2)
      obtain ⟨vo, vc, eV⟩ : ∃ vo vc, V = .slice vo k vc := Bk.row_form HR.out.gy.own
      subst eV
      obtain ⟨g3, c3, w7, hrun, o7, k7, l7⟩ := app_one u2 w5.heap.size k _ (.slice (some ⟨gn, 0, none⟩) m kc) _ hRu.gy.own rfl hRu.kept.size (by omega)
      have hg := H2.out.1
      have em := EM.out
      have eHR := HR.out.kept.size
      obtain ⟨hN7, b7⟩ := HR.out.next (wA := u2) (w7 := w7) (gn := gn) (c := kc) (g2 := g3) (c2 := c3) (H2.out.2.2.trans ka2) (by rw [← em]; exact hg.1) (by have := KU.out.size; omega) (by have := ka2.size; omega) (by rw [← em]; exact (H2.out.2.1.keep ka2)) (by rw [← em]; exact o7) k7 l7
      obtain ⟨-, -, -, -, p4⟩ := (five hRu.box).1
      have pa := cell_keep (alloc_kept u2 (.cells #[.slice (some ⟨gn, 0, none⟩) m kc] 52)) p4 (by simp)
      obtain ⟨⟨-, -, -, -, p7⟩, -, -, -, -, f7⟩ := five b7
      have FN := Hid.mk hN7
      clear hN7 b7 o7 k7 l7 hRu em hg ka2 hb2 eu2 eG2 eHR hk2
      go_wp2_with (at_builtin; refine wpList_eqR rfl _ _ 36 rfl _ _ _ _ rfl rfl hrun ?_)
      go_roundw
      case rel => exact ⟨k + 1, _, _, by omega, by go_num, FN.out⟩
      case measure => simp [intOf]; omega
    · obtain rfl : n = k := by omega
      have hR2 := HR.out.kept.heap HN5.out.2.2.1 (by simp)
      obtain ⟨⟨z0, z1, z2, z3, z4⟩, f0, f1, f2, f3, f4⟩ := five hR2
      obtain ⟨⟨c0, c1, c2, c3, c4⟩, -⟩ := five HR.out.box
      obtain ⟨vo, vc, eV⟩ := Bk.row_form HR.out.gy.own
      subst eV
      have HRR := Hid.mk hR2
      clear hR2
      go_wp2
      have s5 := set5 (.int .i64 rw) (.int .i64 rh) (.int .i64 D) (.bool A) (.slice vo n vc) HRR.out
      refine bodyPost_ret (v := .tuple #[frv rw rh D A vo n vc, .int .i64 0]) ?_ rfl ⟨vo, vc, rfl, ?_, ?_⟩
      · exact results_two rfl _ _ (b + 1 + 1) 38 _ (0, 0) _ _ rfl s5.1 Try.underlying38 Try.info38 rfl
      · obtain ⟨ao, ac, e1, e2⟩ := (HR.out.gy.keep s5.2 (fun x hx => by simp at hx; subst hx; exact lt_of_block HN5.out.2.2.1)).pc
        cases e1
        exact e2.pl
      · exact (HN5.out.2.2.2.trans HR.out.kept).step s5.2 (fun x hx => by simp at hx; subst hx; exact .inr (by have := HEB.out; omega))
end Go.Proofs.Ythihennifigchaa
