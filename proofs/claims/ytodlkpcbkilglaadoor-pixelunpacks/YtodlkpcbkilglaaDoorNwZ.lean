import Derived.Test.YtodlkpcbkilglaaDoorPsZ
import Derived.Test.YtodlkpcbkilglaaDoorB2Z
import Derived.Deep.RegionHeldLaw
import Derived.Deep.RegionLaw
import Derived.ArgAppend
import Derived.Test.YtodlkpcbkilglaaDoorUxZ
import Derived.Test.YtodlkpcbkilglaaDoorPjZ
import Derived.Test.YtodlkpcbkilglaaDoorRp
import Derived.Test.YtodlkpcbkilglaaDoorVq
import Derived.Test.YtodlkpcbkilglaaDoorSp
import Derived.Lib.Bytes
import Derived.Test.YtodlkpcbkilglaaDoorUz
namespace Go.Proofs.YtodlkpcbkilglaaDoor
open Go.RowKit

theorem nw_row {w : World} {base : Nat} {e : TypeId} {size : Nat} {v : Value} {n : Nat} {xs : List Value} (h : w.ownsRow base e size v n xs) : ∃ ao cap, v = .slice ao n cap := by
  rcases h.2 with ⟨rfl, rfl⟩ | ⟨g, cap, cur, rfl, _⟩
  · exact ⟨_, _, rfl⟩
  · exact ⟨_, _, rfl⟩
/-- A list of samples more in a row of such, as an equation. -/
theorem one_app (w : World) (B : Nat) (v : Value) (n : Nat) (xs : List Value) (hB : B ≤ w.heap.size) (ho : w.ownsRow B 68 1 v n xs) (y : Value) (h1 : y.oneCell' = true) (hn : n ≤ 1000000) :
    ∃ bo c w', Sem.run Tryd.prog (Builtin.append_ #[29, 29] 29 #[v, .slice (some ⟨w.heap.size, 0, none⟩) 1 1]) (w.alloc (.cells #[y] 68)) = .ok (.slice bo (n + 1) c) w' ∧ w'.ownsRow B 68 1 (.slice bo (n + 1) c) (n + 1) (xs ++ [y]) ∧ Kept v.ownBlock.toList w w' ∧ Lies w v (.slice bo (n + 1) c) := by
  obtain ⟨i0, hi, hz0, hz1, hz2⟩ := info_parts Tryd.infoR
  have k0 : Kept [] w (w.alloc (.cells #[y] 68)) := (Kept.refl [] w).alloc _
  obtain ⟨v', u', hrun, h2, h3, _, h5⟩ := run_append_own_at (P := Tryd.prog) (w.alloc (.cells #[y] 68)) B 29 29 68 i0 (.slice none 0 0) 1 24 Tryd.underlying29 hi hz0 hz1 hz2 rfl (by decide) v n xs (k0.row ho (by simp)) ⟨w.heap.size, 0, none⟩ 1 1 [y] rfl (cell_one_new _ _ _) (fun u hu => by simp at hu; subst hu; exact h1) (by unfold maxLen; omega) (by omega) (by rw [World.size_alloc]; omega)
  obtain ⟨bo, c, ev⟩ := nw_row h2
  subst ev
  refine ⟨bo, c, u', hrun, h2, (k0.mono (by simp)).trans (Kept.of_grown h3), ?_⟩
  rcases h5 with h | h
  · exact .inl h
  · exact .inr ⟨_, h, by rw [World.size_alloc]; omega⟩

/-- Planes that the document has made so far: the row in memory new to w0. -/
structure Rn (w0 w : World) (B : Nat) (W H D : Int) (A : Bool) (k : Nat) (V : Value) (bs : Nat → Nat) : Prop where
  box : w.heap[B]? = some (.cells #[.int .i64 W, .int .i64 H, .int .i64 D, .bool A, V] 31 (0, 0))
  row : w.ownsRow w0.heap.size 68 1 V k (fl (fun i => .slice (some ⟨bs i, 0, none⟩) (pz W H i) (pz W H i)) k)
  each : ∀ i, i < k → Row w (bs i) (pz W H i) (fun _ => 0)
  new : w0.heap.size ≤ B
  kept : Kept [] w0 w
  lo : ∀ i, i < k → w0.heap.size ≤ bs i
  ap : ∀ i j, i < k → j < k → i ≠ j → bs i ≠ bs j
theorem Rn.far {w0 w : World} {B : Nat} {W H D : Int} {A : Bool} {k : Nat} {V : Value} {bs : Nat → Nat} (h : Rn w0 w B W H D A k V bs) : ∀ g, V.ownBlock = some g → g ≠ B ∧ ∀ i, i < k → g ≠ bs i := fun g hg => by
  rcases h.row.2 with ⟨e, -⟩ | ⟨g', cap, cur, e, -, hx, -⟩
  · subst e; simp [Value.ownBlock] at hg
  · subst e
    simp [Value.ownBlock] at hg
    subst hg
    exact ⟨fun e => by rw [e, h.box] at hx; simp at hx, fun i hi e => by have := h.each i hi; unfold Row at this; rw [e, this] at hx; simp at hx⟩
theorem Rn.keep {w0 w w' : World} {B : Nat} {W H D : Int} {A : Bool} {k : Nat} {V : Value} {bs : Nat → Nat} (h : Rn w0 w B W H D A k V bs) (hk : Kept [] w w') : Rn w0 w' B W H D A k V bs :=
  ⟨hk.heap h.box (by simp), hk.row h.row (by simp), fun i hi => (h.each i hi).keep hk (by simp), h.new, h.kept.trans hk, h.lo, h.ap⟩
theorem fl_snoc (f : Nat → Value) (k : Nat) (v : Value) : fl f k ++ [v] = fl (fun i => if i = k then v else f i) (k + 1) := by
  unfold fl
  rw [List.range_succ, List.map_append]
  congr 1
  · apply List.map_congr_left
    intro j hj
    have := List.mem_range.1 hj
    rw [if_neg (by omega)]
  · simp
/-- One plane more. -/
theorem Rn.next {w0 w w7 : World} {B : Nat} {W H D : Int} {A : Bool} {k b : Nat} {V Vn : Value} {bs : Nat → Nat} (h : Rn w0 w B W H D A k V bs) (hb : Row w b (pz W H k) (fun _ => 0)) (hlo : w0.heap.size ≤ b) (hnb : ∀ i, i < k → bs i ≠ b) (o7 : w7.ownsRow w0.heap.size 68 1 Vn (k + 1) (fl (fun i => .slice (some ⟨bs i, 0, none⟩) (pz W H i) (pz W H i)) k ++ [.slice (some ⟨b, 0, none⟩) (pz W H k) (pz W H k)])) (k7 : Kept V.ownBlock.toList w w7) :
    Rn w0 (w7.setCell ⟨B, 4, none⟩ Vn) B W H D A (k + 1) Vn (fun i => if i = k then b else bs i) := by
  have far := h.far
  have hbf : ∀ g, V.ownBlock = some g → g ≠ b := fun g hg => by
    rcases h.row.2 with ⟨e, -⟩ | ⟨g', cap, cur, e, -, hx, -⟩
    · subst e; simp [Value.ownBlock] at hg
    · subst e
      simp [Value.ownBlock] at hg
      subst hg
      exact fun e => by unfold Row at hb; rw [e, hb] at hx; simp at hx
  have b7 : w7.heap[B]? = some (.cells #[.int .i64 W, .int .i64 H, .int .i64 D, .bool A, V] 31 (0, 0)) := k7.heap h.box (fun hm => by have := (far B (by simpa using hm)).1; exact this rfl)
  have kS : Kept [B] w7 (w7.setCell ⟨B, 4, none⟩ Vn) := (Kept.refl _ _).setCell (.inl (by simp)) _
  have tyB : ∀ {b' n' : Nat} {f' : Nat → Nat}, Row w7 b' n' f' → b' ≠ B := fun hr e => by unfold Row at hr; rw [e, b7] at hr; simp at hr
  have r7 : ∀ {b' n' : Nat} {f' : Nat → Nat}, Row w b' n' f' → (∀ g, V.ownBlock = some g → g ≠ b') → Row (w7.setCell ⟨B, 4, none⟩ Vn) b' n' f' := fun {b' n' f'} hr hne => by
    have h1 : Row w7 b' n' f' := hr.keep k7 (fun hm => hne b' (by simpa using hm) rfl)
    exact h1.keep kS (fun hm => tyB h1 (by simpa using hm))
  refine ⟨by rw [heap_setCell_at b7]; simp, ?_, fun i hi => ?_, h.new, ?_, fun i hi => ?_, fun i j hi hj hij => ?_⟩
  · have e : fl (fun i => .slice (some ⟨(if i = k then b else bs i), 0, none⟩) (pz W H i) (pz W H i)) (k + 1) = fl (fun i => .slice (some ⟨bs i, 0, none⟩) (pz W H i) (pz W H i)) k ++ [.slice (some ⟨b, 0, none⟩) (pz W H k) (pz W H k)] := by
      rw [fl_snoc]
      apply fl_congr
      intro j hj
      by_cases e : j = k
      · simp [e]
      · simp [e]
    rw [e]
    exact kS.row o7 (fun g hg hm => by
      simp at hm
      subst hm
      rcases o7.2 with ⟨e, -⟩ | ⟨g', cap, cur, e, -, hx, -⟩
      · subst e; simp [Value.ownBlock] at hg
      · subst e
        simp [Value.ownBlock] at hg
        subst hg
        rw [b7] at hx; simp at hx)
  · by_cases e : i = k
    · subst e
      simp only [if_pos]
      exact r7 hb hbf
    · simp only [if_neg e]
      exact r7 (h.each i (by omega)) (fun g hg => (far g hg).2 i (by omega))
  · refine (h.kept.step k7 (fun x hx => .inr ?_)).setCell (.inr h.new) _
    exact (h.row.lt x (by simpa using hx)).1
  · by_cases e : i = k
    · simp only [if_pos e]; exact hlo
    · simp only [if_neg e]; exact h.lo i (by omega)
  · by_cases e : i = k
    · by_cases e2 : j = k
      · omega
      · simp only [if_pos e, if_neg e2]; exact fun e3 => hnb j (by omega) e3.symm
    · by_cases e2 : j = k
      · simp only [if_neg e, if_pos e2]; exact hnb i (by omega)
      · simp only [if_neg e, if_neg e2]; exact h.ap i j (by omega) (by omega) hij
/-- A frame's planes in memory of their own from lo on: the list at G, row i at bs i. -/
structure Wf (lo : Nat) (w : World) (G : Nat) (bs : Nat → Nat) (n : Nat) (ln : Nat → Nat) (F : Nat → Nat → Nat) : Prop where
  gl : lo ≤ G
  bl : ∀ i, i < n → lo ≤ bs i
  cell : ∀ i, i < n → w.cell? ⟨G, i, none⟩ = some (.slice (some ⟨bs i, 0, none⟩) (ln i) (ln i))
  row : ∀ i, i < n → Row w (bs i) (ln i) (F i)
  ap : ∀ i j, i < n → j < n → i ≠ j → bs i ≠ bs j
  far : ∀ i, i < n → bs i ≠ G
theorem Wf.kept {lo G n : Nat} {w w' : World} {bs ln : Nat → Nat} {F : Nat → Nat → Nat} {ks : List Nat} (h : Wf lo w G bs n ln F) (hk : Kept ks w w') (hl : ∀ x ∈ ks, x < lo ∨ (x ≠ G ∧ ∀ i, i < n → x ≠ bs i)) : Wf lo w' G bs n ln F :=
  ⟨h.gl, h.bl, fun i hi => cell_keep hk (h.cell i hi) (fun hm => by
      rcases hl _ hm with h1 | h1
      · have := h.gl; omega
      · exact h1.1 rfl), fun i hi => (h.row i hi).keep hk (fun hm => by
      rcases hl _ hm with h1 | h1
      · have := h.bl i hi; omega
      · exact h1.2 i hi rfl), h.ap, h.far⟩
theorem Wf.keep {lo G n : Nat} {w w' : World} {bs ln : Nat → Nat} {F : Nat → Nat → Nat} (h : Wf lo w G bs n ln F) (hk : Kept [] w w') : Wf lo w' G bs n ln F := h.kept hk (by simp)
theorem Wf.low {lo lo' G n : Nat} {w : World} {bs ln : Nat → Nat} {F : Nat → Nat → Nat} (h : Wf lo w G bs n ln F) (hl : lo' ≤ lo) : Wf lo' w G bs n ln F :=
  ⟨Nat.le_trans hl h.gl, fun i hi => Nat.le_trans hl (h.bl i hi), h.cell, h.row, h.ap, h.far⟩
theorem Wf.congr {lo G n : Nat} {w : World} {bs ln : Nat → Nat} {F F' : Nat → Nat → Nat} (h : Wf lo w G bs n ln F) (he : ∀ i, i < n → ∀ j, j < ln i → F i j = F' i j) : Wf lo w G bs n ln F' :=
  ⟨h.gl, h.bl, h.cell, fun i hi => (h.row i hi).congr (he i hi), h.ap, h.far⟩
theorem Wf.pl {lo G n : Nat} {w : World} {bs ln : Nat → Nat} {F : Nat → Nat → Nat} (h : Wf lo w G bs n ln F) : Pl w (some ⟨G, 0, none⟩) n ln F :=
  .inr ⟨G, 0, rfl, fun i hi => ⟨some ⟨bs i, 0, none⟩, ln i, by rw [Nat.zero_add]; exact h.cell i hi, (h.row i hi).rd⟩⟩
theorem Rn.wf {w0 w w' : World} {B x : Nat} {W H D : Int} {A : Bool} {k c : Nat} {V : Value} {po : Option Addr} {bs : Nat → Nat} {cs : Array Value} (h : Rn w0 w B W H D A k V bs) (hV : V = .slice po k c) (h0 : 0 < k) (hx : w.heap[x]? = some (.cells cs 31 (0, 0))) (hk : Kept [x] w w') : ∃ G, po = some ⟨G, 0, none⟩ ∧ Wf w0.heap.size w' G bs k (pz W H) (fun _ _ => 0) := by
  subst hV
  rcases h.row.2 with ⟨e, e2⟩ | ⟨g', cap, cur, e, hb, hg, -⟩
  · omega
  · simp at e
    obtain ⟨rfl, rfl⟩ := e
    have hgx : g' ≠ x := fun e => by rw [e, hx] at hg; simp at hg
    refine ⟨g', rfl, hb, h.lo, fun i hi => ?_, fun i hi => ?_, h.ap, fun i hi e => ?_⟩
    · refine cell_keep hk ?_ (by simpa using hgx)
      rw [h.row.cellAt i (by omega), fl_at _ _ _ hi]
    · have hr := h.each i hi
      refine hr.keep hk (fun hm => ?_)
      simp at hm
      unfold Row at hr
      rw [hm, hx] at hr
      simp at hr
    · have hr := h.each i hi
      unfold Row at hr
      rw [e, hg] at hr
      simp at hr

theorem nw_app {ops : Array Oper} {o : Oper} {a : Act} {w : World} {K : Act → World → Prop} {Q : Exit → Act → World → Prop} {E : Prop} (hg : o.guard = none) (s x : Operand) (t : Nat)
    (hop : o.op = Op.call { callee := Callee.builtin Builtin.append, args := #[s, x], argTypes := #[t, t] }) (v1 v2 v' : Value) (w' : World) (hs : a.eval s = v1) (hx : a.eval x = v2)
    (hr : Sem.run Tryd.prog (Builtin.append_ #[t, t] o.type #[v1, v2]) w = .ok v' w') (hK : K (a.put o.dst v') w') :
    if Region.wanted o (yielded ops a.tmps) = true then Oper.wp Tryd.prog o a w K Q else E := by
  have hw : Region.wanted o (yielded ops a.tmps) = true := by simp [Region.wanted, hg]
  rw [if_pos hw]
  unfold Oper.wp
  simp [execOp, hop, resolve, invoke, builtin, hs, hx, hr, Result.andThen]
  exact hK

/-- All that a round of the document's New goes by. -/
theorem rnew_facts {w2 wr u : World} {B b : Nat} {W H D : Int} {A : Bool} {k c : Nat} {po : Option Addr} {bs : Nat → Nat} {mkR : World → World} {r : Nat} (hR : Rn w2 wr B W H D A k (.slice po k c) bs) (hb : Sat w2 b W H D A) (hu : Kept [] wr u) (hm : ∀ w, Row (mkR w) w.heap.size r (fun _ => 0) ∧ Kept [] w (mkR w)) (hr : r = pz W H k) (hk : k ≤ 1000) :
    (u.cell? ⟨b, 0, none⟩ = some (.int .i64 W) ∧ u.cell? ⟨b, 1, none⟩ = some (.int .i64 H) ∧ u.cell? ⟨b, 2, none⟩ = some (.int .i64 D) ∧ u.cell? ⟨b, 3, none⟩ = some (.bool A)) ∧ u.cell? ⟨B, 4, none⟩ = some (.slice po k c) ∧ ∃ bo c' w7, Sem.run Tryd.prog (Builtin.append_ #[29, 29] 29 #[.slice po k c, .slice (some ⟨(mkR u).heap.size, 0, none⟩) 1 1]) ((mkR u).alloc (.cells #[.slice (some ⟨u.heap.size, 0, none⟩) r r] 68)) = .ok (.slice bo (k + 1) c') w7 ∧
      Hid ((mkR u).cell? ⟨b, 0, none⟩ = some (.int .i64 W) ∧ (mkR u).cell? ⟨b, 1, none⟩ = some (.int .i64 H) ∧ (mkR u).cell? ⟨b, 2, none⟩ = some (.int .i64 D) ∧ (mkR u).cell? ⟨b, 3, none⟩ = some (.bool A)) ∧ Hid (((mkR u).alloc (.cells #[.slice (some ⟨u.heap.size, 0, none⟩) r r] 68)).cell? ⟨b, 0, none⟩ = some (.int .i64 W) ∧ ((mkR u).alloc (.cells #[.slice (some ⟨u.heap.size, 0, none⟩) r r] 68)).cell? ⟨b, 1, none⟩ = some (.int .i64 H) ∧ ((mkR u).alloc (.cells #[.slice (some ⟨u.heap.size, 0, none⟩) r r] 68)).cell? ⟨b, 2, none⟩ = some (.int .i64 D) ∧ ((mkR u).alloc (.cells #[.slice (some ⟨u.heap.size, 0, none⟩) r r] 68)).cell? ⟨b, 3, none⟩ = some (.bool A)) ∧ Hid (w7.cell? ⟨b, 0, none⟩ = some (.int .i64 W) ∧ w7.cell? ⟨b, 1, none⟩ = some (.int .i64 H) ∧ w7.cell? ⟨b, 2, none⟩ = some (.int .i64 D) ∧ w7.cell? ⟨b, 3, none⟩ = some (.bool A)) ∧ Hid ((w7.setCell ⟨B, 4, none⟩ (.slice bo (k + 1) c')).cell? ⟨b, 0, none⟩ = some (.int .i64 W) ∧ (w7.setCell ⟨B, 4, none⟩ (.slice bo (k + 1) c')).cell? ⟨b, 1, none⟩ = some (.int .i64 H) ∧ (w7.setCell ⟨B, 4, none⟩ (.slice bo (k + 1) c')).cell? ⟨b, 2, none⟩ = some (.int .i64 D) ∧ (w7.setCell ⟨B, 4, none⟩ (.slice bo (k + 1) c')).cell? ⟨b, 3, none⟩ = some (.bool A)) ∧
      (mkR u).cell? ⟨B, 4, none⟩ = some (.slice po k c) ∧ ((mkR u).alloc (.cells #[.slice (some ⟨u.heap.size, 0, none⟩) r r] 68)).cell? ⟨B, 4, none⟩ = some (.slice po k c) ∧ w7.cell? ⟨B, 4, none⟩ = some (.slice po k c) ∧ w7.frozen? ⟨B, 4, none⟩ = false ∧
      Hid (Rn w2 (w7.setCell ⟨B, 4, none⟩ (.slice bo (k + 1) c')) B W H D A (k + 1) (.slice bo (k + 1) c') (fun i => if i = k then u.heap.size else bs i)) := by
  subst hr
  have hRu := hR.keep hu
  have hRm := hRu.keep (hm u).2
  obtain ⟨bo, c', w7, hrun, o7, k7, l7⟩ := one_app (mkR u) w2.heap.size (.slice po k c) k _ hRm.kept.size hRm.row (.slice (some ⟨u.heap.size, 0, none⟩) (pz W H k) (pz W H k)) rfl (by omega)
  have hN := hRm.next (hm u).1 hRu.kept.size (fun i hi e => by have h9 := (hRu.each i hi).lt; omega) o7 k7
  have ka := (Kept.refl [] (mkR u)).alloc (.cells #[.slice (some ⟨u.heap.size, 0, none⟩) (pz W H k) (pz W H k)] 68)
  have hRa := hRm.keep ka
  have k27 : Kept [] w2 w7 := hRm.kept.step k7 (fun x hx => .inr (hRm.row.lt x (by simpa using hx)).1)
  have s4 : ∀ {u : World}, Kept [] w2 u → u.cell? ⟨b, 0, none⟩ = some (.int .i64 W) ∧ u.cell? ⟨b, 1, none⟩ = some (.int .i64 H) ∧ u.cell? ⟨b, 2, none⟩ = some (.int .i64 D) ∧ u.cell? ⟨b, 3, none⟩ = some (.bool A) := fun hk => by
    obtain ⟨q0, q1, q2, q3⟩ := hb.keep hk (by simp)
    exact ⟨q0, q1, q2, q3⟩
  have b7 : w7.heap[B]? = some (.cells #[.int .i64 W, .int .i64 H, .int .i64 D, .bool A, .slice po k c] 31 (0, 0)) := k7.heap hRm.box (fun hm => (hRm.far B (by simpa using hm)).1 rfl)
  refine ⟨s4 hRu.kept, by simp [World.cell?, hRu.box], bo, c', w7, hrun, Hid.mk (s4 hRm.kept), Hid.mk (s4 hRa.kept), Hid.mk (s4 k27), Hid.mk (s4 hN.kept), by simp [World.cell?, hRm.box], by simp [World.cell?, hRa.box], by simp [World.cell?, b7], by simp [World.frozen?, b7], Hid.mk hN⟩

set_option maxHeartbeats 8000000 in
set_option maxRecDepth 1000000 in
theorem rnew_any (W H D : Int) (A : Bool) (w : World) :
    Calls Tryd.prog 74 #[shv W H D A] w fun e w' => (shE W H D A = 0 → ∃ G c bs, e = .returned (.tuple #[frv W H D A (some ⟨G, 0, none⟩) (np A) c, .int .i64 0]) ∧ Wf w.heap.size w' G bs (np A) (pz W H) (fun _ _ => 0) ∧ Kept [] w w') ∧ (shE W H D A ≠ 0 → e = .returned (.tuple #[frv 0 0 0 false none 0 0, .int .i64 61]) ∧ Kept [] w w') := by
  have C := Hid.mk (fun u => rshaped_any W H D A u)
  have hk0 := Hid.mk ((alloc_kept w (.cells #[.int .i64 W, .int .i64 H, .int .i64 D, .bool A] 24)).trans (alloc_kept _ (.cells #[.int .i64 0, .int .i64 0, .int .i64 0, .bool false, .slice none 0 0] 31)))
  have S0 := (Sat.new w W H D A 24).keep (alloc_kept _ (.cells #[.int .i64 0, .int .i64 0, .int .i64 0, .bool false, .slice none 0 0] 31)) (by simp)
  have hres : ((w.alloc (.cells #[.int .i64 W, .int .i64 H, .int .i64 D, .bool A] 24)).alloc (.cells #[.int .i64 0, .int .i64 0, .int .i64 0, .bool false, .slice none 0 0] 31)).heap[w.heap.size + 1]? = some (.cells #[.int .i64 0, .int .i64 0, .int .i64 0, .bool false, .slice none 0 0] 31 (0, 0)) := by
    have := heap_alloc_new (w.alloc (.cells #[.int .i64 W, .int .i64 H, .int .i64 D, .bool A] 24)) (.cells #[.int .i64 0, .int .i64 0, .int .i64 0, .bool false, .slice none 0 0] 31)
    rwa [World.size_alloc] at this
  obtain ⟨w1, ew1⟩ : ∃ w1, w1 = (w.alloc (.cells #[.int .i64 W, .int .i64 H, .int .i64 D, .bool A] 24)).alloc (.cells #[.int .i64 0, .int .i64 0, .int .i64 0, .bool false, .slice none 0 0] 31) := ⟨_, rfl⟩
  rw [← ew1] at hk0 S0 hres
  have HS := Hid.mk S0
  have HR := Hid.mk hres
  have HW := Hid.mk ew1
  clear S0 hres ew1
  rcases shE_two W H D A with ⟨e1, h1⟩ | ⟨e1, h1⟩
  · rw [e1] at C ⊢
    have CC := Hid.mk (fun u => count_any W H D A u)
    have CW := Hid.mk (fun u (p : Nat) => wide_any W H D p A u (by have := h1.1; omega) h1.1.2)
    have HP := Hid.mk (fun p => wpH p h1.1.1 h1.1.2 h1.2.1.1 h1.2.1.2)
    have hn4 := np_hi A
    have hn1 := np_lo A
    obtain ⟨n, en⟩ : ∃ n : Nat, n = np A := ⟨_, rfl⟩
    rw [← en] at CC hn4 hn1 ⊢
    clear en e1 h1
    go_enter Tryd.func74, Tryd.ntmps74
    go_wp2_with (fail)
    refine (C.out _).mono ?_
    rintro e w2 ⟨rfl, hk2⟩
    rw [← HW.out] at hk2
    have hk02 := Hid.mk (hk0.out.trans hk2)
    obtain ⟨p0, p1, p2, p3⟩ := HS.out.keep hk2 (by simp)
    have HS2 : Hid (Sat w2 w.heap.size W H D A) := Hid.mk ⟨p0, p1, p2, p3⟩
    have HR2 := Hid.mk (hk2.heap HR.out (by simp))
    obtain ⟨b, eb⟩ : ∃ b, w.heap.size = b := ⟨_, rfl⟩
    have HEB := Hid.mk eb
    rw [eb] at p0 p1 p2 p3 HS2 HR2 ⊢
    clear hk2 HS HR HW hk0 C eb
    go_upto_region 5 with (fail)
    obtain ⟨w3, ew3⟩ : ∃ w3, w2.alloc (.cells #[.int .i64 W, .int .i64 H, .int .i64 D, .bool A, .slice none 0 0] 31) = w3 := ⟨_, rfl⟩
    have R3 : Hid (Rn w2 w3 w2.heap.size W H D A 0 (.slice none 0 0) (fun _ => 0)) := Hid.mk (by
      rw [← ew3]
      exact ⟨heap_alloc_new _ _, ⟨by simp [fl], .inl ⟨rfl, rfl⟩⟩, fun i hi => by omega, Nat.le_refl _, alloc_kept _ _, fun i hi => by omega, fun i j hi => by omega⟩)
    rw [ew3]
    obtain ⟨B, eB⟩ : ∃ B, w2.heap.size = B := ⟨_, rfl⟩
    rw [eB] at R3 ⊢
    clear ew3 eB p0 p1 p2 p3
    go_wp2
    go_loopw [6] (fun i wr => ∃ (k : Nat) (V : Value) (bs : Nat → Nat), k ≤ n ∧ i = .int .i64 (k : Int) ∧ Rn w2 wr B W H D A k V bs) (fun i _ => n - (intOf i).toNat)
    case atStart => exact ⟨0, _, _, by omega, rfl, R3.out⟩
    case round =>
      obtain ⟨k, V, bs, hk, rfl, hR⟩ := hrel
      obtain ⟨q0, q1, q2, q3⟩ := HS2.out.keep hR.kept (by simp)
      have HR0 := Hid.mk hR
      clear hR
      go_wp2_with (fail)
      refine (CC.out _).mono ?_
      rintro e wv ⟨rfl, hkv⟩
      have hRv := HR0.out.keep hkv
      have HRn0 := Hid.mk hRv
      obtain ⟨q0', q1', q2', q3'⟩ := HS2.out.keep hRv.kept (by simp)
      clear q0 q1 q2 q3 HR0 hkv hRv
      by_cases hlt : k < n
      · have ix : (k : Int) < (n : Int) := by omega
        obtain ⟨po, c, eV⟩ := nw_row HRn0.out.row
        subst eV
        have HRn := HRn0
        have d4 : wv.cell? ⟨B, 4, none⟩ = some (.slice po k c) := by simp [World.cell?, HRn.out.box]
        have b1 := HP.out (k : Int)
        have epz : pz W H k = (wp W (k : Int) * H).toNat := rfl
        have CW := Hid.mk (fun u (p : Nat) => CW.out u p)
        have CWk := Hid.mk (fun u => CW.out u k)
        obtain ⟨x, ex⟩ : ∃ x, x = wp W k := ⟨_, rfl⟩
        rw [← ex] at b1 epz CWk
        obtain ⟨mkR, hmk, hmw⟩ := make_row (pz W H k) (x * H) (by rw [epz]; omega) (by rw [epz]; omega)
        have HMW := Hid.mk hmw
        obtain ⟨r, er⟩ : ∃ r, r = pz W H k := ⟨_, rfl⟩
        rw [← er] at hmk HMW
        have ER := Hid.mk er
        have hwr : IntKind.i64.wrap (x * H) = x * H := wrap_i (by omega) (by omega)
        have ED : Hid (wv.drew.cell? ⟨b, 0, none⟩ = some (.int .i64 W) ∧ wv.drew.cell? ⟨b, 1, none⟩ = some (.int .i64 H) ∧ wv.drew.cell? ⟨b, 2, none⟩ = some (.int .i64 D) ∧ wv.drew.cell? ⟨b, 3, none⟩ = some (.bool A)) := Hid.mk ⟨q0', q1', q2', q3'⟩
        clear ex hmw epz er b1 q0' q1' q2' q3' HRn0
        go_wp2_with (fail)
        refine wp_region_held_drew (S := fun u => u.cell? ⟨b, 0, none⟩ = some (.int .i64 W) ∧ u.cell? ⟨b, 1, none⟩ = some (.int .i64 H) ∧ u.cell? ⟨b, 2, none⟩ = some (.int .i64 D) ∧ u.cell? ⟨b, 3, none⟩ = some (.bool A)) (by kernel_rfl) ED.out (fun hHeld => ?_)
        refine wpAnyH_take (i := 0) (v := ?_) rfl (by kernel_rfl) (by kernel_rfl) (by kernel_rfl) (fun _ _ _ h => h) (Or.inl ⟨by rfl, ?_⟩) (by assumption) ?_
        rotate_left
        · intro w hSw
          try dsimp only at hSw
          go_simp
          all_goals with_reducible rfl
        simp only [Act.put, List.getElem_toArray, List.getElem_cons_zero, List.setIfInBounds_toArray, List.set_cons_zero, List.set_cons_succ]
        refine wpAnyH_take (i := 2) (v := ?_) rfl (by kernel_rfl) (by kernel_rfl) (by kernel_rfl) (fun _ _ _ h => h) (Or.inl ⟨by rfl, ?_⟩) (by assumption) ?_
        rotate_left
        · intro w hSw
          try dsimp only at hSw
          go_simp
          all_goals with_reducible rfl
        simp only [Act.put, List.getElem_toArray, List.getElem_cons_zero, List.getElem_cons_succ, List.setIfInBounds_toArray, List.set_cons_zero, List.set_cons_succ]
        refine wpAnyH_take (i := 3) (v := ?_) rfl (by kernel_rfl) (by kernel_rfl) (by kernel_rfl) (fun _ _ _ h => h) (Or.inl ⟨by rfl, ?_⟩) (by assumption) ?_
        rotate_left
        · intro w hSw
          try dsimp only at hSw
          go_simp
          all_goals with_reducible rfl
        simp only [Act.put, List.getElem_toArray, List.getElem_cons_zero, List.getElem_cons_succ, List.setIfInBounds_toArray, List.set_cons_zero, List.set_cons_succ]
        refine wpAnyH_take (i := 5) (v := ?_) rfl (by kernel_rfl) (by kernel_rfl) (by kernel_rfl) (fun _ _ _ h => h) (Or.inl ⟨by rfl, ?_⟩) (by assumption) ?_
        rotate_left
        · intro w hSw
          try dsimp only at hSw
          go_simp
          all_goals with_reducible rfl
        simp only [Act.put, List.getElem_toArray, List.getElem_cons_zero, List.getElem_cons_succ, List.setIfInBounds_toArray, List.set_cons_zero, List.set_cons_succ]
        refine wpAnyH_take (i := 6) (v := ?_) rfl (by kernel_rfl) (by kernel_rfl) (by kernel_rfl) (fun _ _ _ h => h) (Or.inl ⟨by rfl, ?_⟩) (by assumption) ?_
        rotate_left
        · intro w hSw
          try dsimp only at hSw
          go_simp
          all_goals with_reducible rfl
        simp only [Act.put, List.getElem_toArray, List.getElem_cons_zero, List.getElem_cons_succ, List.setIfInBounds_toArray, List.set_cons_zero, List.set_cons_succ]
        refine wpAnyH_ready (rs := [1, 4]) (by kernel_rfl) (by simp) ?_
        refine (AllReadyH.cons rfl (fun K9 hK9 => ?_) (AllReadyH.cons rfl (fun K9 hK9 => ?_) AllReadyH.nil))
        · go_simp
          refine hK9.out _ _ ED.out (fun hHeld2 => ?_)
          clear hK9 K9
          refine wpAnyH_ready (rs := [4]) (by kernel_rfl) (by simp) ?_
          refine (AllReadyH.cons rfl (fun K9 hK9 => ?_) AllReadyH.nil)
          go_simp
          go_at_call 55
          refine (CWk.out _).mono ?_
          rintro e w5 ⟨rfl, hk5⟩
          obtain ⟨sU, v4, bo, c', w7, hrun, SM, SA, S7, SS, m4, a4, x4, f4, RN⟩ := rnew_facts HRn.out HS2.out (u := w5) (((Kept.refl [] wv).drew).trans hk5) HMW.out ER.out (by omega)
          refine hK9.out _ _ sU (fun hHeld2 => ?_)
          clear hK9 K9
          refine wpAnyH_take (i := 7) (v := ?_) rfl (by kernel_rfl) (by kernel_rfl) (by kernel_rfl) (fun _ _ _ h => h) (Or.inl ⟨by rfl, ?_⟩) (by assumption) ?_
          rotate_left
          · intro w hSw
            try dsimp only at hSw
            go_simp
            all_goals with_reducible rfl
          simp only [Act.put, List.getElem_toArray, List.getElem_cons_zero, List.getElem_cons_succ, List.setIfInBounds_toArray, List.set_cons_zero, List.set_cons_succ]
          refine wpAnyH_ready (rs := [8]) (by kernel_rfl) (by simp) ?_
          refine (AllReadyH.cons rfl (fun K9 hK9 => ?_) AllReadyH.nil)
          go_simp
          refine hK9.out _ _ SM.out (fun hHeld2 => ?_)
          clear hK9 K9
          refine wpAnyH_ready (rs := [9]) (by kernel_rfl) (by simp) ?_
          refine (AllReadyH.cons rfl (fun K9 hK9 => ?_) AllReadyH.nil)
          go_simp
          refine hK9.out _ _ SA.out (fun hHeld2 => ?_)
          clear hK9 K9
          refine wpAnyH_ready (rs := [10]) (by kernel_rfl) (by simp) ?_
          refine (AllReadyH.cons rfl (fun K9 hK9 => ?_) AllReadyH.nil)
          refine nw_app rfl _ _ 29 rfl _ _ _ _ rfl rfl hrun ?_
          simp only [Act.put, List.getElem_toArray, List.getElem_cons_zero, List.getElem_cons_succ, List.setIfInBounds_toArray, List.set_cons_zero, List.set_cons_succ]
          refine hK9.out _ _ S7.out (fun hHeld2 => ?_)
          clear hK9 K9
          refine wpAnyH_take (i := 11) (v := ?_) rfl (by kernel_rfl) (by kernel_rfl) (by kernel_rfl) (fun _ _ _ h => h) (Or.inl ⟨by rfl, ?_⟩) (by assumption) ?_
          rotate_left
          · intro w hSw
            try dsimp only at hSw
            go_simp
            all_goals with_reducible rfl
          simp only [Act.put, List.getElem_toArray, List.getElem_cons_zero, List.getElem_cons_succ, List.setIfInBounds_toArray, List.set_cons_zero, List.set_cons_succ]
          refine wpAnyH_ready (rs := [12]) (by kernel_rfl) (by simp) ?_
          refine (AllReadyH.cons rfl (fun K9 hK9 => ?_) AllReadyH.nil)
          go_simp
          refine hK9.out _ _ SS.out (fun hHeld2 => ?_)
          clear hK9 K9
          refine wpAnyH_done (by kernel_rfl) ?_ _
          clear hrun v4 m4 a4 x4 f4 SM SA S7 SS sU hHeld hHeld2
          go_wp2
          exact ⟨⟨k + 1, _, _, by omega, by go_num, RN.out⟩, by simp [intOf]; omega⟩
        · go_simp
          go_at_call 55
          refine (CWk.out _).mono ?_
          rintro e w5 ⟨rfl, hk5⟩
          obtain ⟨sU, v4, bo, c', w7, hrun, SM, SA, S7, SS, m4, a4, x4, f4, RN⟩ := rnew_facts HRn.out HS2.out (u := w5) (((Kept.refl [] wv).drew).trans hk5) HMW.out ER.out (by omega)
          refine hK9.out _ _ sU (fun hHeld2 => ?_)
          clear hK9 K9
          refine wpAnyH_take (i := 7) (v := ?_) rfl (by kernel_rfl) (by kernel_rfl) (by kernel_rfl) (fun _ _ _ h => h) (Or.inl ⟨by rfl, ?_⟩) (by assumption) ?_
          rotate_left
          · intro w hSw
            try dsimp only at hSw
            go_simp
            all_goals with_reducible rfl
          simp only [Act.put, List.getElem_toArray, List.getElem_cons_zero, List.getElem_cons_succ, List.setIfInBounds_toArray, List.set_cons_zero, List.set_cons_succ]
          refine wpAnyH_ready (rs := [1, 8]) (by kernel_rfl) (by simp) ?_
          refine (AllReadyH.cons rfl (fun K9 hK9 => ?_) (AllReadyH.cons rfl (fun K9 hK9 => ?_) AllReadyH.nil))
          · go_simp
            refine hK9.out _ _ sU (fun hHeld2 => ?_)
            clear hK9 K9
            refine wpAnyH_ready (rs := [8]) (by kernel_rfl) (by simp) ?_
            refine (AllReadyH.cons rfl (fun K9 hK9 => ?_) AllReadyH.nil)
            go_simp
            refine hK9.out _ _ SM.out (fun hHeld2 => ?_)
            clear hK9 K9
            refine wpAnyH_ready (rs := [9]) (by kernel_rfl) (by simp) ?_
            refine (AllReadyH.cons rfl (fun K9 hK9 => ?_) AllReadyH.nil)
            go_simp
            refine hK9.out _ _ SA.out (fun hHeld2 => ?_)
            clear hK9 K9
            refine wpAnyH_ready (rs := [10]) (by kernel_rfl) (by simp) ?_
            refine (AllReadyH.cons rfl (fun K9 hK9 => ?_) AllReadyH.nil)
            refine nw_app rfl _ _ 29 rfl _ _ _ _ rfl rfl hrun ?_
            simp only [Act.put, List.getElem_toArray, List.getElem_cons_zero, List.getElem_cons_succ, List.setIfInBounds_toArray, List.set_cons_zero, List.set_cons_succ]
            refine hK9.out _ _ S7.out (fun hHeld2 => ?_)
            clear hK9 K9
            refine wpAnyH_take (i := 11) (v := ?_) rfl (by kernel_rfl) (by kernel_rfl) (by kernel_rfl) (fun _ _ _ h => h) (Or.inl ⟨by rfl, ?_⟩) (by assumption) ?_
            rotate_left
            · intro w hSw
              try dsimp only at hSw
              go_simp
              all_goals with_reducible rfl
            simp only [Act.put, List.getElem_toArray, List.getElem_cons_zero, List.getElem_cons_succ, List.setIfInBounds_toArray, List.set_cons_zero, List.set_cons_succ]
            refine wpAnyH_ready (rs := [12]) (by kernel_rfl) (by simp) ?_
            refine (AllReadyH.cons rfl (fun K9 hK9 => ?_) AllReadyH.nil)
            go_simp
            refine hK9.out _ _ SS.out (fun hHeld2 => ?_)
            clear hK9 K9
            refine wpAnyH_done (by kernel_rfl) ?_ _
            clear hrun v4 m4 a4 x4 f4 SM SA S7 SS sU hHeld hHeld2
            go_wp2
            exact ⟨⟨k + 1, _, _, by omega, by go_num, RN.out⟩, by simp [intOf]; omega⟩
          · go_simp
            refine hK9.out _ _ SM.out (fun hHeld2 => ?_)
            clear hK9 K9
            refine wpAnyH_ready (rs := [1, 9]) (by kernel_rfl) (by simp) ?_
            refine (AllReadyH.cons rfl (fun K9 hK9 => ?_) (AllReadyH.cons rfl (fun K9 hK9 => ?_) AllReadyH.nil))
            · go_simp
              refine hK9.out _ _ SM.out (fun hHeld2 => ?_)
              clear hK9 K9
              refine wpAnyH_ready (rs := [9]) (by kernel_rfl) (by simp) ?_
              refine (AllReadyH.cons rfl (fun K9 hK9 => ?_) AllReadyH.nil)
              go_simp
              refine hK9.out _ _ SA.out (fun hHeld2 => ?_)
              clear hK9 K9
              refine wpAnyH_ready (rs := [10]) (by kernel_rfl) (by simp) ?_
              refine (AllReadyH.cons rfl (fun K9 hK9 => ?_) AllReadyH.nil)
              refine nw_app rfl _ _ 29 rfl _ _ _ _ rfl rfl hrun ?_
              simp only [Act.put, List.getElem_toArray, List.getElem_cons_zero, List.getElem_cons_succ, List.setIfInBounds_toArray, List.set_cons_zero, List.set_cons_succ]
              refine hK9.out _ _ S7.out (fun hHeld2 => ?_)
              clear hK9 K9
              refine wpAnyH_take (i := 11) (v := ?_) rfl (by kernel_rfl) (by kernel_rfl) (by kernel_rfl) (fun _ _ _ h => h) (Or.inl ⟨by rfl, ?_⟩) (by assumption) ?_
              rotate_left
              · intro w hSw
                try dsimp only at hSw
                go_simp
                all_goals with_reducible rfl
              simp only [Act.put, List.getElem_toArray, List.getElem_cons_zero, List.getElem_cons_succ, List.setIfInBounds_toArray, List.set_cons_zero, List.set_cons_succ]
              refine wpAnyH_ready (rs := [12]) (by kernel_rfl) (by simp) ?_
              refine (AllReadyH.cons rfl (fun K9 hK9 => ?_) AllReadyH.nil)
              go_simp
              refine hK9.out _ _ SS.out (fun hHeld2 => ?_)
              clear hK9 K9
              refine wpAnyH_done (by kernel_rfl) ?_ _
              clear hrun v4 m4 a4 x4 f4 SM SA S7 SS sU hHeld hHeld2
              go_wp2
              exact ⟨⟨k + 1, _, _, by omega, by go_num, RN.out⟩, by simp [intOf]; omega⟩
            · go_simp
              refine hK9.out _ _ SA.out (fun hHeld2 => ?_)
              clear hK9 K9
              refine wpAnyH_ready (rs := [1]) (by kernel_rfl) (by simp) ?_
              refine (AllReadyH.cons rfl (fun K9 hK9 => ?_) AllReadyH.nil)
              go_simp
              refine hK9.out _ _ SA.out (fun hHeld2 => ?_)
              clear hK9 K9
              refine wpAnyH_ready (rs := [10]) (by kernel_rfl) (by simp) ?_
              refine (AllReadyH.cons rfl (fun K9 hK9 => ?_) AllReadyH.nil)
              refine nw_app rfl _ _ 29 rfl _ _ _ _ rfl rfl hrun ?_
              simp only [Act.put, List.getElem_toArray, List.getElem_cons_zero, List.getElem_cons_succ, List.setIfInBounds_toArray, List.set_cons_zero, List.set_cons_succ]
              refine hK9.out _ _ S7.out (fun hHeld2 => ?_)
              clear hK9 K9
              refine wpAnyH_take (i := 11) (v := ?_) rfl (by kernel_rfl) (by kernel_rfl) (by kernel_rfl) (fun _ _ _ h => h) (Or.inl ⟨by rfl, ?_⟩) (by assumption) ?_
              rotate_left
              · intro w hSw
                try dsimp only at hSw
                go_simp
                all_goals with_reducible rfl
              simp only [Act.put, List.getElem_toArray, List.getElem_cons_zero, List.getElem_cons_succ, List.setIfInBounds_toArray, List.set_cons_zero, List.set_cons_succ]
              refine wpAnyH_ready (rs := [12]) (by kernel_rfl) (by simp) ?_
              refine (AllReadyH.cons rfl (fun K9 hK9 => ?_) AllReadyH.nil)
              go_simp
              refine hK9.out _ _ SS.out (fun hHeld2 => ?_)
              clear hK9 K9
              refine wpAnyH_done (by kernel_rfl) ?_ _
              clear hrun v4 m4 a4 x4 f4 SM SA S7 SS sU hHeld hHeld2
              go_wp2
              exact ⟨⟨k + 1, _, _, by omega, by go_num, RN.out⟩, by simp [intOf]; omega⟩
      · obtain rfl : n = k := by omega
        have hR2 := HRn0.out.kept.heap HR2.out (by simp)
        obtain ⟨⟨z0, z1, z2, z3, z4⟩, f0, f1, f2, f3, f4⟩ := five hR2
        obtain ⟨⟨c0, c1, c2, c3, c4⟩, -⟩ := five HRn0.out.box
        obtain ⟨po, c, eV⟩ := nw_row HRn0.out.row
        subst eV
        have HRR := Hid.mk hR2
        clear hR2 q0' q1' q2' q3'
        go_wp2
        have s5 := set5 (.int .i64 W) (.int .i64 H) (.int .i64 D) (.bool A) (.slice po n c) HRR.out
        obtain ⟨G, rfl, hwf⟩ := HRn0.out.wf rfl (by omega) HRR.out s5.2
        refine bodyPost_ret (v := .tuple #[frv W H D A (some ⟨G, 0, none⟩) n c, .int .i64 0]) ?_ rfl ⟨fun _ => ⟨G, c, bs, rfl, hwf.low hk02.out.size, ?_⟩, fun h => absurd rfl h⟩
        · exact results_two rfl _ _ (b + 1) 31 _ (0, 0) _ _ rfl s5.1 Tryd.underlying31 Tryd.info38 rfl
        · exact (hk02.out.trans HRn0.out.kept).step s5.2 (fun x hx => by simp at hx; subst hx; exact .inr (by have := HEB.out; omega))
  · rw [e1] at C ⊢
    clear e1 h1
    go_enter Tryd.func74, Tryd.ntmps74
    go_wp2_with (first | (go_at_call 39; refine (C.out _).mono ?_; rintro e w2 ⟨rfl, hk2⟩; rw [← HW.out] at hk2; have hk02 := Hid.mk (hk0.out.trans hk2); obtain ⟨⟨z0, z1, z2, z3, z4⟩, f0, f1, f2, f3, f4⟩ := five (hk2.heap HR.out (by simp)); have HR2 := Hid.mk (hk2.heap HR.out (by simp))))
    have s5 := set5 (.int .i64 0) (.int .i64 0) (.int .i64 0) (.bool false) (.slice none 0 0) HR2.out
    refine bodyPost_ret (v := .tuple #[frv 0 0 0 false none 0 0, .int .i64 61]) ?_ rfl ⟨fun h => absurd h (by decide), fun _ => ⟨rfl, ?_⟩⟩
    · exact results_two rfl _ _ (w.heap.size + 1) 31 _ (0, 0) _ _ rfl s5.1 Tryd.underlying31 Tryd.info38 rfl
    · exact hk02.out.step s5.2 (fun x hx => by simp at hx; subst hx; exact .inr (by omega))
end Go.Proofs.YtodlkpcbkilglaaDoor

namespace Go.Proofs.YtodlkpcbkilglaaDoor
open Go.RowKit Go.Shelf

theorem most_any (D : Int) (w : World) : Calls Tryd.prog 75 #[.int .i64 D] w fun e w' => e = .returned (.int .i64 (mx D : Int)) ∧ w' = w := by
  unfold mx
  by_cases h : D = 10
  · rw [if_pos h]
    subst h
    go_enter Tryd.func75, Tryd.ntmps75
    go_wp2
    go_ret
    exact ⟨rfl, rfl⟩
  · rw [if_neg h]
    go_enter Tryd.func75, Tryd.ntmps75
    go_wp2
    go_ret
    exact ⟨rfl, rfl⟩
theorem ctL_in (W : Int) (h : Nat) (h1 : 1 ≤ h) (p : Nat) : ∀ r, r ≤ h → ctL (plL W h) (p * h + r) = ctL (plL W h) (p * h) + r * (2 * wdN W p) := by
  intro r
  induction r with
  | zero => intro _; simp
  | succ r ih =>
    intro hr
    rw [← Nat.add_assoc, ctL, ih (by omega)]
    have e : plL W h (p * h + r) = 2 * wdN W p := by
      unfold plL
      rw [Nat.add_comm, Nat.add_mul_div_right _ _ h1, Nat.div_eq_of_lt (by omega), Nat.zero_add]
    rw [e, Nat.add_mul]
    omega
theorem pz_wd {W D : Int} {A : Bool} {h : Nat} (hs : Shp W (h : Int) D A) (p : Nat) : pz W (h : Int) p = wdN W p * h := by
  obtain ⟨_, _, h3⟩ := wdN_ok hs p
  unfold pz
  rw [← h3, ← Int.natCast_mul]
  rfl
/-- Planar bytes, plane by plane. -/
theorem pn_next {W D : Int} {A : Bool} {h : Nat} (hs : Shp W (h : Int) D A) (p : Nat) : ctL (plL W h) ((p + 1) * h) = ctL (plL W h) (p * h) + 2 * pz W (h : Int) p := by
  have h1 : 1 ≤ h := by have := hs.2.1; omega
  rw [Nat.add_mul, Nat.one_mul, ctL_in W h h1 p h (Nat.le_refl _), pz_wd hs, Nat.mul_comm h, Nat.mul_assoc]
theorem pn_at {W D : Int} {A : Bool} {h : Nat} (hs : Shp W (h : Int) D A) (fb : Nat → Nat) (p i : Nat) (hi : i < pz W (h : Int) p) : pnF W h fb p i = fb (ctL (plL W h) (p * h) + 2 * i) + 256 * fb (ctL (plL W h) (p * h) + 2 * i + 1) := by
  have h1 : 1 ≤ h := by have := hs.2.1; omega
  have hw := (wdN_ok hs p).1
  rw [pz_wd hs] at hi
  have hr : i / wdN W p < h := Nat.div_lt_of_lt_mul hi
  unfold pnF
  rw [ctL_in W h h1 p _ (by omega)]
  have e := Nat.div_add_mod i (wdN W p)
  have e2 : i / wdN W p * (2 * wdN W p) + 2 * (i % wdN W p) = 2 * i := by
    rw [Nat.mul_comm (i / wdN W p), Nat.mul_assoc, ← Nat.mul_add, e]
  rw [show ctL (plL W h) (p * h) + i / wdN W p * (2 * wdN W p) + 2 * (i % wdN W p) = ctL (plL W h) (p * h) + 2 * i by omega, show ctL (plL W h) (p * h) + i / wdN W p * (2 * wdN W p) + (2 * (i % wdN W p) + 1) = ctL (plL W h) (p * h) + 2 * i + 1 by omega]
/-- A frame that is being read: its box, the answer's box, the shape's. -/
structure Uq (w0 wr : World) (P0 P1 B G : Nat) (bs : Nat → Nat) (W H D : Int) (A : Bool) (c : Nat) (F : Nat → Nat → Nat) : Prop where
  wf : Wf w0.heap.size wr G bs (np A) (pz W H) F
  box : wr.heap[B]? = some (.cells #[.int .i64 W, .int .i64 H, .int .i64 D, .bool A, .slice (some ⟨G, 0, none⟩) (np A) c] 31 (0, 0))
  res : wr.heap[P1]? = some (.cells #[.int .i64 0, .int .i64 0, .int .i64 0, .bool false, .slice none 0 0] 31 (0, 0))
  sat : Sat wr P0 W H D A
  p0 : P0 < w0.heap.size
  p1 : P1 < w0.heap.size
  bw : w0.heap.size ≤ B
  kept : Kept [] w0 wr
theorem Uq.keep {w0 wr wx : World} {P0 P1 B G c : Nat} {bs : Nat → Nat} {W H D : Int} {A : Bool} {F : Nat → Nat → Nat} (h : Uq w0 wr P0 P1 B G bs W H D A c F) (hk : Kept [] wr wx) : Uq w0 wx P0 P1 B G bs W H D A c F :=
  ⟨h.wf.keep hk, hk.heap h.box (by simp), hk.heap h.res (by simp), h.sat.keep hk (by simp), h.p0, h.p1, h.bw, h.kept.trans hk⟩
theorem Uq.congr {w0 wr : World} {P0 P1 B G c : Nat} {bs : Nat → Nat} {W H D : Int} {A : Bool} {F F' : Nat → Nat → Nat} (h : Uq w0 wr P0 P1 B G bs W H D A c F) (he : ∀ i, i < np A → ∀ j, j < pz W H i → F i j = F' i j) : Uq w0 wr P0 P1 B G bs W H D A c F' :=
  ⟨h.wf.congr he, h.box, h.res, h.sat, h.p0, h.p1, h.bw, h.kept⟩
theorem Uq.set {w0 wr : World} {P0 P1 B G c p j v : Nat} {bs : Nat → Nat} {W H D : Int} {A : Bool} {F : Nat → Nat → Nat} (h : Uq w0 wr P0 P1 B G bs W H D A c F) (hp : p < np A) (hj : j < pz W H p) :
    Uq w0 (wr.setCell ⟨bs p, j, none⟩ (.int .u16 (v : Int))) P0 P1 B G bs W H D A c (fun q i => if q = p ∧ i = j then v else F q i) := by
  have hk : Kept [bs p] wr (wr.setCell ⟨bs p, j, none⟩ (.int .u16 (v : Int))) := (Kept.refl _ _).setCell (p := ⟨bs p, j, none⟩) (by simp) _
  have hr := h.wf.row p hp
  have hbB : ∀ x (cs : Array Value) (t : TypeId) m, wr.heap[x]? = some (.cells cs t m) → t ≠ 70 → x ≠ bs p := fun x cs t m hx ht e => by
    unfold Row at hr
    rw [← e, hx] at hr
    simp at hr
    exact ht hr.2.1
  refine ⟨⟨h.wf.gl, h.wf.bl, fun i hi => cell_keep hk (h.wf.cell i hi) (by simpa using fun e => h.wf.far p hp e.symm), fun i hi => ?_, h.wf.ap, h.wf.far⟩, hk.heap h.box (by simpa using hbB _ _ _ _ h.box (by decide)), hk.heap h.res (by simpa using hbB _ _ _ _ h.res (by decide)), h.sat.keep hk (by have := h.wf.bl p hp; have := h.p0; simp; omega), h.p0, h.p1, h.bw, h.kept.step hk (fun x hx => by simp at hx; subst hx; exact .inr (h.wf.bl p hp))⟩
  by_cases e : i = p
  · subst e
    exact (hr.set hj).congr (fun t _ => by simp)
  · exact ((h.wf.row i hi).keep hk (by simpa using h.wf.ap i p hi hp e)).congr (fun t _ => by simp [e])
end Go.Proofs.YtodlkpcbkilglaaDoor

namespace Go.Proofs.YtodlkpcbkilglaaDoor
open Go.RowKit Go.Shelf
attribute [local go_sem] Oper.semAt_some

set_option maxHeartbeats 8000000 in
set_option maxRecDepth 1000000 in
theorem rupl_no (W H D : Int) (A : Bool) (bo : Option Addr) (M cb : Nat) (Z E : Int) (w : World) (CZ : ∀ u, Calls Tryd.prog 11 #[shv W H D A] u fun e w' => e = .returned (.tuple #[.int .i64 Z, .int .i64 E]) ∧ Kept [] u w') (hno : E ≠ 0 ∨ (M : Int) ≠ Z) :
    Calls Tryd.prog 49 #[shv W H D A, .slice bo M cb] w fun e w' => e = .returned (.tuple #[frv 0 0 0 false none 0 0, .int .i64 (if E = 0 then 72 else E)]) ∧ Kept [] w w' := by
  have CZ := Hid.mk CZ
  have hS0 := Sat.new w W H D A 24
  have hk1 := alloc_kept w (.cells #[.int .i64 W, .int .i64 H, .int .i64 D, .bool A] 24)
  have hk2 := alloc_kept (w.alloc (.cells #[.int .i64 W, .int .i64 H, .int .i64 D, .bool A] 24)) (.cells #[.int .i64 0, .int .i64 0, .int .i64 0, .bool false, .slice none 0 0] 31)
  have hF := heap_alloc_new (w.alloc (.cells #[.int .i64 W, .int .i64 H, .int .i64 D, .bool A] 24)) (.cells #[.int .i64 0, .int .i64 0, .int .i64 0, .bool false, .slice none 0 0] 31)
  rw [World.size_alloc] at hF
  have hS := hS0.keep hk2 (by simp)
  have hk0 := hk1.trans hk2
  obtain ⟨wa, ewa⟩ : ∃ wa, wa = (w.alloc (.cells #[.int .i64 W, .int .i64 H, .int .i64 D, .bool A] 24)).alloc (.cells #[.int .i64 0, .int .i64 0, .int .i64 0, .bool false, .slice none 0 0] 31) := ⟨_, rfl⟩
  rw [← ewa] at hS hk0 hF
  obtain ⟨q0, q1, q2, q3⟩ := hS
  obtain ⟨b1, eb1⟩ : ∃ b1, b1 = w.heap.size + 1 := ⟨_, rfl⟩
  rw [← eb1] at hF
  have HB := Hid.mk (And.intro hF (And.intro eb1 hk0))
  clear hk0 hk1 hk2 hS0 hF
  go_enter Tryd.func49, Tryd.ntmps49
  go_wp2_with (fail)
  rw [← ewa, ← eb1]
  clear eb1 ewa
  refine (CZ.out _).mono ?_
  rintro e w2 ⟨rfl, hk2⟩
  have g6 := hk2.heap HB.out.1 (by simp)
  obtain ⟨⟨r0, r1, r2, r3, r4⟩, s0, s1, s2, s3, s4⟩ := five g6
  have HG := Hid.mk (And.intro g6 hk2)
  clear g6 hk2 q0 q1 q2 q3 CZ
  by_cases hE : E = 0
  · subst hE
    have hm : (M : Int) ≠ Z := by simpa using hno
    have hm2 : ((M : Int) != Z) = true := by simpa using hm
    have hm3 : ¬ (M : Int) = Z := hm
    clear hno
    go_wp2
    obtain ⟨g6, hk2⟩ := HG.out
    have s5 := set5 (.int .i64 0) (.int .i64 0) (.int .i64 0) (.bool false) (.slice none 0 0) g6
    obtain ⟨wz, ewz⟩ : ∃ wz, wz = ((((w2.setCell ⟨b1, 0, none⟩ (.int .i64 0)).setCell ⟨b1, 1, none⟩ (.int .i64 0)).setCell ⟨b1, 2, none⟩ (.int .i64 0)).setCell ⟨b1, 3, none⟩ (.bool false)).setCell ⟨b1, 4, none⟩ (.slice none 0 0) := ⟨_, rfl⟩
    rw [← ewz] at s5 ⊢
    refine bodyPost_ret (v := .tuple #[frv 0 0 0 false none 0 0, .int .i64 72]) ?_ rfl ?_
    · exact results_two rfl _ _ b1 31 _ (0, 0) _ _ rfl s5.1 Tryd.underlying31 Tryd.info38 rfl
    · exact ⟨by first | rfl | rw [if_neg hE], (HB.out.2.2.trans hk2).step s5.2 (fun y hy => by simp at hy; right; have := HB.out.2.1; omega)⟩
  · have hE2 : (E != 0) = true := by simpa using hE
    clear hno
    go_wp2
    obtain ⟨g6, hk2⟩ := HG.out
    have s5 := set5 (.int .i64 0) (.int .i64 0) (.int .i64 0) (.bool false) (.slice none 0 0) g6
    obtain ⟨wz, ewz⟩ : ∃ wz, wz = ((((w2.setCell ⟨b1, 0, none⟩ (.int .i64 0)).setCell ⟨b1, 1, none⟩ (.int .i64 0)).setCell ⟨b1, 2, none⟩ (.int .i64 0)).setCell ⟨b1, 3, none⟩ (.bool false)).setCell ⟨b1, 4, none⟩ (.slice none 0 0) := ⟨_, rfl⟩
    rw [← ewz] at s5 ⊢
    refine bodyPost_ret (v := .tuple #[frv 0 0 0 false none 0 0, .int .i64 E]) ?_ rfl ?_
    · exact results_two rfl _ _ b1 31 _ (0, 0) _ _ rfl s5.1 Tryd.underlying31 Tryd.info38 rfl
    · exact ⟨by first | rfl | rw [if_neg hE], (HB.out.2.2.trans hk2).step s5.2 (fun y hy => by simp at hy; right; have := HB.out.2.1; omega)⟩

set_option maxHeartbeats 8000000 in
set_option maxRecDepth 1000000 in
theorem ru210_no (W H D : Int) (A : Bool) (bo : Option Addr) (M cb : Nat) (Z E : Int) (w : World) (CZ : ∀ u, Calls Tryd.prog 13 #[shv W H D A] u fun e w' => e = .returned (.tuple #[.int .i64 Z, .int .i64 E]) ∧ Kept [] u w') (hno : E ≠ 0 ∨ (M : Int) ≠ Z) :
    Calls Tryd.prog 48 #[shv W H D A, .slice bo M cb] w fun e w' => e = .returned (.tuple #[frv 0 0 0 false none 0 0, .int .i64 (if E = 0 then 72 else E)]) ∧ Kept [] w w' := by
  have CZ := Hid.mk CZ
  have hS0 := Sat.new w W H D A 24
  have hk1 := alloc_kept w (.cells #[.int .i64 W, .int .i64 H, .int .i64 D, .bool A] 24)
  have hk2 := alloc_kept (w.alloc (.cells #[.int .i64 W, .int .i64 H, .int .i64 D, .bool A] 24)) (.cells #[.int .i64 0, .int .i64 0, .int .i64 0, .bool false, .slice none 0 0] 31)
  have hF := heap_alloc_new (w.alloc (.cells #[.int .i64 W, .int .i64 H, .int .i64 D, .bool A] 24)) (.cells #[.int .i64 0, .int .i64 0, .int .i64 0, .bool false, .slice none 0 0] 31)
  rw [World.size_alloc] at hF
  have hS := hS0.keep hk2 (by simp)
  have hk0 := hk1.trans hk2
  obtain ⟨wa, ewa⟩ : ∃ wa, wa = (w.alloc (.cells #[.int .i64 W, .int .i64 H, .int .i64 D, .bool A] 24)).alloc (.cells #[.int .i64 0, .int .i64 0, .int .i64 0, .bool false, .slice none 0 0] 31) := ⟨_, rfl⟩
  rw [← ewa] at hS hk0 hF
  obtain ⟨q0, q1, q2, q3⟩ := hS
  obtain ⟨b1, eb1⟩ : ∃ b1, b1 = w.heap.size + 1 := ⟨_, rfl⟩
  rw [← eb1] at hF
  have HB := Hid.mk (And.intro hF (And.intro eb1 hk0))
  clear hk0 hk1 hk2 hS0 hF
  go_enter Tryd.func48, Tryd.ntmps48
  go_wp2_with (fail)
  rw [← ewa, ← eb1]
  clear eb1 ewa
  refine (CZ.out _).mono ?_
  rintro e w2 ⟨rfl, hk2⟩
  have g6 := hk2.heap HB.out.1 (by simp)
  obtain ⟨⟨r0, r1, r2, r3, r4⟩, s0, s1, s2, s3, s4⟩ := five g6
  have HG := Hid.mk (And.intro g6 hk2)
  clear g6 hk2 q0 q1 q2 q3 CZ
  by_cases hE : E = 0
  · subst hE
    have hm : (M : Int) ≠ Z := by simpa using hno
    have hm2 : ((M : Int) != Z) = true := by simpa using hm
    have hm3 : ¬ (M : Int) = Z := hm
    clear hno
    go_wp2
    obtain ⟨g6, hk2⟩ := HG.out
    have s5 := set5 (.int .i64 0) (.int .i64 0) (.int .i64 0) (.bool false) (.slice none 0 0) g6
    obtain ⟨wz, ewz⟩ : ∃ wz, wz = ((((w2.setCell ⟨b1, 0, none⟩ (.int .i64 0)).setCell ⟨b1, 1, none⟩ (.int .i64 0)).setCell ⟨b1, 2, none⟩ (.int .i64 0)).setCell ⟨b1, 3, none⟩ (.bool false)).setCell ⟨b1, 4, none⟩ (.slice none 0 0) := ⟨_, rfl⟩
    rw [← ewz] at s5 ⊢
    refine bodyPost_ret (v := .tuple #[frv 0 0 0 false none 0 0, .int .i64 72]) ?_ rfl ?_
    · exact results_two rfl _ _ b1 31 _ (0, 0) _ _ rfl s5.1 Tryd.underlying31 Tryd.info38 rfl
    · exact ⟨by first | rfl | rw [if_neg hE], (HB.out.2.2.trans hk2).step s5.2 (fun y hy => by simp at hy; right; have := HB.out.2.1; omega)⟩
  · have hE2 : (E != 0) = true := by simpa using hE
    clear hno
    go_wp2
    obtain ⟨g6, hk2⟩ := HG.out
    have s5 := set5 (.int .i64 0) (.int .i64 0) (.int .i64 0) (.bool false) (.slice none 0 0) g6
    obtain ⟨wz, ewz⟩ : ∃ wz, wz = ((((w2.setCell ⟨b1, 0, none⟩ (.int .i64 0)).setCell ⟨b1, 1, none⟩ (.int .i64 0)).setCell ⟨b1, 2, none⟩ (.int .i64 0)).setCell ⟨b1, 3, none⟩ (.bool false)).setCell ⟨b1, 4, none⟩ (.slice none 0 0) := ⟨_, rfl⟩
    rw [← ewz] at s5 ⊢
    refine bodyPost_ret (v := .tuple #[frv 0 0 0 false none 0 0, .int .i64 E]) ?_ rfl ?_
    · exact results_two rfl _ _ b1 31 _ (0, 0) _ _ rfl s5.1 Tryd.underlying31 Tryd.info38 rfl
    · exact ⟨by first | rfl | rw [if_neg hE], (HB.out.2.2.trans hk2).step s5.2 (fun y hy => by simp at hy; right; have := HB.out.2.1; omega)⟩

end Go.Proofs.YtodlkpcbkilglaaDoor

namespace Go.Proofs.YtodlkpcbkilglaaDoor
open Go.RowKit Go.Shelf

theorem vT_same {fb gb : Nat → Nat} {l : Nat → Nat} {n : Nat} (h : wdB fb n = wdB gb n) : ∀ k, vT fb l n k = vT gb l n k := by
  intro k
  induction k with
  | zero => rfl
  | succ k ih => rw [vT, vT, ih, h]
theorem wdB_same {fb gb : Nat → Nat} {n : Nat} (h : ∀ t, t < 4 → fb (4 * n + t) = gb (4 * n + t)) : wdB fb n = wdB gb n := by
  have h0 := h 0 (by omega)
  have h1 := h 1 (by omega)
  have h2 := h 2 (by omega)
  have h3 := h 3 (by omega)
  rw [Nat.add_zero] at h0
  unfold wdB
  rw [h0, h1, h2, h3]
/-- What is written of what bytes tell is these bytes just if all rows are right. -/
theorem again_iff {W : Int} {h : Nat} {fb : Nat → Nat} (hw : ∀ p, 1 ≤ wdN W p) (hf : ∀ i, i < ctL (v2L W) (1 * h) → fb i < 256) :
    ctN (v2L W) (v2R W (vnF W fb)) (1 * h) = (List.range (ctL (v2L W) (1 * h))).map fb ↔ ∀ k, k < h → rwOk W fb k := by
  constructor
  · intro e k hk n hn
    have hlen : v2L W k = 4 * ((wdN W 0 + 47) / 48 * 32) := rfl
    have hm := ctL_mono (v2L W) (show k + 1 ≤ 1 * h by omega)
    rw [ctL] at hm
    have hb : ∀ t, t < v2L W k → fb (ctL (v2L W) k + t) = v2R W (vnF W fb) k t := fun t ht => by
      have h2 := ctN_at (v2L W) (v2R W (vnF W fb)) (1 * h) k t (by omega) ht
      rw [e, List.getElem?_map, List.getElem?_range (by omega)] at h2
      simpa using h2
    have hs : wdB (fun t => fb (ctL (v2L W) k + t)) n = wdB (v2R W (vnF W fb) k) n := wdB_same (fun t ht => hb _ (by omega))
    rw [vT_same hs, hs]
    exact vT_v2B _ _ (fun p x _ _ => vnF_lt W fb p _) n
  · intro hg
    have h2 := vnF_good hw (1 * h) hf (fun k hk => hg k (by omega))
    exact ctN_eq _ _ _ _ h2
end Go.Proofs.YtodlkpcbkilglaaDoor

namespace Go.Proofs.YtodlkpcbkilglaaDoor
open Go.RowKit Go.Shelf
attribute [local go_sem] Oper.semAt_some

theorem str_inj {a b : List Nat} (ha : ∀ x ∈ a, x < 256) (hb : ∀ x ∈ b, x < 256) (h : (Bt.bstr a).toList = (Bt.bstr b).toList) : a = b := by
  have e : ∀ l : List Nat, (Bt.bstr l).toList = l.map (fun n => UInt8.ofNat n) := fun l => by
    unfold Bt.bstr; rw [Lib.strOfNums_toList]; simp [Lib.bytesOf]
  rw [e, e] at h
  apply List.ext_getElem?
  intro i
  have h2 := congrArg (fun x => x[i]?) h
  simp only [List.getElem?_map] at h2
  cases ea : a[i]? with
  | none =>
    cases eb : b[i]? with
    | none => rfl
    | some y => rw [ea, eb] at h2; cases h2
  | some x =>
    cases eb : b[i]? with
    | none => rw [ea, eb] at h2; cases h2
    | some y =>
      rw [ea, eb] at h2
      have hx := ha x (List.mem_of_getElem? ea)
      have hy := hb y (List.mem_of_getElem? eb)
      simp only [Option.map_some, Option.some.injEq] at h2
      have h3 := congrArg UInt8.toNat h2
      simp only [UInt8.toNat_ofNat'] at h3
      rw [Nat.mod_eq_of_lt (by omega), Nat.mod_eq_of_lt (by omega)] at h3
      rw [h3]
theorem fld_div (Y r : Nat) : fld Y r = Y / 1024 ^ r % 1024 := by
  unfold fld
  rw [show (1024 : Nat) = 2 ^ 10 from rfl, ← Nat.pow_mul]

set_option maxHeartbeats 16000000 in
set_option maxRecDepth 1000000 in
/-- The document's UnpackV210 of bytes that are as many as must be. -/
theorem ru210_yes (W : Int) (h gb ob cb M : Nat) (fb : Nat → Nat) (w : World) (hs : Shp W (h : Int) 10 false) (hM : M = ctL (v2L W) (1 * h)) (hMc : M ≤ cb) (hc : ∀ i, i < M → w.cell? ⟨gb, ob + i, none⟩ = some (.int .u8 (fb i : Int))) (hfb : ∀ i, i < M → fb i < 256) :
    Calls Tryd.prog 48 #[shv W (h : Int) 10 false, .slice (some ⟨gb, ob, none⟩) M cb] w fun e w' => ((∀ k, k < h → rwOk W fb k) → ∃ G c bs, e = .returned (.tuple #[frv W (h : Int) 10 false (some ⟨G, 0, none⟩) (np false) c, .int .i64 0]) ∧ Wf w.heap.size w' G bs (np false) (pz W (h : Int)) (vnF W fb) ∧ Kept [] w w') ∧
      ((¬ ∀ k, k < h → rwOk W fb k) → e = .returned (.tuple #[frv 0 0 0 false none 0 0, .int .i64 73]) ∧ Kept [] w w') := by
  have h1W : 1 ≤ W := hs.1.1
  have hW2 : W ≤ 4096 := hs.1.2
  have h1 : 1 ≤ h := by have := hs.2.1; omega
  have hh : h ≤ 4096 := by have := hs.2.1; omega
  have hwd : ∀ i, 1 ≤ wdN W i ∧ wdN W i ≤ 4096 := fun i => ⟨(wdN_ok hs i).1, (wdN_ok hs i).2.1⟩
  have hag := again_iff (h := h) (fun p => (hwd p).1) (fun i hi => hfb i (by rw [hM]; exact hi))
  have hwl : ∀ p, p < 3 → pz W (h : Int) p = wdN W p * h := fun p _ => pz_wd hs p
  have hvn := vnF_lt W fb
  have hV := vld_zero hs (vnF W fb) (fun i hi j hj => by have h8 := hvn i j; have h9 : mx 10 = 1023 := rfl; omega)
  have C19 := Hid.mk (fun (u : World) (G c : Nat) (hp : Pl u (some ⟨G, 0, none⟩) 3 (pz W (h : Int)) (vnF W fb)) => r210_yes W h (some ⟨G, 0, none⟩) c (pz W (h : Int)) (vnF W fb) u hp hvn hV)
  obtain ⟨hS2, eS2⟩ := v2L_hi h1W hW2
  have hS0 := v2L_pos h1W
  have hMS : M = h * v2L W 0 := by rw [hM, ctL_v2, Nat.one_mul]
  have hlist := obF_list (W := W) (F := vnF W fb) h
  rw [← hMS] at hlist
  rw [← hM] at hag
  rw [← hlist] at hag
  rw [← hMS] at C19
  have hvx : ∀ p y x, p < 3 → x < wdN W p → vnF W fb p (y * wdN W p + x) = (fb (y * v2L W 0 + 4 * (slt p x / 3)) + 256 * fb (y * v2L W 0 + 4 * (slt p x / 3) + 1) + 65536 * fb (y * v2L W 0 + 4 * (slt p x / 3) + 2) + 16777216 * fb (y * v2L W 0 + 4 * (slt p x / 3) + 3)) / 1024 ^ (slt p x % 3) % 1024 := fun p y x _ hx => by
    unfold vnF
    rw [show (y * wdN W p + x) / wdN W p = y by rw [Nat.mul_comm, Nat.mul_add_div (hwd p).1, Nat.div_eq_of_lt hx, Nat.add_zero], show (y * wdN W p + x) % wdN W p = x by rw [Nat.mul_comm, Nat.mul_add_mod, Nat.mod_eq_of_lt hx], ctL_v2, fld_div]
    rfl
  obtain ⟨Fn, eFn⟩ : ∃ Fn, vnF W fb = Fn := ⟨_, rfl⟩
  obtain ⟨S, eS⟩ : ∃ S, v2L W 0 = S := ⟨_, rfl⟩
  have hwi : ∀ p x y, p < 3 → x < wdN W p → y < h → y * S + 4 * (slt p x / 3) + 3 < M := fun p x y hp hx hy => by
    have h9 := (word_in h1W hp hx hy).2
    rw [← hMS, eS] at h9
    exact h9
  simp only [eFn] at hvx C19 hag hvn
  rw [eFn]
  simp only [eS] at hvx
  rw [eS] at hS2 eS2 hS0 hMS
  have hMb : M ≤ 45088768 := by rw [hMS]; have := Nat.mul_le_mul hh hS2; omega
  have C13 : Hid (∀ u, Calls Tryd.prog 13 #[shv W (h : Int) 10 false] u fun e w' => e = .returned (.tuple #[.int .i64 (M : Int), .int .i64 0]) ∧ Kept [] u w') := Hid.mk (fun u => (rv210Size_any W (h : Int) 10 false u).mono (fun e w' => by
    rw [shE_ok hs, ← eS2]
    rintro ⟨rfl, hk⟩
    refine ⟨?_, hk⟩
    rw [if_pos ⟨rfl, by decide⟩, if_pos rfl, if_pos (by decide), hMS]
    simp))
  have C40 : Hid (∀ u, Calls Tryd.prog 40 #[.int .i64 W] u fun e w' => e = .returned (.int .i64 (S : Int)) ∧ w' = u) := Hid.mk (fun u => by rw [eS2]; exact rowSize_any W u h1W hW2)
  have C43 : Hid (∀ (u : World) (p : Nat), p < 3 → Calls Tryd.prog 43 #[shv W (h : Int) 10 false, .int .i64 (p : Int)] u fun e w' => e = .returned (.tuple #[.int .i64 (wdN W p : Int), .int .i64 (h : Int), .int .i64 0]) ∧ Kept [] u w') := Hid.mk (fun u p hp => (rsize_any W (h : Int) 10 (p : Int) false u).mono (fun e w' => by
    have e3 : szE W (h : Int) 10 (p : Int) false = 0 := by
      unfold szE
      rw [if_pos (shE_ok hs), if_pos ⟨by omega, by simp [np]; omega⟩]
    rw [e3, if_pos rfl, if_pos rfl, (wdN_ok hs p).2.2]
    exact id))
  have CN : Hid (∀ u, Calls Tryd.prog 74 #[shv W (h : Int) 10 false] u fun e w' => ∃ G c bs, e = .returned (.tuple #[frv W (h : Int) 10 false (some ⟨G, 0, none⟩) 3 c, .int .i64 0]) ∧ Wf u.heap.size w' G bs 3 (pz W (h : Int)) (fun _ _ => 0) ∧ Kept [] u w') := Hid.mk (fun u => (rnew_any W (h : Int) 10 false u).mono (fun e w' hh => hh.1 (shE_ok hs)))
  have hdW : Hid (∀ p, p < 3 → wdN W p ≤ 4096 ∧ pz W (h : Int) p = wdN W p * h) := Hid.mk (fun p hp => ⟨(hwd p).2, hwl p hp⟩)
  have HAG := Hid.mk hag
  have HF := Hid.mk (And.intro hvx (And.intro hwi hMS))
  have HC := Hid.mk (And.intro hc hfb)
  have HBY : Hid (Bt.Reads w (some ⟨gb, ob, none⟩) ((List.range M).map fb)) := Hid.mk (.inr ⟨gb, ob, rfl, fun i hi => by
    have hi' : i < M := by simpa using hi
    rw [hc i hi']
    simp [Bt.byt, hi']⟩)
  have HLT : Hid ((∀ x ∈ (List.range M).map fb, x < 256) ∧ ∀ x ∈ (List.range M).map (obF W Fn 3 0), x < 256) := Hid.mk ⟨fun x hx => by
    simp only [List.mem_map, List.mem_range] at hx
    obtain ⟨i, hi, rfl⟩ := hx
    exact hfb i hi, fun x hx => by
    simp only [List.mem_map, List.mem_range] at hx
    obtain ⟨i, hi, rfl⟩ := hx
    exact v2R_lt _ _ _ _⟩
  clear hc hfb hag hvx hwi hMS hS0 eS2 h1W hW2 h1 hwd hwl hvn hV hlist hM eFn eS
  have HMC := Hid.mk hMc
  clear hMc
  have hS0 := Sat.new w W (h : Int) 10 false 24
  have hk1 := alloc_kept w (.cells #[.int .i64 W, .int .i64 (h : Int), .int .i64 10, .bool false] 24)
  have hk2 := alloc_kept (w.alloc (.cells #[.int .i64 W, .int .i64 (h : Int), .int .i64 10, .bool false] 24)) (.cells #[.int .i64 0, .int .i64 0, .int .i64 0, .bool false, .slice none 0 0] 31)
  have hF := heap_alloc_new (w.alloc (.cells #[.int .i64 W, .int .i64 (h : Int), .int .i64 10, .bool false] 24)) (.cells #[.int .i64 0, .int .i64 0, .int .i64 0, .bool false, .slice none 0 0] 31)
  rw [World.size_alloc] at hF
  have hS := hS0.keep hk2 (by simp)
  have hk0 := hk1.trans hk2
  obtain ⟨wa, ewa⟩ : ∃ wa, wa = (w.alloc (.cells #[.int .i64 W, .int .i64 (h : Int), .int .i64 10, .bool false] 24)).alloc (.cells #[.int .i64 0, .int .i64 0, .int .i64 0, .bool false, .slice none 0 0] 31) := ⟨_, rfl⟩
  rw [← ewa] at hS hk0 hF
  obtain ⟨b0, eb0⟩ : ∃ b0, b0 = w.heap.size := ⟨_, rfl⟩
  obtain ⟨b1, eb1⟩ : ∃ b1, b1 = w.heap.size + 1 := ⟨_, rfl⟩
  rw [← eb0] at hS
  rw [← eb1] at hF
  have hbw : b1 < wa.heap.size := lt_of_block hF
  have HB := Hid.mk (And.intro hF (And.intro hk0 (And.intro hS (And.intro eb0 eb1))))
  obtain ⟨q0, q1, q2, q3⟩ := hS
  clear hk0 hk1 hk2 hS0 hF hs
  go_enter Tryd.func48, Tryd.ntmps48
  go_wp2_with (fail)
  rw [← ewa, ← eb1, ← eb0]
  have HBW : Hid (b0 < wa.heap.size ∧ b1 < wa.heap.size) := Hid.mk ⟨by omega, hbw⟩
  clear eb1 ewa eb0 hbw
  refine (C13.out _).mono ?_
  rintro e w2 ⟨rfl, hk2⟩
  have HK2 := Hid.mk hk2
  clear q0 q1 q2 q3
  obtain ⟨q0, q1, q2, q3⟩ := HB.out.2.2.1.keep hk2 (by simp)
  clear hk2 C13
  go_wp2_with (fail)
  refine (CN.out _).mono ?_
  rintro e w3 ⟨G, c, bs, rfl, hwf, hk3⟩
  have hk4 := alloc_kept w3 (.cells #[.int .i64 W, .int .i64 (h : Int), .int .i64 10, .bool false, .slice (some ⟨G, 0, none⟩) 3 c] 31)
  have hB4 := heap_alloc_new w3 (.cells #[.int .i64 W, .int .i64 (h : Int), .int .i64 10, .bool false, .slice (some ⟨G, 0, none⟩) 3 c] 31)
  have HU : Hid (Uq wa (w3.alloc (.cells #[.int .i64 W, .int .i64 (h : Int), .int .i64 10, .bool false, .slice (some ⟨G, 0, none⟩) 3 c] 31)) b0 b1 w3.heap.size G bs W (h : Int) 10 false c (dnF Fn 0 0)) := Hid.mk
    ⟨((hwf.low HK2.out.size).keep hk4).congr (fun i _ j _ => by unfold dnF; rw [if_neg (by omega)]), hB4, ((HK2.out.trans hk3).trans hk4).heap HB.out.1 (by simp), HB.out.2.2.1.keep ((HK2.out.trans hk3).trans hk4) (by simp), HBW.out.1, HBW.out.2, (HK2.out.trans hk3).size, (HK2.out.trans hk3).trans hk4⟩
  clear q0 q1 q2 q3
  obtain ⟨q0, q1, q2, q3⟩ := HU.out.sat
  go_wp2_with (fail)
  obtain ⟨w4, ew4⟩ : ∃ w4, w4 = w3.alloc (.cells #[.int .i64 W, .int .i64 (h : Int), .int .i64 10, .bool false, .slice (some ⟨G, 0, none⟩) 3 c] 31) := ⟨_, rfl⟩
  obtain ⟨B, eB⟩ : ∃ B, B = w3.heap.size := ⟨_, rfl⟩
  rw [← ew4, ← eB] at HU ⊢
  clear ew4 eB hk3 hk4 hB4 hwf q0 q1 q2 q3 CN
  refine (C40.out _).mono ?_
  rintro e w5 ⟨rfl, rfl⟩
  go_wp2_with (fail)
  clear C40
  go_loopw [11] (fun i wr => ∃ p : Nat, p ≤ 3 ∧ i = .int .i64 (p : Int) ∧ Uq wa wr b0 b1 B G bs W (h : Int) 10 false c (dnF Fn p 0)) (fun i _ => 3 - (intOf i).toNat)
  case atStart => exact ⟨0, by omega, rfl, HU.out⟩
  case round =>
    obtain ⟨p, hp, rfl, hU⟩ := hrel
    have HU1 := Hid.mk hU
    obtain ⟨q0, q1, q2, q3⟩ := hU.sat
    clear hU
    by_cases hlt : p < 3
    · have ix : (p : Int) < 3 := by omega
      obtain ⟨d, ed⟩ : ∃ d, wdN W p = d := ⟨_, rfl⟩
      have hd := hdW.out p hlt
      rw [ed] at hd
      have HL := Hid.mk hd.2
      have hd : d ≤ 4096 := hd.1
      have ED := Hid.mk ed
      have C43p := Hid.mk (fun u => C43.out u p hlt)
      rw [ed] at C43p
      clear ed
      go_wp2_with (go_at_call 43; refine (C43p.out _).mono ?_; rintro e w6 ⟨rfl, hk6⟩)
      have HU2 := Hid.mk (HU1.out.keep hk6)
      clear hk6 q0 q1 q2 q3
      go_wp2_with (fail)
      go_loopw [15] (fun i wr => ∃ y : Nat, y ≤ h ∧ i = .int .i64 (y : Int) ∧ Uq wa wr b0 b1 B G bs W (h : Int) 10 false c (dnF Fn p (y * d))) (fun i _ => h - (intOf i).toNat)
      case atStart => exact ⟨0, by omega, rfl, by rw [Nat.zero_mul]; exact HU2.out⟩
      case round =>
        obtain ⟨y, hy, rfl, hU⟩ := hrel
        have HU3 := Hid.mk hU
        clear hU
        by_cases hly : y < h
        · have iy : (y : Int) < (h : Int) := by omega
          go_wp2_with (fail)
          go_loopw [16] (fun i wr => ∃ x : Nat, x ≤ d ∧ i = .int .i64 (x : Int) ∧ Uq wa wr b0 b1 B G bs W (h : Int) 10 false c (dnF Fn p (y * d + x))) (fun i _ => d - (intOf i).toNat)
          case atStart => exact ⟨0, by omega, rfl, HU3.out⟩
          case round =>
            obtain ⟨x, hx, rfl, hU⟩ := hrel
            have HU4 := Hid.mk hU
            clear hU
            by_cases hlx : x < d
            · have ixd : (x : Int) < (d : Int) := by omega
              have CS := Hid.mk (fun u => spot_any p x u hlt (by omega))
              have hval := HF.out.1 p y x hlt (by rw [ED.out]; exact hlx)
              have hin := HF.out.2.1 p x y hlt (by rw [ED.out]; exact hlx) hly
              rw [ED.out] at hval
              obtain ⟨q, eq⟩ : ∃ q, slt p x / 3 = q := ⟨_, rfl⟩
              obtain ⟨r, er⟩ : ∃ r, slt p x % 3 = r := ⟨_, rfl⟩
              have hr3 : r < 3 := by omega
              rw [eq, er] at CS hval
              rw [eq] at hin
              clear eq er
              have hL : y * d + x < d * h := by
                rw [Nat.mul_comm d h]
                have h9 : (y + 1) * d ≤ h * d := Nat.mul_le_mul_right _ hly
                rw [Nat.add_mul, Nat.one_mul] at h9
                omega
              have hLb : d * h ≤ 16777216 := Nat.mul_le_mul hd hh
              rw [← HL.out] at hL hLb
              obtain ⟨L, eL⟩ : ∃ L, pz W (h : Int) p = L := ⟨_, rfl⟩
              rw [eL] at hL hLb
              obtain ⟨ys, eys⟩ : ∃ ys, y * S = ys := ⟨_, rfl⟩
              have fys : (y : Int) * (S : Int) = (ys : Int) := by rw [← eys]; simp
              rw [eys] at hval hin
              obtain ⟨t0, et0⟩ : ∃ t0, ys + 4 * q = t0 := ⟨_, rfl⟩
              rw [et0] at hval hin
              have ft0 : (ys : Int) + 4 * (q : Int) = (t0 : Int) := by omega
              obtain ⟨t1, et1⟩ : ∃ t1, t0 + 1 = t1 := ⟨_, rfl⟩
              obtain ⟨t2, et2⟩ : ∃ t2, t0 + 2 = t2 := ⟨_, rfl⟩
              obtain ⟨t3, et3⟩ : ∃ t3, t0 + 3 = t3 := ⟨_, rfl⟩
              rw [et1, et2, et3] at hval
              have f1 : (t0 : Int) + 1 = (t1 : Int) := by omega
              have f2 : (t0 : Int) + 2 = (t2 : Int) := by omega
              have f3 : (t0 : Int) + 3 = (t3 : Int) := by omega
              have i0 : (t0 : Int) < (M : Int) := by omega
              have i1 : (t1 : Int) < (M : Int) := by omega
              have i2 : (t2 : Int) < (M : Int) := by omega
              have i3 : (t3 : Int) < (M : Int) := by omega
              have j0 : t0 < M := by omega
              have j1 : t1 < M := by omega
              have j2 : t2 < M := by omega
              have j3 : t3 < M := by omega
              have hysb : ys ≤ 45088768 := by omega
              have hqb : q ≤ 45088768 := by omega
              clear et0 et1 et2 et3 eys hin
              have EL := Hid.mk eL
              clear eL
              go_wp2_with (go_at_call 44; refine (CS.out _).mono ?_; rintro e w8 ⟨rfl, hk8⟩; have hka := (hk8.alloc (.cells #[.int .i64 (q : Int), .int .i64 (r : Int)] 74)); have r7 := heap_alloc_new w8 (.cells #[.int .i64 (q : Int), .int .i64 (r : Int)] 74))
              obtain ⟨w9, e9⟩ : ∃ w9, w9 = w8.alloc (.cells #[.int .i64 (q : Int), .int .i64 (r : Int)] 74) := ⟨_, rfl⟩
              obtain ⟨sb, esb⟩ : ∃ sb, sb = w8.heap.size := ⟨_, rfl⟩
              rw [← e9, ← esb] at r7
              rw [← e9] at hka ⊢
              rw [← esb]
              have HU5 := Hid.mk (HU4.out.keep hka)
              have HS9 := Hid.mk r7
              clear e9 esb r7 hka hk8 CS
              have c74a : w9.cell? ⟨sb, 0, none⟩ = some (.int .i64 (q : Int)) := by rw [cell_of_row _ _ _ _ _ _ HS9.out]; rfl
              have HKw := Hid.mk ((HB.out.2.1).trans HU5.out.kept)
              have x0 := cell_keep HKw.out (HC.out.1 t0 j0) (by simp)
              have x1 := cell_keep HKw.out (HC.out.1 t1 j1) (by simp)
              have x2 := cell_keep HKw.out (HC.out.1 t2 j2) (by simp)
              have x3 := cell_keep HKw.out (HC.out.1 t3 j3) (by simp)
              have y0 := HC.out.2 t0 j0
              have y1 := HC.out.2 t1 j1
              have y2 := HC.out.2 t2 j2
              have y3 := HC.out.2 t3 j3
              obtain ⟨X0, e0⟩ : ∃ X0, fb t0 = X0 := ⟨_, rfl⟩
              obtain ⟨X1, e1⟩ : ∃ X1, fb t1 = X1 := ⟨_, rfl⟩
              obtain ⟨X2, e2⟩ : ∃ X2, fb t2 = X2 := ⟨_, rfl⟩
              obtain ⟨X3, e3⟩ : ∃ X3, fb t3 = X3 := ⟨_, rfl⟩
              rw [e0] at x0 y0 hval
              rw [e1] at x1 y1 hval
              rw [e2] at x2 y2 hval
              rw [e3] at x3 y3 hval
              clear e0 e1 e2 e3
              obtain ⟨Y1, ey1⟩ : ∃ Y1, X0 + 256 * X1 = Y1 := ⟨_, rfl⟩
              obtain ⟨Y2, ey2⟩ : ∃ Y2, Y1 + 65536 * X2 = Y2 := ⟨_, rfl⟩
              obtain ⟨Y3, ey3⟩ : ∃ Y3, Y2 + 16777216 * X3 = Y3 := ⟨_, rfl⟩
              rw [ey1, ey2, ey3] at hval
              have g1 : (X0 : Int) + 256 * (X1 : Int) = (Y1 : Int) := by omega
              have g2 : (Y1 : Int) + 65536 * (X2 : Int) = (Y2 : Int) := by omega
              have g3 : (Y2 : Int) + 16777216 * (X3 : Int) = (Y3 : Int) := by omega
              have hY3 : Y3 ≤ 4294967295 := by omega
              have v0 : IntKind.i64.wrap (X0 : Int) = (X0 : Int) := wrap_i (by omega) (by omega)
              have v1 : IntKind.i64.wrap (X1 : Int) = (X1 : Int) := wrap_i (by omega) (by omega)
              have v2 : IntKind.i64.wrap (X2 : Int) = (X2 : Int) := wrap_i (by omega) (by omega)
              have v3 : IntKind.i64.wrap (X3 : Int) = (X3 : Int) := wrap_i (by omega) (by omega)
              have v4 : IntKind.i64.wrap (256 * (X1 : Int)) = 256 * (X1 : Int) := wrap_i (by omega) (by omega)
              have v5 : IntKind.i64.wrap (65536 * (X2 : Int)) = 65536 * (X2 : Int) := wrap_i (by omega) (by omega)
              have v6 : IntKind.i64.wrap (16777216 * (X3 : Int)) = 16777216 * (X3 : Int) := wrap_i (by omega) (by omega)
              have v7 : IntKind.i64.wrap (Y1 : Int) = (Y1 : Int) := wrap_i (by omega) (by omega)
              have v8 : IntKind.i64.wrap (Y2 : Int) = (Y2 : Int) := wrap_i (by omega) (by omega)
              have v9 : IntKind.i64.wrap (Y3 : Int) = (Y3 : Int) := wrap_i (by omega) (by omega)
              have u1 : IntKind.i64.wrap (t1 : Int) = (t1 : Int) := wrap_i (by omega) (by omega)
              have u2 : IntKind.i64.wrap (t2 : Int) = (t2 : Int) := wrap_i (by omega) (by omega)
              have u3 : IntKind.i64.wrap (t3 : Int) = (t3 : Int) := wrap_i (by omega) (by omega)
              have HV := Hid.mk hval
              clear hval ey1 ey2 ey3
              go_wp2_with (fail)
              go_quiet (fail)
              have hkq := (Kept.refl [] w9).drewN nq
              have HU6 := Hid.mk (HU5.out.keep hkq)
              have HSQ := Hid.mk (hkq.heap HS9.out (by simp))
              obtain ⟨wq, ewq⟩ : ∃ wq, w9.drewN nq = wq := ⟨_, rfl⟩
              rw [ewq] at HU6 HSQ ⊢
              clear ewq hkq x0 x1 x2 x3 y0 y1 y2 y3 g1 g2 g3 v0 v1 v2 v3 v4 v5 v6 v7 v8 v9 u1 u2 u3 f1 f2 f3 i0 i1 i2 i3 j0 j1 j2 j3 ft0 fys c74a hysb hqb
              go_wp2_with (fail)
              go_loopw [19, 20] (fun v k wz => ∃ t : Nat, t ≤ r ∧ k = .int .i64 (t : Int) ∧ v = .int .i64 ((Y3 / 1024 ^ t : Nat) : Int) ∧ wz = wq) (fun _ k _ => r - (intOf k).toNat)
              case atStart => exact ⟨0, by omega, rfl, by simp, rfl⟩
              case round =>
                obtain ⟨t, ht, rfl, rfl, rfl⟩ := hrel
                have c74 : wr.cell? ⟨sb, 1, none⟩ = some (.int .i64 (r : Int)) := by rw [cell_of_row _ _ _ _ _ _ HSQ.out]; rfl
                by_cases hlr : t < r
                · have ir : (t : Int) < (r : Int) := by omega
                  have hVY : Y3 / 1024 ^ t ≤ 4294967295 := Nat.le_trans (Nat.div_le_self _ _) hY3
                  have hV9 : Y3 / 1024 ^ t / 1024 = Y3 / 1024 ^ (t + 1) := by rw [Nat.div_div_eq_div_mul, Nat.pow_succ]
                  obtain ⟨V, eV⟩ : ∃ V, Y3 / 1024 ^ t = V := ⟨_, rfl⟩
                  rw [eV] at hVY hV9
                  rw [eV]
                  have f4 : ((V : Int)).tdiv 1024 = ((V / 1024 : Nat) : Int) := by rw [Int.tdiv_eq_ediv_of_nonneg (by omega)]; omega
                  have f5 : (V : Int) / 1024 = ((V / 1024 : Nat) : Int) := by omega
                  obtain ⟨hi, ehi⟩ : ∃ hi, V / 1024 = hi := ⟨_, rfl⟩
                  have hhi : hi ≤ 4194303 := by omega
                  rw [ehi] at f4 f5 hV9
                  have HV9 := Hid.mk hV9
                  clear ehi eV hV9
                  go_wp2_with (fail)
                  exact ⟨⟨t + 1, by omega, by go_num, by rw [← HV9.out], by first | rfl | trivial⟩, by simp [intOf]; omega⟩
                · obtain rfl : t = r := by omega
                  have hVY : Y3 / 1024 ^ t ≤ 4294967295 := Nat.le_trans (Nat.div_le_self _ _) hY3
                  obtain ⟨V, eV⟩ : ∃ V, Y3 / 1024 ^ t = V := ⟨_, rfl⟩
                  have hval := HV.out
                  rw [eV] at hVY hval
                  rw [eV]
                  obtain ⟨X, eX⟩ : ∃ X, V % 1024 = X := ⟨_, rfl⟩
                  rw [eX] at hval
                  have f2 : ((V : Int)).tmod 1024 = (X : Int) := by rw [Int.tmod_eq_emod_of_nonneg (by omega)]; omega
                  have f3 : (V : Int) % 1024 = (X : Int) := by omega
                  have hX : X < 1024 := by omega
                  have w16 : IntKind.u16.wrap (X : Int) = (X : Int) := by rw [IntKind.wrap_u16]; omega
                  obtain ⟨yd, eyd⟩ : ∃ yd, y * d = yd := ⟨_, rfl⟩
                  have fyd : (y : Int) * (d : Int) = (yd : Int) := by rw [← eyd]; simp
                  obtain ⟨z, ez⟩ : ∃ z, yd + x = z := ⟨_, rfl⟩
                  have fz : (yd : Int) + (x : Int) = (z : Int) := by omega
                  rw [eyd, ez] at hval hL
                  have iz : (z : Int) < (L : Int) := by omega
                  obtain ⟨⟨c0, c1, c2, c3, c4⟩, _⟩ := five HU6.out.box
                  have c4' : wr.cell? ⟨B, 4, none⟩ = some (.slice (some ⟨G, 0, none⟩) 3 c) := c4
                  have cp := HU6.out.wf.cell p hlt
                  rw [EL.out] at cp
                  have hrow := HU6.out.wf.row p hlt
                  rw [EL.out] at hrow
                  have HS := Hid.mk ((HU6.out.set (p := p) (j := z) (v := X) hlt (by rw [EL.out]; exact hL)).congr (F' := dnF Fn p (y * d + (x + 1))) (fun i _ j _ => by
                    rw [← Nat.add_assoc, eyd, ez]
                    unfold dnF
                    by_cases e : i = p ∧ j = z
                    · rw [if_pos e, if_pos (.inr ⟨e.1, by omega⟩), e.1, e.2, hval]
                    · rw [if_neg e]
                      by_cases e2 : i < p ∨ (i = p ∧ j < z)
                      · rw [if_pos e2, if_pos (by omega)]
                      · rw [if_neg e2, if_neg (by omega)]))
                  obtain ⟨g, eg⟩ : ∃ g, bs p = g := ⟨_, rfl⟩
                  rw [eg] at cp hrow HS
                  have ck := hrow.at hL
                  have cf := hrow.fz z
                  clear hrow eg c0 c1 c2 c3 c4 hval eX eV eyd ez
                  go_wp2_with (fail)
                  exact ⟨⟨x + 1, by omega, by go_num, HS.out⟩, by simp [intOf]; omega⟩
            · obtain rfl : x = d := by omega
              go_wp2_with (fail)
              exact ⟨⟨y + 1, by omega, by go_num, by rw [Nat.add_mul, Nat.one_mul]; exact HU4.out⟩, by simp [intOf]; omega⟩
        · obtain rfl : y = h := by omega
          have HS := Hid.mk (HU3.out.congr (F' := dnF Fn (p + 1) 0) (fun i _ j hj => by
            unfold dnF
            by_cases e : i = p
            · subst e
              rw [HL.out, Nat.mul_comm] at hj
              rw [if_pos (.inr ⟨rfl, hj⟩), if_pos (.inl (by omega))]
            · by_cases e2 : i < p
              · rw [if_pos (.inl e2), if_pos (.inl (by omega))]
              · rw [if_neg (by omega), if_neg (by omega)]))
          go_wp2_with (fail)
          exact ⟨⟨p + 1, by omega, by go_num, HS.out⟩, by simp [intOf]; omega⟩
    · obtain rfl : p = 3 := by omega
      clear q0 q1 q2 q3
      obtain ⟨⟨c0, c1, c2, c3, c4⟩, _⟩ := five HU1.out.box
      have HPL := Hid.mk ((HU1.out.wf.congr (F' := Fn) (fun i hi j _ => by unfold dnF; rw [if_pos (.inl hi)])))
      go_wp2_with (fail)
      refine (C19.out _ G c HPL.out.pl).mono ?_
      rintro e w6 ⟨gq, rfl, hgq, hcb, hk6⟩
      have HU7 := Hid.mk (HU1.out.keep hk6)
      have HW7 := Hid.mk (HPL.out.keep hk6)
      clear c0 c1 c2 c3 c4
      have s1 : Sem.run Tryd.prog (convert 37 9 (.slice (some ⟨gq, 0, none⟩) M M)) w6 = .ok (.string (Bt.bstr ((List.range M).map (obF W Fn 3 0)))) w6 := Bt.reads_str' (.inr ⟨gq, 0, rfl, fun i hi => by
        have hi' : i < M := by simpa using hi
        rw [Nat.zero_add, hcb.at hi']
        simp [Bt.byt, hi']⟩) (by simp) M
      have s2 : Sem.run Tryd.prog (convert 37 9 (.slice (some ⟨gb, ob, none⟩) M cb)) w6 = .ok (.string (Bt.bstr ((List.range M).map fb))) w6 := Bt.reads_str' (HBY.out.keep (kept_to (HB.out.2.1.trans HU7.out.kept))) (by simp) cb
      obtain ⟨⟨c0, c1, c2, c3, c4⟩, _⟩ := five HU7.out.box
      obtain ⟨⟨r0, r1, r2, r3, r4⟩, s0', s1', s2', s3', s4'⟩ := five HU7.out.res
      clear hcb hk6 hgq
      by_cases hgood : ∀ k, k < h → rwOk W fb k
      · have e1 := HAG.out.2 hgood
        rw [e1] at s1
        have HGD := Hid.mk hgood
        clear hgood e1
        obtain ⟨l2, el2⟩ : ∃ l2, Bt.bstr ((List.range M).map fb) = l2 := ⟨_, rfl⟩
        rw [el2] at s1 s2
        clear el2
        go_wp2_with (fail)
        have s5 := set5 (.int .i64 W) (.int .i64 (h : Int)) (.int .i64 10) (.bool false) (.slice (some ⟨G, 0, none⟩) 3 c) HU7.out.res
        refine bodyPost_ret (v := .tuple #[frv W (h : Int) 10 false (some ⟨G, 0, none⟩) 3 c, .int .i64 0]) ?_ rfl ⟨fun _ => ⟨G, c, bs, rfl, ?_, ?_⟩, fun hb => absurd HGD.out hb⟩
        · exact results_two rfl _ _ b1 31 _ (0, 0) _ _ rfl s5.1 Tryd.underlying31 Tryd.info38 rfl
        · exact (HW7.out.kept s5.2 (fun x hx => .inl (by simp at hx; subst hx; exact HU1.out.p1))).low HB.out.2.1.size
        · exact (HB.out.2.1.trans HU7.out.kept).step s5.2 (fun y hy => by simp at hy; right; have := HB.out.2.2.2.2; omega)
      · have e1 : ¬ (Bt.bstr ((List.range M).map (obF W Fn 3 0))).toList = (Bt.bstr ((List.range M).map fb)).toList := fun e => hgood (HAG.out.1 (str_inj HLT.out.2 HLT.out.1 e))
        have HGD := Hid.mk hgood
        obtain ⟨l1, el1⟩ : ∃ l1, Bt.bstr ((List.range M).map (obF W Fn 3 0)) = l1 := ⟨_, rfl⟩
        obtain ⟨l2, el2⟩ : ∃ l2, Bt.bstr ((List.range M).map fb) = l2 := ⟨_, rfl⟩
        rw [el1, el2] at e1
        rw [el1] at s1
        rw [el2] at s2
        have e2 : (l1.toList == l2.toList) = false := by simpa using e1
        clear hgood el1 el2 e1
        go_wp2_with (fail)
        have s5 := set5 (.int .i64 0) (.int .i64 0) (.int .i64 0) (.bool false) (.slice none 0 0) HU7.out.res
        refine bodyPost_ret (v := .tuple #[frv 0 0 0 false none 0 0, .int .i64 73]) ?_ rfl ⟨fun hb => absurd hb HGD.out, fun _ => ⟨rfl, ?_⟩⟩
        · exact results_two rfl _ _ b1 31 _ (0, 0) _ _ rfl s5.1 Tryd.underlying31 Tryd.info38 rfl
        · exact (HB.out.2.1.trans HU7.out.kept).step s5.2 (fun y hy => by simp at hy; right; have := HB.out.2.2.2.2; omega)
end Go.Proofs.YtodlkpcbkilglaaDoor

namespace Go.Proofs.YtodlkpcbkilglaaDoor
open Go.RowKit Go.Shelf
attribute [local go_sem] Oper.semAt_some

set_option maxHeartbeats 16000000 in
set_option maxRecDepth 1000000 in
/-- The document's UnpackPlanar of bytes that are as many as must be. -/
theorem rupl_yes (W D : Int) (A : Bool) (h gb ob cb M : Nat) (fb : Nat → Nat) (w : World) (hs : Shp W (h : Int) D A) (hM : M = ctL (plL W h) (np A * h)) (hc : ∀ i, i < M → w.cell? ⟨gb, ob + i, none⟩ = some (.int .u8 (fb i : Int))) (hfb : ∀ i, i < M → fb i < 256) :
    Calls Tryd.prog 49 #[shv W (h : Int) D A, .slice (some ⟨gb, ob, none⟩) M cb] w fun e w' => ((∀ p, p < np A → ∀ j, j < pz W (h : Int) p → pnF W h fb p j ≤ mx D) → ∃ G c bs, e = .returned (.tuple #[frv W (h : Int) D A (some ⟨G, 0, none⟩) (np A) c, .int .i64 0]) ∧ Wf w.heap.size w' G bs (np A) (pz W (h : Int)) (pnF W h fb) ∧ Kept [] w w') ∧
      ((¬ ∀ p, p < np A → ∀ j, j < pz W (h : Int) p → pnF W h fb p j ≤ mx D) → e = .returned (.tuple #[frv 0 0 0 false none 0 0, .int .i64 73]) ∧ Kept [] w w') := by
  have h1W : 1 ≤ W := hs.1.1
  have h1 : 1 ≤ h := by have := hs.2.1; omega
  have hMs : sS W (h : Int) (fun x => 2 * x) (fun i => i) (np A) = ((ctL (plL W h) (np A * h) : Nat) : Int) := (ctL_sS (plL W h) (fun i => 2 * wdN W i) W h (fun x => 2 * x) (fun i => i) h1 (fun k => rfl) _ (fun i _ => rfl)).symm
  rw [← hM, sS_planar A h1W] at hMs
  have hMb : M ≤ 8388608 := by have := hs.2.2.2; omega
  have C11 : Hid (∀ u, Calls Tryd.prog 11 #[shv W (h : Int) D A] u fun e w' => e = .returned (.tuple #[.int .i64 (M : Int), .int .i64 0]) ∧ Kept [] u w') := Hid.mk (fun u => (rplanarSize_any W (h : Int) D A u).mono (fun e w' => by
    rw [shE_ok hs, if_pos rfl, hMs]
    exact id))
  have CN : Hid (∀ u, Calls Tryd.prog 74 #[shv W (h : Int) D A] u fun e w' => ∃ G c bs, e = .returned (.tuple #[frv W (h : Int) D A (some ⟨G, 0, none⟩) (np A) c, .int .i64 0]) ∧ Wf u.heap.size w' G bs (np A) (pz W (h : Int)) (fun _ _ => 0) ∧ Kept [] u w') := Hid.mk (fun u => (rnew_any W (h : Int) D A u).mono (fun e w' hh => hh.1 (shE_ok hs)))
  have CM := Hid.mk (fun u => most_any D u)
  have hn4 := np_hi A
  have hn1 := np_lo A
  have hMx : mx D ≤ 4095 := by unfold mx; split <;> omega
  have hA := pn_at hs fb
  have hNx := pn_next hs
  have hle : ∀ p, p < np A → ctL (plL W h) (p * h) + 2 * pz W (h : Int) p ≤ M := fun p hp => by
    rw [← hNx p, hM]
    exact ctL_mono _ (Nat.mul_le_mul_right _ hp)
  obtain ⟨Fn, eFn⟩ : ∃ Fn, pnF W h fb = Fn := ⟨_, rfl⟩
  have h0 : ctL (plL W h) (0 * h) = 0 := by rw [Nat.zero_mul]; rfl
  obtain ⟨a, ea⟩ : ∃ a : Nat → Nat, ∀ p, ctL (plL W h) (p * h) = a p := ⟨_, fun p => rfl⟩
  simp only [ea] at hA hNx hle h0
  rw [eFn] at hA ⊢
  obtain ⟨m, em⟩ : ∃ m, mx D = m := ⟨_, rfl⟩
  rw [em] at CM hMx ⊢
  have HF := Hid.mk (And.intro hA (And.intro hNx (And.intro hle h0)))
  have HC := Hid.mk (And.intro hc hfb)
  have hS0 := Sat.new w W (h : Int) D A 24
  have hk1 := alloc_kept w (.cells #[.int .i64 W, .int .i64 (h : Int), .int .i64 D, .bool A] 24)
  have hk2 := alloc_kept (w.alloc (.cells #[.int .i64 W, .int .i64 (h : Int), .int .i64 D, .bool A] 24)) (.cells #[.int .i64 0, .int .i64 0, .int .i64 0, .bool false, .slice none 0 0] 31)
  have hF := heap_alloc_new (w.alloc (.cells #[.int .i64 W, .int .i64 (h : Int), .int .i64 D, .bool A] 24)) (.cells #[.int .i64 0, .int .i64 0, .int .i64 0, .bool false, .slice none 0 0] 31)
  rw [World.size_alloc] at hF
  have hS := hS0.keep hk2 (by simp)
  have hk0 := hk1.trans hk2
  obtain ⟨wa, ewa⟩ : ∃ wa, wa = (w.alloc (.cells #[.int .i64 W, .int .i64 (h : Int), .int .i64 D, .bool A] 24)).alloc (.cells #[.int .i64 0, .int .i64 0, .int .i64 0, .bool false, .slice none 0 0] 31) := ⟨_, rfl⟩
  rw [← ewa] at hS hk0 hF
  obtain ⟨b0, eb0⟩ : ∃ b0, b0 = w.heap.size := ⟨_, rfl⟩
  obtain ⟨b1, eb1⟩ : ∃ b1, b1 = w.heap.size + 1 := ⟨_, rfl⟩
  rw [← eb0] at hS
  rw [← eb1] at hF
  have hbw : b1 < wa.heap.size := lt_of_block hF
  have HB := Hid.mk (And.intro hF (And.intro hk0 (And.intro hS (And.intro eb0 eb1))))
  obtain ⟨q0, q1, q2, q3⟩ := hS
  clear hk0 hk1 hk2 hS0 hF hs h1W h1 hMs hA hNx hle h0 hc hfb ea eFn hM em
  go_enter Tryd.func49, Tryd.ntmps49
  go_wp2_with (fail)
  rw [← ewa, ← eb1, ← eb0]
  have HBW : Hid (b0 < wa.heap.size ∧ b1 < wa.heap.size) := Hid.mk ⟨by omega, hbw⟩
  clear eb1 ewa eb0 hbw
  refine (C11.out _).mono ?_
  rintro e w2 ⟨rfl, hk2⟩
  have HK2 := Hid.mk hk2
  clear q0 q1 q2 q3
  obtain ⟨q0, q1, q2, q3⟩ := HB.out.2.2.1.keep hk2 (by simp)
  clear hk2 C11
  go_wp2_with (fail)
  refine (CN.out _).mono ?_
  rintro e w3 ⟨G, c, bs, rfl, hwf, hk3⟩
  have hk4 := alloc_kept w3 (.cells #[.int .i64 W, .int .i64 (h : Int), .int .i64 D, .bool A, .slice (some ⟨G, 0, none⟩) (np A) c] 31)
  have hB4 := heap_alloc_new w3 (.cells #[.int .i64 W, .int .i64 (h : Int), .int .i64 D, .bool A, .slice (some ⟨G, 0, none⟩) (np A) c] 31)
  have HU : Hid (Uq wa (w3.alloc (.cells #[.int .i64 W, .int .i64 (h : Int), .int .i64 D, .bool A, .slice (some ⟨G, 0, none⟩) (np A) c] 31)) b0 b1 w3.heap.size G bs W (h : Int) D A c (dnF Fn 0 0)) := Hid.mk
    ⟨((hwf.low HK2.out.size).keep hk4).congr (fun i _ j _ => by unfold dnF; rw [if_neg (by omega)]), hB4, ((HK2.out.trans hk3).trans hk4).heap HB.out.1 (by simp), HB.out.2.2.1.keep ((HK2.out.trans hk3).trans hk4) (by simp), HBW.out.1, HBW.out.2, (HK2.out.trans hk3).size, (HK2.out.trans hk3).trans hk4⟩
  go_wp2_with (fail)
  obtain ⟨w4, ew4⟩ : ∃ w4, w4 = w3.alloc (.cells #[.int .i64 W, .int .i64 (h : Int), .int .i64 D, .bool A, .slice (some ⟨G, 0, none⟩) (np A) c] 31) := ⟨_, rfl⟩
  obtain ⟨B, eB⟩ : ∃ B, B = w3.heap.size := ⟨_, rfl⟩
  rw [← ew4, ← eB] at HU ⊢
  clear ew4 eB hk3 hk4 hB4 hwf q0 q1 q2 q3 CN
  obtain ⟨n, en⟩ : ∃ n, np A = n := ⟨_, rfl⟩
  rw [en] at hn4 hn1 HF ⊢
  have HEN := Hid.mk en
  clear en
  go_loopw [10, 11, 12, 13] (fun t i _ _ wr => ∃ p : Nat, p ≤ n ∧ i = .int .i64 (p : Int) ∧ t = .int .i64 ((a p : Nat) : Int) ∧ Uq wa wr b0 b1 B G bs W (h : Int) D A c (dnF Fn p 0) ∧ ∀ q, q < p → ∀ j, j < pz W (h : Int) q → Fn q j ≤ m) (fun _ i _ _ _ => n - (intOf i).toNat)
  case atStart => exact ⟨0, by omega, rfl, by rw [HF.out.2.2.2]; rfl, HU.out, fun q hq => by omega⟩
  case round =>
    obtain ⟨p, hp, rfl, rfl, hU, hG⟩ := hrel
    have HU1 := Hid.mk hU
    have HG := Hid.mk hG
    obtain ⟨⟨c0, c1, c2, c3, c4⟩, _⟩ := five hU.box
    rw [HEN.out] at c4
    clear hU hG
    by_cases hlt : p < n
    · have ix : (p : Int) < (n : Int) := by omega
      obtain ⟨ap, eap⟩ : ∃ ap, a p = ap := ⟨_, rfl⟩
      obtain ⟨L, eL⟩ : ∃ L, pz W (h : Int) p = L := ⟨_, rfl⟩
      have hlM := HF.out.2.2.1 p hlt
      rw [eap, eL] at hlM
      rw [eap]
      have EE := Hid.mk (And.intro eap eL)
      clear eap eL
      go_wp2_with (fail)
      go_loopw [10, 12, 13] (fun t i _ wr => ∃ k t' : Nat, k ≤ L ∧ i = .int .i64 (k : Int) ∧ t = .int .i64 (t' : Int) ∧ t' = ap + 2 * k ∧ Uq wa wr b0 b1 B G bs W (h : Int) D A c (dnF Fn p k) ∧ ∀ j, j < k → Fn p j ≤ m) (fun _ i _ _ => L - (intOf i).toNat)
      case atStart => exact ⟨0, ap, by omega, rfl, rfl, rfl, HU1.out, fun q hq => by omega⟩
      case round =>
        obtain ⟨k, t, hk, rfl, rfl, ht, hU, hG⟩ := hrel
        have HU2 := Hid.mk hU
        have HG2 := Hid.mk hG
        clear c0 c1 c2 c3 c4
        obtain ⟨⟨c0, c1, c2, c3, c4⟩, _⟩ := five hU.box
        rw [HEN.out] at c4
        have cp := hU.wf.cell p (by rw [HEN.out]; exact hlt)
        rw [EE.out.2] at cp
        obtain ⟨g, eg⟩ : ∃ g, bs p = g := ⟨_, rfl⟩
        rw [eg] at cp
        have EG := Hid.mk eg
        clear hU hG eg
        by_cases hlk : k < L
        · have ik : (k : Int) < (L : Int) := by omega
          obtain ⟨t1, et1⟩ : ∃ t1, t + 1 = t1 := ⟨_, rfl⟩
          have f1 : (t : Int) + 1 = (t1 : Int) := by omega
          have it0 : (t : Int) < (M : Int) := by omega
          have it1 : (t1 : Int) < (M : Int) := by omega
          have it3 : (t1 : Int) ≤ 8388608 := by omega
          have HKw := Hid.mk ((HB.out.2.1).trans HU2.out.kept)
          have x0 := cell_keep HKw.out (HC.out.1 t (by omega)) (by simp)
          have x1 := cell_keep HKw.out (HC.out.1 t1 (by omega)) (by simp)
          have y0 := HC.out.2 t (by omega)
          have y1 := HC.out.2 t1 (by omega)
          have hX := HF.out.1 p k (by rw [EE.out.2]; exact hlk)
          rw [EE.out.1, ← ht, et1] at hX
          obtain ⟨X0, e0⟩ : ∃ X0, fb t = X0 := ⟨_, rfl⟩
          obtain ⟨X1, e1⟩ : ∃ X1, fb t1 = X1 := ⟨_, rfl⟩
          rw [e0] at x0 y0 hX
          rw [e1] at x1 y1 hX
          obtain ⟨X, eX⟩ : ∃ X, Fn p k = X := ⟨_, rfl⟩
          rw [eX] at hX
          have fX : (X0 : Int) + 256 * (X1 : Int) = (X : Int) := by omega
          have w0 : IntKind.i64.wrap (X0 : Int) = (X0 : Int) := wrap_i (by omega) (by omega)
          have w1 : IntKind.i64.wrap (X1 : Int) = (X1 : Int) := wrap_i (by omega) (by omega)
          have w2 : IntKind.i64.wrap (256 * (X1 : Int)) = 256 * (X1 : Int) := wrap_i (by omega) (by omega)
          have w3 : IntKind.i64.wrap (X : Int) = (X : Int) := wrap_i (by omega) (by omega)
          have wt : IntKind.i64.wrap (t1 : Int) = (t1 : Int) := wrap_i (by omega) (by omega)
          have hX2 : X ≤ 65535 := by omega
          have EX := Hid.mk eX
          have HT := Hid.mk ht
          have ED := Hid.mk HU2.out.sat
          clear e0 e1 eX ht et1 hX
          go_wp2_with (fail)
          go_quiet (fail)
          have hkq := (Kept.refl [] wr).drewN nq
          have HU3 := Hid.mk (HU2.out.keep hkq)
          obtain ⟨wq, ewq⟩ : ∃ wq, wr.drewN nq = wq := ⟨_, rfl⟩
          rw [ewq] at HU3 ⊢
          clear ewq hkq x0 x1 w0 w1 w2 w3 wt fX c0 c1 c2 c3 c4 cp
          obtain ⟨q0, q1, q2, q3⟩ := HU3.out.sat
          obtain ⟨⟨c0, c1, c2, c3, c4⟩, _⟩ := five HU3.out.box
          rw [HEN.out] at c4
          have cp := HU3.out.wf.cell p (by rw [HEN.out]; exact hlt)
          rw [EE.out.2, EG.out] at cp
          have hrow := HU3.out.wf.row p (by rw [HEN.out]; exact hlt)
          rw [EG.out, EE.out.2] at hrow
          have ck := hrow.at hlk
          have cf := hrow.fz k
          have w16 : IntKind.u16.wrap (X : Int) = (X : Int) := by rw [IntKind.wrap_u16]; omega
          by_cases hgt : X ≤ m
          · have hgi : ¬ (m : Int) < (X : Int) := by omega
            have HS := Hid.mk ((HU3.out.set (p := p) (j := k) (v := X) (by rw [HEN.out]; exact hlt) (by rw [EE.out.2]; exact hlk)).congr (F' := dnF Fn p (k + 1)) (fun i _ j _ => by
              unfold dnF
              by_cases e : i = p ∧ j = k
              · rw [if_pos e, if_pos (.inr ⟨e.1, by omega⟩), e.1, e.2, EX.out]
              · rw [if_neg e]
                by_cases e2 : i < p ∨ (i = p ∧ j < k)
                · rw [if_pos e2, if_pos (by omega)]
                · rw [if_neg e2, if_neg (by omega)]))
            rw [EG.out] at HS
            clear hrow
            go_wp2_with (go_at_call 75; refine (CM.out _).mono ?_; rintro e w5 ⟨rfl, rfl⟩)
            refine ⟨⟨k + 1, t + 2, by omega, by go_num, by go_num, by have := HT.out; omega, HS.out, fun j hj => ?_⟩, by simp [intOf]; omega⟩
            rcases Nat.lt_succ_iff_lt_or_eq.1 hj with h8 | h8
            · exact HG2.out j h8
            · rw [h8, EX.out]; exact hgt
          · have hgi : (m : Int) < (X : Int) := by omega
            obtain ⟨⟨r0, r1, r2, r3, r4⟩, s0, s1, s2, s3, s4⟩ := five HU3.out.res
            clear hrow ck cf w16
            go_wp2_with (go_at_call 75; refine (CM.out _).mono ?_; rintro e w5 ⟨rfl, rfl⟩)
            have s5 := set5 (.int .i64 0) (.int .i64 0) (.int .i64 0) (.bool false) (.slice none 0 0) HU3.out.res
            refine bodyPost_ret (v := .tuple #[frv 0 0 0 false none 0 0, .int .i64 73]) ?_ rfl ⟨fun hb => absurd (hb p (by first | exact hlt | (rw [HEN.out]; exact hlt)) k (by rw [EE.out.2]; exact hlk)) (by rw [EX.out]; exact hgt), fun _ => ⟨rfl, ?_⟩⟩
            · exact results_two rfl _ _ b1 31 _ (0, 0) _ _ rfl s5.1 Tryd.underlying31 Tryd.info38 rfl
            · exact (HB.out.2.1.trans HU3.out.kept).step s5.2 (fun y hy => by simp at hy; right; have := HB.out.2.2.2.2; omega)
        · obtain rfl : k = L := by omega
          have HS := Hid.mk (HU2.out.congr (F' := dnF Fn (p + 1) 0) (fun i _ j hj => by
            unfold dnF
            by_cases e : i = p
            · subst e
              rw [EE.out.2] at hj
              rw [if_pos (.inr ⟨rfl, hj⟩), if_pos (.inl (by omega))]
            · by_cases e2 : i < p
              · rw [if_pos (.inl e2), if_pos (.inl (by omega))]
              · rw [if_neg (by omega), if_neg (by omega)]))
          have hnx := HF.out.2.1 p
          rw [EE.out.1, EE.out.2] at hnx
          have HT := Hid.mk (And.intro hnx ht)
          clear hnx ht
          go_wp2_with (fail)
          refine ⟨⟨p + 1, by omega, by go_num, by rw [HT.out.1, HT.out.2], HS.out, fun q hq j hj => ?_⟩, by simp [intOf]; omega⟩
          rcases Nat.lt_succ_iff_lt_or_eq.1 hq with h8 | h8
          · exact HG.out q h8 j hj
          · subst h8
            rw [EE.out.2] at hj
            exact HG2.out j hj
    · obtain rfl : p = n := by omega
      obtain ⟨⟨r0, r1, r2, r3, r4⟩, s0, s1, s2, s3, s4⟩ := five HU1.out.res
      go_wp2_with (fail)
      have s5 := set5 (.int .i64 W) (.int .i64 (h : Int)) (.int .i64 D) (.bool A) (.slice (some ⟨G, 0, none⟩) p c) HU1.out.res
      refine bodyPost_ret (v := .tuple #[frv W (h : Int) D A (some ⟨G, 0, none⟩) p c, .int .i64 0]) ?_ rfl ⟨fun _ => ⟨G, c, bs, by rw [HEN.out], ?_, ?_⟩, fun hb => absurd (fun q hq j hj => HG.out q (by rw [← HEN.out]; exact hq) j hj) hb⟩
      · exact results_two rfl _ _ b1 31 _ (0, 0) _ _ rfl s5.1 Tryd.underlying31 Tryd.info38 rfl
      · have h9 := ((HU1.out.wf.congr (F' := Fn) (fun i hi j _ => by unfold dnF; rw [HEN.out] at hi; rw [if_pos (.inl hi)])).kept s5.2 (fun x hx => .inl (by simp at hx; subst hx; exact HU1.out.p1))).low HB.out.2.1.size
        exact h9
      · exact (HB.out.2.1.trans HU1.out.kept).step s5.2 (fun y hy => by simp at hy; right; have := HB.out.2.2.2.2; omega)
end Go.Proofs.YtodlkpcbkilglaaDoor

namespace Go.Proofs.YtodlkpcbkilglaaDoor
open Go.RowKit Go.Shelf

/-- What the document's unpacking answers, read. -/
def UdR (lo : Nat) (E W H D : Int) (A : Bool) (F : Nat → Nat → Nat) (w' : World) (x1 x2 x3 : Int) (x4 : Bool) (po : Option Addr) (n : Nat) : Prop :=
  (E = 0 → x1 = W ∧ x2 = H ∧ x3 = D ∧ x4 = A ∧ n = np A ∧ ∃ G bs, po = some ⟨G, 0, none⟩ ∧ Wf lo w' G bs (np A) (pz W H) F) ∧ (E ≠ 0 → x1 = 0 ∧ x2 = 0 ∧ x3 = 0 ∧ x4 = false ∧ po = none ∧ n = 0)
theorem UdR.kept {lo : Nat} {E W H D : Int} {A : Bool} {F : Nat → Nat → Nat} {w w' : World} {x1 x2 x3 : Int} {x4 : Bool} {po : Option Addr} {n : Nat} {ks : List Nat} (h : UdR lo E W H D A F w x1 x2 x3 x4 po n) (hk : Kept ks w w') (hl : ∀ b ∈ ks, b < lo) : UdR lo E W H D A F w' x1 x2 x3 x4 po n := by
  refine ⟨fun e => ?_, h.2⟩
  obtain ⟨a1, a2, a3, a4, a5, G, bs, a6, a7⟩ := h.1 e
  exact ⟨a1, a2, a3, a4, a5, G, bs, a6, a7.kept hk (fun x hx => .inl (hl x hx))⟩
theorem UdR.keep {lo : Nat} {E W H D : Int} {A : Bool} {F : Nat → Nat → Nat} {w w' : World} {x1 x2 x3 : Int} {x4 : Bool} {po : Option Addr} {n : Nat} (h : UdR lo E W H D A F w x1 x2 x3 x4 po n) (hk : Kept [] w w') : UdR lo E W H D A F w' x1 x2 x3 x4 po n := h.kept hk (by simp)
theorem UdR.low {lo lo' : Nat} {E W H D : Int} {A : Bool} {F : Nat → Nat → Nat} {w : World} {x1 x2 x3 : Int} {x4 : Bool} {po : Option Addr} {n : Nat} (h : UdR lo E W H D A F w x1 x2 x3 x4 po n) (hl : lo' ≤ lo) : UdR lo' E W H D A F w x1 x2 x3 x4 po n := by
  refine ⟨fun e => ?_, h.2⟩
  obtain ⟨a1, a2, a3, a4, a5, G, bs, a6, a7⟩ := h.1 e
  exact ⟨a1, a2, a3, a4, a5, G, bs, a6, a7.low hl⟩
theorem UdR.err {lo : Nat} {E W H D : Int} {A : Bool} {F : Nat → Nat → Nat} {w : World} (h : E ≠ 0) : UdR lo E W H D A F w 0 0 0 false none 0 := ⟨fun e => absurd e h, fun _ => ⟨rfl, rfl, rfl, rfl, rfl, rfl⟩⟩
/-- The document's UnpackPlanar of any bytes. -/
theorem rul_any (W H D : Int) (A : Bool) (bo : Option Addr) (M cb : Nat) (fb : Nat → Nat) (w : World) (hb : RB w bo M fb) (hfb : ∀ i, i < M → fb i < 256) :
    Calls Tryd.prog 49 #[shv W H D A, .slice bo M cb] w fun e w' => ∃ x1 x2 x3 x4 po n k, e = .returned (.tuple #[frv x1 x2 x3 x4 po n k, .int .i64 (plE W H D A M fb)]) ∧ Kept [] w w' ∧ UdR w.heap.size (plE W H D A M fb) W H D A (pnF W H.toNat fb) w' x1 x2 x3 x4 po n := by
  by_cases hE : shE W H D A = 0
  · have hs := shp_of hE
    obtain ⟨h, rfl⟩ : ∃ h : Nat, H = (h : Int) := ⟨H.toNat, by have := hs.2.1; omega⟩
    have h1 : 1 ≤ h := by have := hs.2.1; omega
    have hw : ∀ p, 1 ≤ wdN W p := fun p => (wdN_ok hs p).1
    have hMs : sS W (h : Int) (fun x => 2 * x) (fun i => i) (np A) = ((ctL (plL W h) (np A * h) : Nat) : Int) := (ctL_sS (plL W h) (fun i => 2 * wdN W i) W h (fun x => 2 * x) (fun i => i) h1 (fun k => rfl) _ (fun i _ => rfl)).symm
    rw [sS_planar A hs.1.1] at hMs
    by_cases hM : M = ctL (plL W h) (np A * h)
    · have hMp : 0 < M := by
        have hm := ctL_mono (plL W h) (show 1 ≤ np A * h from Nat.mul_pos (by have := np_lo A; omega) h1)
        have h5 : ctL (plL W h) 1 = 0 + plL W h 0 := rfl
        have h6 : plL W h 0 = 2 * wdN W (0 / h) := rfl
        have h7 := hw (0 / h)
        omega
      rcases hb with hb | ⟨gb, ob, rfl, hc⟩
      · omega
      refine (rupl_yes W D A h gb ob cb M fb w hs hM hc hfb).mono ?_
      rintro e w' ⟨p1, p2⟩
      by_cases hv : vE W (h : Int) D A (np A) (pz W (h : Int)) (pnF W h fb) = 0
      · have e0 : plE W (h : Int) D A M fb = 0 := by unfold plE; rw [if_pos hE, if_pos (by simpa using hM), if_pos (by simpa using hv)]
        obtain ⟨G, c, bs, rfl, hp, hk⟩ := p1 (vE_zero.1 hv).top
        exact ⟨_, _, _, _, _, _, _, by rw [e0], hk, fun _ => ⟨rfl, rfl, rfl, rfl, rfl, G, bs, rfl, by simpa using hp⟩, fun h => absurd e0 h⟩
      · have e0 : plE W (h : Int) D A M fb = 73 := by unfold plE; rw [if_pos hE, if_pos (by simpa using hM), if_neg (by simpa using hv)]
        obtain ⟨rfl, hk⟩ := p2 (fun hg => hv (vE_zero.2 (vld_zero hs _ hg)))
        exact ⟨_, _, _, _, _, _, _, by rw [e0], hk, .err (by rw [e0]; decide)⟩
    · have e0 : plE W (h : Int) D A M fb = 72 := by unfold plE; rw [if_pos hE, if_neg (by simpa using hM)]
      refine (rupl_no W (h : Int) D A bo M cb ((ctL (plL W h) (np A * h) : Nat) : Int) 0 w (fun u => ?_) (.inr (by omega))).mono ?_
      · have CZ := rplanarSize_any W (h : Int) D A u
        rw [hE] at CZ
        simpa [hMs] using CZ
      · rintro e w' ⟨rfl, hk⟩
        exact ⟨_, _, _, _, _, _, _, by rw [e0, if_pos rfl], hk, .err (by rw [e0]; decide)⟩
  · have e0 : plE W H D A M fb = 61 := by unfold plE; rw [if_neg hE]
    refine (rupl_no W H D A bo M cb 0 61 w (fun u => ?_) (.inl (by decide))).mono ?_
    · have CZ := rplanarSize_any W H D A u
      have e61 : shE W H D A = 61 := by rcases shE_two W H D A with h | h; exact absurd h.1 hE; exact h.1
      simpa [e61] using CZ
    · rintro e w' ⟨rfl, hk⟩
      exact ⟨_, _, _, _, _, _, _, by rw [e0]; rfl, hk, .err (by rw [e0]; decide)⟩
/-- The document's UnpackV210 of any bytes. -/
theorem ru210_any (W H D : Int) (A : Bool) (bo : Option Addr) (M cb : Nat) (fb : Nat → Nat) (w : World) (hb : RB w bo M fb) (hfb : ∀ i, i < M → fb i < 256) (hcb : M ≤ cb) :
    Calls Tryd.prog 48 #[shv W H D A, .slice bo M cb] w fun e w' => ∃ x1 x2 x3 x4 po n k, e = .returned (.tuple #[frv x1 x2 x3 x4 po n k, .int .i64 (v2E W H D A M fb)]) ∧ Kept [] w w' ∧ UdR w.heap.size (v2E W H D A M fb) W H D A (vnF W fb) w' x1 x2 x3 x4 po n := by
  by_cases hE : shE W H D A = 0
  · have hs := shp_of hE
    by_cases hDA : D = 10 ∧ A = false
    · obtain ⟨h, rfl⟩ : ∃ h : Nat, H = (h : Int) := ⟨H.toNat, by have := hs.2.1; omega⟩
      have h1 : 1 ≤ h := by have := hs.2.1; omega
      have hw : ∀ p, 1 ≤ wdN W p := fun p => (wdN_ok hs p).1
      have hMs : sS W (h : Int) (fun x => (x + 47) / 48 * 128) (fun _ => 0) 1 = ((ctL (v2L W) (1 * h) : Nat) : Int) := (ctL_sS (v2L W) (fun _ => 4 * ((wdN W 0 + 47) / 48 * 32)) W h (fun x => (x + 47) / 48 * 128) (fun _ => 0) h1 (fun k => rfl) _ (fun i _ => by show 4 * ((wdN W 0 + 47) / 48 * 32) = (wdN W 0 + 47) / 48 * 128; omega)).symm
      rw [sS_v210 hs.1.1] at hMs
      by_cases hM : M = ctL (v2L W) (1 * h)
      · have hMp : 0 < M := by
          have hm := ctL_mono (v2L W) (show 1 ≤ 1 * h by omega)
          have h5 : ctL (v2L W) 1 = 0 + v2L W 0 := rfl
          have h6 : v2L W 0 = 4 * ((wdN W 0 + 47) / 48 * 32) := rfl
          have h7 := hw 0
          omega
        rcases hb with hb | ⟨gb, ob, rfl, hc⟩
        · omega
        obtain ⟨rfl, rfl⟩ := hDA
        refine (ru210_yes W h gb ob cb M fb w hs hM hcb hc hfb).mono ?_
        rintro e w' ⟨p1, p2⟩
        by_cases hv : ∀ k, k < h → rwOk W fb k
        · have e0 : v2E W (h : Int) 10 false M fb = 0 := by unfold v2E; rw [if_pos hE, if_pos ⟨rfl, rfl⟩, if_pos (by simpa using hM), if_pos (by simpa using hv)]
          obtain ⟨G, c, bs, rfl, hp, hk⟩ := p1 hv
          exact ⟨_, _, _, _, _, _, _, by rw [e0], hk, fun _ => ⟨rfl, rfl, rfl, rfl, rfl, G, bs, rfl, hp⟩, fun h => absurd e0 h⟩
        · have e0 : v2E W (h : Int) 10 false M fb = 73 := by unfold v2E; rw [if_pos hE, if_pos ⟨rfl, rfl⟩, if_pos (by simpa using hM), if_neg (by simpa using hv)]
          obtain ⟨rfl, hk⟩ := p2 hv
          exact ⟨_, _, _, _, _, _, _, by rw [e0], hk, .err (by rw [e0]; decide)⟩
      · have e0 : v2E W (h : Int) D A M fb = 72 := by unfold v2E; rw [if_pos hE, if_pos hDA, if_neg (by simpa using hM)]
        refine (ru210_no W (h : Int) D A bo M cb ((ctL (v2L W) (1 * h) : Nat) : Int) 0 w (fun u => ?_) (.inr (by omega))).mono ?_
        · have CZ := rv210Size_any W (h : Int) D A u
          rw [hE, show (decide (D = 10) && !A) = true by rw [hDA.1, hDA.2]; rfl] at CZ
          simpa [hMs] using CZ
        · rintro e w' ⟨rfl, hk⟩
          exact ⟨_, _, _, _, _, _, _, by rw [e0, if_pos rfl], hk, .err (by rw [e0]; decide)⟩
    · have e0 : v2E W H D A M fb = 71 := by unfold v2E; rw [if_pos hE, if_neg hDA]
      refine (ru210_no W H D A bo M cb 0 71 w (fun u => ?_) (.inl (by decide))).mono ?_
      · have CZ := rv210Size_any W H D A u
        have hd : (decide (D = 10) && !A) = false := by
          by_cases h : D = 10
          · cases A
            · exact absurd ⟨h, rfl⟩ hDA
            · simp
          · simp [h]
        rw [hE, hd] at CZ
        simpa using CZ
      · rintro e w' ⟨rfl, hk⟩
        exact ⟨_, _, _, _, _, _, _, by rw [e0]; rfl, hk, .err (by rw [e0]; decide)⟩
  · have e0 : v2E W H D A M fb = 61 := by unfold v2E; rw [if_neg hE]
    refine (ru210_no W H D A bo M cb 0 61 w (fun u => ?_) (.inl (by decide))).mono ?_
    · have CZ := rv210Size_any W H D A u
      simpa [hE] using CZ
    · rintro e w' ⟨rfl, hk⟩
      exact ⟨_, _, _, _, _, _, _, by rw [e0]; rfl, hk, .err (by rw [e0]; decide)⟩
def UdC (v : Bool) (W H D : Int) (A : Bool) (M : Nat) (fb : Nat → Nat) (w : World) (e : Ending) (w' : World) : Prop := ∃ x1 x2 x3 x4 po n k, e = .returned (.tuple #[frv x1 x2 x3 x4 po n k, .int .i64 (unE v W H D A M fb)]) ∧ Kept [] w w' ∧ UdR w.heap.size (unE v W H D A M fb) W H D A (unF v W H fb) w' x1 x2 x3 x4 po n
set_option maxHeartbeats 8000000 in
set_option maxRecDepth 1000000 in
theorem ask25 (v : Bool) (W H D : Int) (A : Bool) (bo : Option Addr) (M cb : Nat) (fb : Nat → Nat) (w : World) (hb : RB w bo M fb) (hfb : ∀ i, i < M → fb i < 256) (hcb : M ≤ cb) :
    Calls Tryd.prog 25 #[.bool v, shv W H D A, .slice bo M cb] w fun e w' => UdC v W H D A M fb w e w' := by
  obtain ⟨E, eE⟩ : ∃ E, unE v W H D A M fb = E := ⟨_, rfl⟩
  obtain ⟨F, eF⟩ : ∃ F, unF v W H fb = F := ⟨_, rfl⟩
  have C : Hid (∀ u, Kept [] w u → Calls Tryd.prog (if v = true then 48 else 49) #[shv W H D A, .slice bo M cb] u fun e w' => ∃ x1 x2 x3 x4 po n k, e = .returned (.tuple #[frv x1 x2 x3 x4 po n k, .int .i64 E]) ∧ Kept [] u w' ∧ UdR u.heap.size E W H D A F w' x1 x2 x3 x4 po n) := Hid.mk (fun u hk => by
    rw [← eE, ← eF]
    cases v
    · exact rul_any W H D A bo M cb fb u (hb.keep hk) hfb
    · exact ru210_any W H D A bo M cb fb u (hb.keep hk) hfb hcb)
  unfold UdC
  rw [eE, eF]
  clear hb hfb eE eF
  have hS0 := Sat.new w W H D A 24
  have hk1 := alloc_kept w (.cells #[.int .i64 W, .int .i64 H, .int .i64 D, .bool A] 24)
  have hk2 := alloc_kept (w.alloc (.cells #[.int .i64 W, .int .i64 H, .int .i64 D, .bool A] 24)) (.cells #[.int .i64 0, .int .i64 0, .int .i64 0, .bool false, .slice none 0 0] 31)
  have hF := heap_alloc_new (w.alloc (.cells #[.int .i64 W, .int .i64 H, .int .i64 D, .bool A] 24)) (.cells #[.int .i64 0, .int .i64 0, .int .i64 0, .bool false, .slice none 0 0] 31)
  rw [World.size_alloc] at hF
  have hS := hS0.keep hk2 (by simp)
  have hk0 := hk1.trans hk2
  obtain ⟨wa, ewa⟩ : ∃ wa, wa = (w.alloc (.cells #[.int .i64 W, .int .i64 H, .int .i64 D, .bool A] 24)).alloc (.cells #[.int .i64 0, .int .i64 0, .int .i64 0, .bool false, .slice none 0 0] 31) := ⟨_, rfl⟩
  rw [← ewa] at hS hk0 hF
  obtain ⟨q0, q1, q2, q3⟩ := hS
  obtain ⟨b1, eb1⟩ : ∃ b1, b1 = w.heap.size + 1 := ⟨_, rfl⟩
  rw [← eb1] at hF
  have HB := Hid.mk (And.intro hF (And.intro eb1 hk0))
  clear hk0 hk1 hk2 hS0 hF
  cases v with
  | true =>
    have C := Hid.mk (show ∀ u, Kept [] w u → Calls Tryd.prog 48 #[shv W H D A, .slice bo M cb] u _ from C.out)
    go_enter Tryd.func25, Tryd.ntmps25
    go_wp2_with (fail)
    rw [← ewa, ← eb1]
    clear eb1 ewa
    refine (C.out _ HB.out.2.2).mono ?_
    rintro e w2 ⟨x1, x2, x3, x4, po, n, k, rfl, hk2, hq⟩
    have g6 := hk2.heap HB.out.1 (by simp)
    obtain ⟨⟨r0, r1, r2, r3, r4⟩, s0, s1, s2, s3, s4⟩ := five g6
    have HG := Hid.mk (And.intro g6 (And.intro hk2 hq))
    clear g6 hk2 hq q0 q1 q2 q3 C
    go_wp2
    obtain ⟨g6, hk2, hq⟩ := HG.out
    have s5 := set5 (.int .i64 x1) (.int .i64 x2) (.int .i64 x3) (.bool x4) (.slice po n k) g6
    obtain ⟨wz, ewz⟩ : ∃ wz, wz = ((((w2.setCell ⟨b1, 0, none⟩ (.int .i64 x1)).setCell ⟨b1, 1, none⟩ (.int .i64 x2)).setCell ⟨b1, 2, none⟩ (.int .i64 x3)).setCell ⟨b1, 3, none⟩ (.bool x4)).setCell ⟨b1, 4, none⟩ (.slice po n k) := ⟨_, rfl⟩
    rw [← ewz] at s5 ⊢
    refine bodyPost_ret (v := .tuple #[frv x1 x2 x3 x4 po n k, .int .i64 E]) ?_ rfl ?_
    · exact results_two rfl _ _ b1 31 _ (0, 0) _ _ rfl s5.1 Tryd.underlying31 Tryd.info38 rfl
    · exact ⟨x1, x2, x3, x4, po, n, k, rfl, (HB.out.2.2.trans hk2).step s5.2 (fun y hy => by simp at hy; right; have := HB.out.2.1; omega), (hq.kept s5.2 (fun y hy => by simp at hy; have := lt_of_block HB.out.1; omega)).low HB.out.2.2.size⟩
  | false =>
    have C := Hid.mk (show ∀ u, Kept [] w u → Calls Tryd.prog 49 #[shv W H D A, .slice bo M cb] u _ from C.out)
    go_enter Tryd.func25, Tryd.ntmps25
    go_wp2_with (fail)
    rw [← ewa, ← eb1]
    clear eb1 ewa
    refine (C.out _ HB.out.2.2).mono ?_
    rintro e w2 ⟨x1, x2, x3, x4, po, n, k, rfl, hk2, hq⟩
    have g6 := hk2.heap HB.out.1 (by simp)
    obtain ⟨⟨r0, r1, r2, r3, r4⟩, s0, s1, s2, s3, s4⟩ := five g6
    have HG := Hid.mk (And.intro g6 (And.intro hk2 hq))
    clear g6 hk2 hq q0 q1 q2 q3 C
    go_wp2
    obtain ⟨g6, hk2, hq⟩ := HG.out
    have s5 := set5 (.int .i64 x1) (.int .i64 x2) (.int .i64 x3) (.bool x4) (.slice po n k) g6
    obtain ⟨wz, ewz⟩ : ∃ wz, wz = ((((w2.setCell ⟨b1, 0, none⟩ (.int .i64 x1)).setCell ⟨b1, 1, none⟩ (.int .i64 x2)).setCell ⟨b1, 2, none⟩ (.int .i64 x3)).setCell ⟨b1, 3, none⟩ (.bool x4)).setCell ⟨b1, 4, none⟩ (.slice po n k) := ⟨_, rfl⟩
    rw [← ewz] at s5 ⊢
    refine bodyPost_ret (v := .tuple #[frv x1 x2 x3 x4 po n k, .int .i64 E]) ?_ rfl ?_
    · exact results_two rfl _ _ b1 31 _ (0, 0) _ _ rfl s5.1 Tryd.underlying31 Tryd.info38 rfl
    · exact ⟨x1, x2, x3, x4, po, n, k, rfl, (HB.out.2.2.trans hk2).step s5.2 (fun y hy => by simp at hy; right; have := HB.out.2.1; omega), (hq.kept s5.2 (fun y hy => by simp at hy; have := lt_of_block HB.out.1; omega)).low HB.out.2.2.size⟩
end Go.Proofs.YtodlkpcbkilglaaDoor

namespace Go.Proofs.YtodlkpcbkilglaaDoor
open Go.RowKit Go.Shelf

/-- A frame in memory of its own from lo on. -/
structure Fw (lo : Nat) (w : World) (G : Nat) (bs : Nat → Nat) (n : Nat) (ln : Nat → Nat) (F : Nat → Nat → Nat) : Prop where
  out : w.heap[G]? = some (.cells (outC bs ln n n).toArray 68 (0, 0))
  row : ∀ i, i < n → Row w (bs i) (ln i) (F i)
  gt : ∀ i, i < n → G < bs i
  mon : ∀ i j, i < j → j < n → bs i < bs j
  lo : lo ≤ G
theorem Fw.kept {lo G n : Nat} {w w' : World} {bs ln : Nat → Nat} {F : Nat → Nat → Nat} {ks : List Nat} (h : Fw lo w G bs n ln F) (hk : Kept ks w w') (hl : ∀ x ∈ ks, x < lo) : Fw lo w' G bs n ln F :=
  ⟨hk.heap h.out (fun hm => by have := hl _ hm; have := h.lo; omega), fun i hi => (h.row i hi).keep hk (fun hm => by have := hl _ hm; have := h.lo; have := h.gt i hi; omega), h.gt, h.mon, h.lo⟩
theorem Fw.keep {lo G n : Nat} {w w' : World} {bs ln : Nat → Nat} {F : Nat → Nat → Nat} (h : Fw lo w G bs n ln F) (hk : Kept [] w w') : Fw lo w' G bs n ln F := h.kept hk (by simp)
theorem Fw.low {lo lo' G n : Nat} {w : World} {bs ln : Nat → Nat} {F : Nat → Nat → Nat} (h : Fw lo w G bs n ln F) (hl : lo' ≤ lo) : Fw lo' w G bs n ln F := ⟨h.out, h.row, h.gt, h.mon, Nat.le_trans hl h.lo⟩
theorem Fw.cell {lo G n : Nat} {w : World} {bs ln : Nat → Nat} {F : Nat → Nat → Nat} (h : Fw lo w G bs n ln F) {i : Nat} (hi : i < n) : w.cell? ⟨G, i, none⟩ = some (.slice (some ⟨bs i, 0, none⟩) (ln i) (ln i)) := by
  rw [cell_of_row _ _ _ _ _ _ h.out, List.getElem?_toArray, outC_at _ _ _ _ _ (by omega), if_pos hi]
theorem Fw.pl {lo G n : Nat} {w : World} {bs ln : Nat → Nat} {F : Nat → Nat → Nat} (h : Fw lo w G bs n ln F) : Pl w (some ⟨G, 0, none⟩) n ln F :=
  .inr ⟨G, 0, rfl, fun i hi => ⟨_, _, by rw [Nat.zero_add]; exact h.cell hi, (h.row i hi).rd⟩⟩
/-- What comes out, in whole. -/
def UnS (lo : Nat) (E W H D : Int) (A : Bool) (F : Nat → Nat → Nat) (w' : World) (x1 x2 x3 : Int) (x4 : Bool) (po : Option Addr) (n k : Nat) : Prop :=
  (E = 0 → x1 = W ∧ x2 = H ∧ x3 = D ∧ x4 = A ∧ n = np A ∧ k = np A ∧ ∃ (G : Nat) (bs : Nat → Nat), po = some ⟨G, 0, none⟩ ∧ Fw lo w' G bs (np A) (pz W H) F) ∧ (E ≠ 0 → x1 = 0 ∧ x2 = 0 ∧ x3 = 0 ∧ x4 = false ∧ po = none ∧ n = 0 ∧ k = 0)
theorem UnS.kept {lo : Nat} {E W H D : Int} {A : Bool} {F : Nat → Nat → Nat} {w' w2 : World} {x1 x2 x3 : Int} {x4 : Bool} {po : Option Addr} {n k : Nat} {ks : List Nat} (h : UnS lo E W H D A F w' x1 x2 x3 x4 po n k) (hk : Kept ks w' w2) (hl : ∀ b ∈ ks, b < lo) : UnS lo E W H D A F w2 x1 x2 x3 x4 po n k := by
  refine ⟨fun e => ?_, h.2⟩
  obtain ⟨a1, a2, a3, a4, a5, a6, G, bs, a7, a8⟩ := h.1 e
  exact ⟨a1, a2, a3, a4, a5, a6, G, bs, a7, a8.kept hk hl⟩
theorem UnS.keep {lo : Nat} {E W H D : Int} {A : Bool} {F : Nat → Nat → Nat} {w' w2 : World} {x1 x2 x3 : Int} {x4 : Bool} {po : Option Addr} {n k : Nat} (h : UnS lo E W H D A F w' x1 x2 x3 x4 po n k) (hk : Kept [] w' w2) : UnS lo E W H D A F w2 x1 x2 x3 x4 po n k := h.kept hk (by simp)
theorem UnS.low {lo lo' : Nat} {E W H D : Int} {A : Bool} {F : Nat → Nat → Nat} {w' : World} {x1 x2 x3 : Int} {x4 : Bool} {po : Option Addr} {n k : Nat} (h : UnS lo E W H D A F w' x1 x2 x3 x4 po n k) (hl : lo' ≤ lo) : UnS lo' E W H D A F w' x1 x2 x3 x4 po n k := by
  refine ⟨fun e => ?_, h.2⟩
  obtain ⟨a1, a2, a3, a4, a5, a6, G, bs, a7, a8⟩ := h.1 e
  exact ⟨a1, a2, a3, a4, a5, a6, G, bs, a7, a8.low hl⟩
theorem UnQ.whole {lo : Nat} {E W H D : Int} {A : Bool} {F : Nat → Nat → Nat} {u w2 w' : World} {x1 x2 x3 : Int} {x4 : Bool} {po : Option Addr} {n k b : Nat} (h : UnQ E W H D A F u w2 x1 x2 x3 x4 po n k) (hk : Kept [b] w2 w') (hb : b < u.heap.size) (hl : lo ≤ u.heap.size) : UnS lo E W H D A F w' x1 x2 x3 x4 po n k := by
  refine ⟨fun e => ?_, h.2⟩
  obtain ⟨a1, a2, a3, a4, a5, a6, G, bs, rfl, hm⟩ := h.1 e
  have hn := hm.new
  refine ⟨a1, a2, a3, a4, a5, a6, G, bs, rfl, hk.heap hm.out (by simp; omega), fun i hi => ?_, hm.gt, hm.mon, by omega⟩
  exact (hm.row i hi).keep hk (by have := hm.gt i hi; simp; omega)
/-- UnpackPlanar of any bytes. -/
theorem Unpack_all_planar (W H D : Int) (A : Bool) (bo : Option Addr) (M cb : Nat) (fb : Nat → Nat) (w : World) (hb : RB w bo M fb) (hfb : ∀ i, i < M → fb i < 256) (hcb : M ≤ cb) :
    Calls Tryd.prog 32 #[shv W H D A, .slice bo M cb] w fun e w' => ∃ x1 x2 x3 x4 po n k, e = .returned (.tuple #[frv x1 x2 x3 x4 po n k, .int .i64 (plE W H D A M fb)]) ∧ Kept [] w w' ∧ UnS w.heap.size (plE W H D A M fb) W H D A (pnF W H.toNat fb) w' x1 x2 x3 x4 po n k := by
  refine (Unpack_of_planar W H D A bo M cb w (fun u x1 x2 x3 x4 po n k z w2 => z = plE W H D A M fb ∧ UnQ (plE W H D A M fb) W H D A (pnF W H.toNat fb) u w2 x1 x2 x3 x4 po n k) (fun u hk => ?_)).mono ?_
  · refine (un57_planar W H D A bo M cb fb u (hb.keep hk) hfb hcb).mono ?_
    rintro e w' ⟨x1, x2, x3, x4, po, n, k, rfl, hk2, hq⟩
    exact ⟨x1, x2, x3, x4, po, n, k, _, rfl, hk2, rfl, hq⟩
  · rintro e w' ⟨u, x1, x2, x3, x4, po, n, k, z, w2, hku, hlt, rfl, hkw, hk2, rfl, hq⟩
    exact ⟨x1, x2, x3, x4, po, n, k, rfl, hkw, hq.whole hk2 hlt (by omega)⟩
/-- UnpackV210 of any bytes. -/
theorem Unpack_all_v210 (W H D : Int) (A : Bool) (bo : Option Addr) (M cb : Nat) (fb : Nat → Nat) (w : World) (hT : Tab w) (hb : RB w bo M fb) (hfb : ∀ i, i < M → fb i < 256) (hcb : M ≤ cb) :
    Calls Tryd.prog 33 #[shv W H D A, .slice bo M cb] w fun e w' => ∃ x1 x2 x3 x4 po n k, e = .returned (.tuple #[frv x1 x2 x3 x4 po n k, .int .i64 (v2E W H D A M fb)]) ∧ Kept [] w w' ∧ UnS w.heap.size (v2E W H D A M fb) W H D A (vnF W fb) w' x1 x2 x3 x4 po n k := by
  refine (Unpack_of_v210 W H D A bo M cb w (fun u x1 x2 x3 x4 po n k z w2 => z = v2E W H D A M fb ∧ UnQ (v2E W H D A M fb) W H D A (vnF W fb) u w2 x1 x2 x3 x4 po n k) (fun u hk => ?_)).mono ?_
  · refine (un57_v210 W H D A bo M cb fb u (hT.keep hk (by simp)) (hb.keep hk) hfb hcb).mono ?_
    rintro e w' ⟨x1, x2, x3, x4, po, n, k, rfl, hk2, hq⟩
    exact ⟨x1, x2, x3, x4, po, n, k, _, rfl, hk2, rfl, hq⟩
  · rintro e w' ⟨u, x1, x2, x3, x4, po, n, k, z, w2, hku, hlt, rfl, hkw, hk2, rfl, hq⟩
    exact ⟨x1, x2, x3, x4, po, n, k, rfl, hkw, hq.whole hk2 hlt (by omega)⟩
def UsC (v : Bool) (W H D : Int) (A : Bool) (M : Nat) (fb : Nat → Nat) (w : World) (e : Ending) (w' : World) : Prop := ∃ x1 x2 x3 x4 po n k, e = .returned (.tuple #[frv x1 x2 x3 x4 po n k, .int .i64 (unE v W H D A M fb)]) ∧ Kept [] w w' ∧ UnS w.heap.size (unE v W H D A M fb) W H D A (unF v W H fb) w' x1 x2 x3 x4 po n k
set_option maxHeartbeats 8000000 in
set_option maxRecDepth 1000000 in
theorem ups24 (v : Bool) (W H D : Int) (A : Bool) (bo : Option Addr) (M cb : Nat) (fb : Nat → Nat) (w : World) (hT : Tab w) (hb : RB w bo M fb) (hfb : ∀ i, i < M → fb i < 256) (hcb : M ≤ cb) :
    Calls Tryd.prog 24 #[.bool v, shv W H D A, .slice bo M cb] w fun e w' => UsC v W H D A M fb w e w' := by
  obtain ⟨E, eE⟩ : ∃ E, unE v W H D A M fb = E := ⟨_, rfl⟩
  obtain ⟨F, eF⟩ : ∃ F, unF v W H fb = F := ⟨_, rfl⟩
  have C : Hid (∀ u, Kept [] w u → Calls Tryd.prog (if v = true then 33 else 32) #[shv W H D A, .slice bo M cb] u fun e w' => ∃ x1 x2 x3 x4 po n k, e = .returned (.tuple #[frv x1 x2 x3 x4 po n k, .int .i64 E]) ∧ Kept [] u w' ∧ UnS u.heap.size E W H D A F w' x1 x2 x3 x4 po n k) := Hid.mk (fun u hk => by
    rw [← eE, ← eF]
    cases v
    · exact Unpack_all_planar W H D A bo M cb fb u (hb.keep hk) hfb hcb
    · exact Unpack_all_v210 W H D A bo M cb fb u (hT.keep hk (by simp)) (hb.keep hk) hfb hcb)
  unfold UsC
  rw [eE, eF]
  clear hT hb hfb eE eF
  have hS0 := Sat.new w W H D A 24
  have hk1 := alloc_kept w (.cells #[.int .i64 W, .int .i64 H, .int .i64 D, .bool A] 24)
  have hk2 := alloc_kept (w.alloc (.cells #[.int .i64 W, .int .i64 H, .int .i64 D, .bool A] 24)) (.cells #[.int .i64 0, .int .i64 0, .int .i64 0, .bool false, .slice none 0 0] 31)
  have hF := heap_alloc_new (w.alloc (.cells #[.int .i64 W, .int .i64 H, .int .i64 D, .bool A] 24)) (.cells #[.int .i64 0, .int .i64 0, .int .i64 0, .bool false, .slice none 0 0] 31)
  rw [World.size_alloc] at hF
  have hS := hS0.keep hk2 (by simp)
  have hk0 := hk1.trans hk2
  obtain ⟨wa, ewa⟩ : ∃ wa, wa = (w.alloc (.cells #[.int .i64 W, .int .i64 H, .int .i64 D, .bool A] 24)).alloc (.cells #[.int .i64 0, .int .i64 0, .int .i64 0, .bool false, .slice none 0 0] 31) := ⟨_, rfl⟩
  rw [← ewa] at hS hk0 hF
  obtain ⟨q0, q1, q2, q3⟩ := hS
  obtain ⟨b1, eb1⟩ : ∃ b1, b1 = w.heap.size + 1 := ⟨_, rfl⟩
  rw [← eb1] at hF
  have HB := Hid.mk (And.intro hF (And.intro eb1 hk0))
  clear hk0 hk1 hk2 hS0 hF
  cases v with
  | true =>
    have C := Hid.mk (show ∀ u, Kept [] w u → Calls Tryd.prog 33 #[shv W H D A, .slice bo M cb] u _ from C.out)
    go_enter Tryd.func24, Tryd.ntmps24
    go_wp2_with (fail)
    rw [← ewa, ← eb1]
    clear eb1 ewa
    refine (C.out _ HB.out.2.2).mono ?_
    rintro e w2 ⟨x1, x2, x3, x4, po, n, k, rfl, hk2, hq⟩
    have g6 := hk2.heap HB.out.1 (by simp)
    obtain ⟨⟨r0, r1, r2, r3, r4⟩, s0, s1, s2, s3, s4⟩ := five g6
    have HG := Hid.mk (And.intro g6 (And.intro hk2 hq))
    clear g6 hk2 hq q0 q1 q2 q3 C
    go_wp2
    obtain ⟨g6, hk2, hq⟩ := HG.out
    have s5 := set5 (.int .i64 x1) (.int .i64 x2) (.int .i64 x3) (.bool x4) (.slice po n k) g6
    obtain ⟨wz, ewz⟩ : ∃ wz, wz = ((((w2.setCell ⟨b1, 0, none⟩ (.int .i64 x1)).setCell ⟨b1, 1, none⟩ (.int .i64 x2)).setCell ⟨b1, 2, none⟩ (.int .i64 x3)).setCell ⟨b1, 3, none⟩ (.bool x4)).setCell ⟨b1, 4, none⟩ (.slice po n k) := ⟨_, rfl⟩
    rw [← ewz] at s5 ⊢
    refine bodyPost_ret (v := .tuple #[frv x1 x2 x3 x4 po n k, .int .i64 E]) ?_ rfl ?_
    · exact results_two rfl _ _ b1 31 _ (0, 0) _ _ rfl s5.1 Tryd.underlying31 Tryd.info38 rfl
    · exact ⟨x1, x2, x3, x4, po, n, k, rfl, (HB.out.2.2.trans hk2).step s5.2 (fun y hy => by simp at hy; right; have := HB.out.2.1; omega), (hq.kept s5.2 (fun y hy => by simp at hy; have := lt_of_block HB.out.1; omega)).low HB.out.2.2.size⟩
  | false =>
    have C := Hid.mk (show ∀ u, Kept [] w u → Calls Tryd.prog 32 #[shv W H D A, .slice bo M cb] u _ from C.out)
    go_enter Tryd.func24, Tryd.ntmps24
    go_wp2_with (fail)
    rw [← ewa, ← eb1]
    clear eb1 ewa
    refine (C.out _ HB.out.2.2).mono ?_
    rintro e w2 ⟨x1, x2, x3, x4, po, n, k, rfl, hk2, hq⟩
    have g6 := hk2.heap HB.out.1 (by simp)
    obtain ⟨⟨r0, r1, r2, r3, r4⟩, s0, s1, s2, s3, s4⟩ := five g6
    have HG := Hid.mk (And.intro g6 (And.intro hk2 hq))
    clear g6 hk2 hq q0 q1 q2 q3 C
    go_wp2
    obtain ⟨g6, hk2, hq⟩ := HG.out
    have s5 := set5 (.int .i64 x1) (.int .i64 x2) (.int .i64 x3) (.bool x4) (.slice po n k) g6
    obtain ⟨wz, ewz⟩ : ∃ wz, wz = ((((w2.setCell ⟨b1, 0, none⟩ (.int .i64 x1)).setCell ⟨b1, 1, none⟩ (.int .i64 x2)).setCell ⟨b1, 2, none⟩ (.int .i64 x3)).setCell ⟨b1, 3, none⟩ (.bool x4)).setCell ⟨b1, 4, none⟩ (.slice po n k) := ⟨_, rfl⟩
    rw [← ewz] at s5 ⊢
    refine bodyPost_ret (v := .tuple #[frv x1 x2 x3 x4 po n k, .int .i64 E]) ?_ rfl ?_
    · exact results_two rfl _ _ b1 31 _ (0, 0) _ _ rfl s5.1 Tryd.underlying31 Tryd.info38 rfl
    · exact ⟨x1, x2, x3, x4, po, n, k, rfl, (HB.out.2.2.trans hk2).step s5.2 (fun y hy => by simp at hy; right; have := HB.out.2.1; omega), (hq.kept s5.2 (fun y hy => by simp at hy; have := lt_of_block HB.out.1; omega)).low HB.out.2.2.size⟩
end Go.Proofs.YtodlkpcbkilglaaDoor
