import Derived.Test.YthihennifigchaaQb
namespace Go.Proofs.Ythihennifigchaa
open Go.RowKit

/-- A list of samples more in a row of such, as an equation. -/
theorem one_app (w : World) (B : Nat) (v : Value) (n : Nat) (xs : List Value) (hB : B ≤ w.heap.size) (ho : w.ownsRow B 52 1 v n xs) (y : Value) (h1 : y.oneCell' = true) (hn : n ≤ 1000000) :
    ∃ bo c w', Sem.run Try.prog (Builtin.append_ #[36, 36] 36 #[v, .slice (some ⟨w.heap.size, 0, none⟩) 1 1]) (w.alloc (.cells #[y] 52)) = .ok (.slice bo (n + 1) c) w' ∧ w'.ownsRow B 52 1 (.slice bo (n + 1) c) (n + 1) (xs ++ [y]) ∧ Kept v.ownBlock.toList w w' ∧ Lies w v (.slice bo (n + 1) c) := by
  obtain ⟨i0, hi, hz0, hz1, hz2⟩ := info_parts Try.infoR
  have k0 : Kept [] w (w.alloc (.cells #[y] 52)) := (Kept.refl [] w).alloc _
  obtain ⟨v', u', hrun, h2, h3, _, h5⟩ := run_append_own_at (P := Try.prog) (w.alloc (.cells #[y] 52)) B 36 36 52 i0 (.slice none 0 0) 1 24 Try.underlying36 hi hz0 hz1 hz2 rfl (by decide) v n xs (k0.row ho (by simp)) ⟨w.heap.size, 0, none⟩ 1 1 [y] rfl (cell_one_new _ _ _) (fun u hu => by simp at hu; subst hu; exact h1) (by unfold maxLen; omega) (by omega) (by rw [World.size_alloc]; omega)
  obtain ⟨bo, c, ev⟩ := Bk.row_form h2
  subst ev
  refine ⟨bo, c, u', hrun, h2, (k0.mono (by simp)).trans (Kept.of_grown h3), ?_⟩
  rcases h5 with h | h
  · exact .inl h
  · exact .inr ⟨_, h, by rw [World.size_alloc]; omega⟩

/-- Planes that the document has made so far: the row in memory new to w0. -/
structure Rn (w0 w : World) (B : Nat) (W H D : Int) (A : Bool) (k : Nat) (V : Value) (bs : Nat → Nat) : Prop where
  box : w.heap[B]? = some (.cells #[.int .i64 W, .int .i64 H, .int .i64 D, .bool A, V] 38 (0, 0))
  row : w.ownsRow w0.heap.size 52 1 V k (fl (fun i => .slice (some ⟨bs i, 0, none⟩) (pz W H i) (pz W H i)) k)
  each : ∀ i, i < k → Row w (bs i) (pz W H i) (fun _ => 0)
  new : w0.heap.size ≤ B
  kept : Kept [] w0 w
theorem Rn.far {w0 w : World} {B : Nat} {W H D : Int} {A : Bool} {k : Nat} {V : Value} {bs : Nat → Nat} (h : Rn w0 w B W H D A k V bs) : ∀ g, V.ownBlock = some g → g ≠ B ∧ ∀ i, i < k → g ≠ bs i := fun g hg => by
  rcases h.row.2 with ⟨e, -⟩ | ⟨g', cap, cur, e, -, hx, -⟩
  · subst e; simp [Value.ownBlock] at hg
  · subst e
    simp [Value.ownBlock] at hg
    subst hg
    exact ⟨fun e => by rw [e, h.box] at hx; simp at hx, fun i hi e => by have := h.each i hi; unfold Row at this; rw [e, this] at hx; simp at hx⟩
theorem Rn.keep {w0 w w' : World} {B : Nat} {W H D : Int} {A : Bool} {k : Nat} {V : Value} {bs : Nat → Nat} (h : Rn w0 w B W H D A k V bs) (hk : Kept [] w w') : Rn w0 w' B W H D A k V bs :=
  ⟨hk.heap h.box (by simp), hk.row h.row (by simp), fun i hi => (h.each i hi).keep hk (by simp), h.new, h.kept.trans hk⟩
theorem fl_snoc (f : Nat → Value) (k : Nat) (v : Value) : fl f k ++ [v] = fl (fun i => if i = k then v else f i) (k + 1) := by
  unfold fl
  rw [List.range_succ, List.map_append]
  congr 1
  · apply List.map_congr_left
    intro j hj
    have := List.mem_range.1 hj
    rw [if_neg (by omega)]
  · simp
/-- One plane more. -/
theorem Rn.next {w0 w w7 : World} {B : Nat} {W H D : Int} {A : Bool} {k b : Nat} {V Vn : Value} {bs : Nat → Nat} (h : Rn w0 w B W H D A k V bs) (hb : Row w b (pz W H k) (fun _ => 0)) (o7 : w7.ownsRow w0.heap.size 52 1 Vn (k + 1) (fl (fun i => .slice (some ⟨bs i, 0, none⟩) (pz W H i) (pz W H i)) k ++ [.slice (some ⟨b, 0, none⟩) (pz W H k) (pz W H k)])) (k7 : Kept V.ownBlock.toList w w7) :
    Rn w0 (w7.setCell ⟨B, 4, none⟩ Vn) B W H D A (k + 1) Vn (fun i => if i = k then b else bs i) := by
  have far := h.far
  have hbf : ∀ g, V.ownBlock = some g → g ≠ b := fun g hg => by
    rcases h.row.2 with ⟨e, -⟩ | ⟨g', cap, cur, e, -, hx, -⟩
    · subst e; simp [Value.ownBlock] at hg
    · subst e
      simp [Value.ownBlock] at hg
      subst hg
      exact fun e => by unfold Row at hb; rw [e, hb] at hx; simp at hx
  have b7 : w7.heap[B]? = some (.cells #[.int .i64 W, .int .i64 H, .int .i64 D, .bool A, V] 38 (0, 0)) := k7.heap h.box (fun hm => by have := (far B (by simpa using hm)).1; exact this rfl)
  have kS : Kept [B] w7 (w7.setCell ⟨B, 4, none⟩ Vn) := (Kept.refl _ _).setCell (.inl (by simp)) _
  have tyB : ∀ {b' n' : Nat} {f' : Nat → Nat}, Row w7 b' n' f' → b' ≠ B := fun hr e => by unfold Row at hr; rw [e, b7] at hr; simp at hr
  have r7 : ∀ {b' n' : Nat} {f' : Nat → Nat}, Row w b' n' f' → (∀ g, V.ownBlock = some g → g ≠ b') → Row (w7.setCell ⟨B, 4, none⟩ Vn) b' n' f' := fun {b' n' f'} hr hne => by
    have h1 : Row w7 b' n' f' := hr.keep k7 (fun hm => hne b' (by simpa using hm) rfl)
    exact h1.keep kS (fun hm => tyB h1 (by simpa using hm))
  refine ⟨by rw [heap_setCell_at b7]; simp, ?_, fun i hi => ?_, h.new, ?_⟩
  · have e : fl (fun i => .slice (some ⟨(if i = k then b else bs i), 0, none⟩) (pz W H i) (pz W H i)) (k + 1) = fl (fun i => .slice (some ⟨bs i, 0, none⟩) (pz W H i) (pz W H i)) k ++ [.slice (some ⟨b, 0, none⟩) (pz W H k) (pz W H k)] := by
      rw [fl_snoc]
      apply fl_congr
      intro j hj
      by_cases e : j = k
      · simp [e]
      · simp [e]
    rw [e]
    exact kS.row o7 (fun g hg hm => by
      simp at hm
      subst hm
      rcases o7.2 with ⟨e, -⟩ | ⟨g', cap, cur, e, -, hx, -⟩
      · subst e; simp [Value.ownBlock] at hg
      · subst e
        simp [Value.ownBlock] at hg
        subst hg
        rw [b7] at hx; simp at hx)
  · by_cases e : i = k
    · subst e
      simp only [if_pos]
      exact r7 hb hbf
    · simp only [if_neg e]
      exact r7 (h.each i (by omega)) (fun g hg => (far g hg).2 i (by omega))
  · refine (h.kept.step k7 (fun x hx => .inr ?_)).setCell (.inr h.new) _
    exact (h.row.lt x (by simpa using hx)).1
theorem Rn.pl {w0 w : World} {B : Nat} {W H D : Int} {A : Bool} {k c : Nat} {V : Value} {po : Option Addr} {bs : Nat → Nat} (h : Rn w0 w B W H D A k V bs) (hV : V = .slice po k c) : Pl w po k (pz W H) (fun _ _ => 0) := by
  subst hV
  by_cases h0 : k = 0
  · exact .inl h0
  · rcases h.row.2 with ⟨e, e2⟩ | ⟨g', cap, cur, e, -⟩
    · exact absurd e2 h0
    · simp at e
      obtain ⟨rfl, rfl⟩ := e
      refine .inr ⟨g', 0, rfl, fun i hi => ⟨some ⟨bs i, 0, none⟩, pz W H i, ?_, (h.each i hi).rd⟩⟩
      rw [Nat.zero_add, h.row.cellAt i (by omega), fl_at _ _ _ hi]

theorem Rn.plT {w0 w w' : World} {B x : Nat} {W H D : Int} {A : Bool} {k c : Nat} {V : Value} {po : Option Addr} {bs : Nat → Nat} {cs : Array Value} (h : Rn w0 w B W H D A k V bs) (hV : V = .slice po k c) (hx : w.heap[x]? = some (.cells cs 38 (0, 0))) (hk : Kept [x] w w') : Pl w' po k (pz W H) (fun _ _ => 0) := by
  subst hV
  by_cases h0 : k = 0
  · exact .inl h0
  · rcases h.row.2 with ⟨e, e2⟩ | ⟨g', cap, cur, e, -, hg, -⟩
    · exact absurd e2 h0
    · simp at e
      obtain ⟨rfl, rfl⟩ := e
      have hgx : g' ≠ x := fun e => by rw [e, hx] at hg; simp at hg
      refine .inr ⟨g', 0, rfl, fun i hi => ⟨some ⟨bs i, 0, none⟩, pz W H i, ?_, ?_⟩⟩
      · refine cell_keep hk ?_ (by simpa using hgx)
        rw [Nat.zero_add, h.row.cellAt i (by omega), fl_at _ _ _ hi]
      · have hr := h.each i hi
        refine (hr.keep hk (fun hm => ?_)).rd
        simp at hm
        unfold Row at hr
        rw [hm, hx] at hr
        simp at hr

/-- All that a round of the document's New goes by. -/
theorem rnew_facts {w2 wr u : World} {B b : Nat} {W H D : Int} {A : Bool} {k c : Nat} {po : Option Addr} {bs : Nat → Nat} {mkR : World → World} {r : Nat} (hR : Rn w2 wr B W H D A k (.slice po k c) bs) (hb : Sat w2 b W H D A) (hu : Kept [] wr u) (hm : ∀ w, Row (mkR w) w.heap.size r (fun _ => 0) ∧ Kept [] w (mkR w)) (hr : r = pz W H k) (hk : k ≤ 1000) :
    (u.cell? ⟨b, 0, none⟩ = some (.int .i64 W) ∧ u.cell? ⟨b, 1, none⟩ = some (.int .i64 H) ∧ u.cell? ⟨b, 2, none⟩ = some (.int .i64 D) ∧ u.cell? ⟨b, 3, none⟩ = some (.bool A)) ∧ u.cell? ⟨B, 4, none⟩ = some (.slice po k c) ∧ ∃ bo c' w7, Sem.run Try.prog (Builtin.append_ #[36, 36] 36 #[.slice po k c, .slice (some ⟨(mkR u).heap.size, 0, none⟩) 1 1]) ((mkR u).alloc (.cells #[.slice (some ⟨u.heap.size, 0, none⟩) r r] 52)) = .ok (.slice bo (k + 1) c') w7 ∧
      Hid ((mkR u).cell? ⟨b, 0, none⟩ = some (.int .i64 W) ∧ (mkR u).cell? ⟨b, 1, none⟩ = some (.int .i64 H) ∧ (mkR u).cell? ⟨b, 2, none⟩ = some (.int .i64 D) ∧ (mkR u).cell? ⟨b, 3, none⟩ = some (.bool A)) ∧ Hid (((mkR u).alloc (.cells #[.slice (some ⟨u.heap.size, 0, none⟩) r r] 52)).cell? ⟨b, 0, none⟩ = some (.int .i64 W) ∧ ((mkR u).alloc (.cells #[.slice (some ⟨u.heap.size, 0, none⟩) r r] 52)).cell? ⟨b, 1, none⟩ = some (.int .i64 H) ∧ ((mkR u).alloc (.cells #[.slice (some ⟨u.heap.size, 0, none⟩) r r] 52)).cell? ⟨b, 2, none⟩ = some (.int .i64 D) ∧ ((mkR u).alloc (.cells #[.slice (some ⟨u.heap.size, 0, none⟩) r r] 52)).cell? ⟨b, 3, none⟩ = some (.bool A)) ∧ Hid (w7.cell? ⟨b, 0, none⟩ = some (.int .i64 W) ∧ w7.cell? ⟨b, 1, none⟩ = some (.int .i64 H) ∧ w7.cell? ⟨b, 2, none⟩ = some (.int .i64 D) ∧ w7.cell? ⟨b, 3, none⟩ = some (.bool A)) ∧ Hid ((w7.setCell ⟨B, 4, none⟩ (.slice bo (k + 1) c')).cell? ⟨b, 0, none⟩ = some (.int .i64 W) ∧ (w7.setCell ⟨B, 4, none⟩ (.slice bo (k + 1) c')).cell? ⟨b, 1, none⟩ = some (.int .i64 H) ∧ (w7.setCell ⟨B, 4, none⟩ (.slice bo (k + 1) c')).cell? ⟨b, 2, none⟩ = some (.int .i64 D) ∧ (w7.setCell ⟨B, 4, none⟩ (.slice bo (k + 1) c')).cell? ⟨b, 3, none⟩ = some (.bool A)) ∧
      (mkR u).cell? ⟨B, 4, none⟩ = some (.slice po k c) ∧ ((mkR u).alloc (.cells #[.slice (some ⟨u.heap.size, 0, none⟩) r r] 52)).cell? ⟨B, 4, none⟩ = some (.slice po k c) ∧ w7.cell? ⟨B, 4, none⟩ = some (.slice po k c) ∧ w7.frozen? ⟨B, 4, none⟩ = false ∧
      Hid (Rn w2 (w7.setCell ⟨B, 4, none⟩ (.slice bo (k + 1) c')) B W H D A (k + 1) (.slice bo (k + 1) c') (fun i => if i = k then u.heap.size else bs i)) := by
  subst hr
  have hRu := hR.keep hu
  have hRm := hRu.keep (hm u).2
  obtain ⟨bo, c', w7, hrun, o7, k7, l7⟩ := one_app (mkR u) w2.heap.size (.slice po k c) k _ hRm.kept.size hRm.row (.slice (some ⟨u.heap.size, 0, none⟩) (pz W H k) (pz W H k)) rfl (by omega)
  have hN := hRm.next (hm u).1 o7 k7
  have ka := (Kept.refl [] (mkR u)).alloc (.cells #[.slice (some ⟨u.heap.size, 0, none⟩) (pz W H k) (pz W H k)] 52)
  have hRa := hRm.keep ka
  have k27 : Kept [] w2 w7 := hRm.kept.step k7 (fun x hx => .inr (hRm.row.lt x (by simpa using hx)).1)
  have s4 : ∀ {u : World}, Kept [] w2 u → u.cell? ⟨b, 0, none⟩ = some (.int .i64 W) ∧ u.cell? ⟨b, 1, none⟩ = some (.int .i64 H) ∧ u.cell? ⟨b, 2, none⟩ = some (.int .i64 D) ∧ u.cell? ⟨b, 3, none⟩ = some (.bool A) := fun hk => by
    obtain ⟨q0, q1, q2, q3⟩ := hb.keep hk (by simp)
    exact ⟨q0, q1, q2, q3⟩
  have b7 : w7.heap[B]? = some (.cells #[.int .i64 W, .int .i64 H, .int .i64 D, .bool A, .slice po k c] 38 (0, 0)) := k7.heap hRm.box (fun hm => (hRm.far B (by simpa using hm)).1 rfl)
  refine ⟨s4 hRu.kept, by simp [World.cell?, hRu.box], bo, c', w7, hrun, Hid.mk (s4 hRm.kept), Hid.mk (s4 hRa.kept), Hid.mk (s4 k27), Hid.mk (s4 hN.kept), by simp [World.cell?, hRm.box], by simp [World.cell?, hRa.box], by simp [World.cell?, b7], by simp [World.frozen?, b7], Hid.mk hN⟩

set_option maxHeartbeats 8000000 in
set_option maxRecDepth 1000000 in
theorem rnew_any (W H D : Int) (A : Bool) (w : World) :
    Calls Try.prog 17 #[shv W H D A] w fun e w' => (shE W H D A = 0 → ∃ po c, e = .returned (.tuple #[frv W H D A po (np A) c, .int .i64 0]) ∧ Pl w' po (np A) (pz W H) (fun _ _ => 0) ∧ Kept [] w w') ∧ (shE W H D A ≠ 0 → e = .returned (.tuple #[frv 0 0 0 false none 0 0, .int .i64 61]) ∧ Kept [] w w') := by
  have C := Hid.mk (fun u => rshaped_any W H D A u)
  have hk0 := Hid.mk ((alloc_kept w (.cells #[.int .i64 W, .int .i64 H, .int .i64 D, .bool A] 23)).trans (alloc_kept _ (.cells #[.int .i64 0, .int .i64 0, .int .i64 0, .bool false, .slice none 0 0] 38)))
  have S0 := (Sat.new w W H D A 23).keep (alloc_kept _ (.cells #[.int .i64 0, .int .i64 0, .int .i64 0, .bool false, .slice none 0 0] 38)) (by simp)
  have hres : ((w.alloc (.cells #[.int .i64 W, .int .i64 H, .int .i64 D, .bool A] 23)).alloc (.cells #[.int .i64 0, .int .i64 0, .int .i64 0, .bool false, .slice none 0 0] 38)).heap[w.heap.size + 1]? = some (.cells #[.int .i64 0, .int .i64 0, .int .i64 0, .bool false, .slice none 0 0] 38 (0, 0)) := by
    have := heap_alloc_new (w.alloc (.cells #[.int .i64 W, .int .i64 H, .int .i64 D, .bool A] 23)) (.cells #[.int .i64 0, .int .i64 0, .int .i64 0, .bool false, .slice none 0 0] 38)
    rwa [World.size_alloc] at this
  obtain ⟨w1, ew1⟩ : ∃ w1, w1 = (w.alloc (.cells #[.int .i64 W, .int .i64 H, .int .i64 D, .bool A] 23)).alloc (.cells #[.int .i64 0, .int .i64 0, .int .i64 0, .bool false, .slice none 0 0] 38) := ⟨_, rfl⟩
  rw [← ew1] at hk0 S0 hres
  have HS := Hid.mk S0
  have HR := Hid.mk hres
  have HW := Hid.mk ew1
  clear S0 hres ew1
  rcases shE_two W H D A with ⟨e1, h1⟩ | ⟨e1, h1⟩
  · rw [e1] at C ⊢
    have CC := Hid.mk (fun u => count_any W H D A u)
    have CW := Hid.mk (fun u (p : Nat) => wide_any W H D p A u (by have := h1.1; omega) h1.1.2)
    have HP := Hid.mk (fun p => wpH p h1.1.1 h1.1.2 h1.2.1.1 h1.2.1.2)
    have hn4 := np_hi A
    obtain ⟨n, en⟩ : ∃ n : Nat, n = np A := ⟨_, rfl⟩
    rw [← en] at CC hn4 ⊢
    clear en e1 h1
    go_enter Try.func17, Try.ntmps17
    go_wp2_with (fail)
    refine (C.out _).mono ?_
    rintro e w2 ⟨rfl, hk2⟩
    rw [← HW.out] at hk2
    have hk02 := Hid.mk (hk0.out.trans hk2)
    obtain ⟨p0, p1, p2, p3⟩ := HS.out.keep hk2 (by simp)
    have HS2 : Hid (Sat w2 w.heap.size W H D A) := Hid.mk ⟨p0, p1, p2, p3⟩
    have HR2 := Hid.mk (hk2.heap HR.out (by simp))
    obtain ⟨b, eb⟩ : ∃ b, w.heap.size = b := ⟨_, rfl⟩
    have HEB := Hid.mk eb
    rw [eb] at p0 p1 p2 p3 HS2 HR2 ⊢
    clear hk2 HS HR HW hk0 C eb
    go_upto_region 5 with (fail)
    obtain ⟨w3, ew3⟩ : ∃ w3, w2.alloc (.cells #[.int .i64 W, .int .i64 H, .int .i64 D, .bool A, .slice none 0 0] 38) = w3 := ⟨_, rfl⟩
    have R3 : Hid (Rn w2 w3 w2.heap.size W H D A 0 (.slice none 0 0) (fun _ => 0)) := Hid.mk (by
      rw [← ew3]
      exact ⟨heap_alloc_new _ _, ⟨by simp [fl], .inl ⟨rfl, rfl⟩⟩, fun i hi => by omega, Nat.le_refl _, alloc_kept _ _⟩)
    rw [ew3]
    obtain ⟨B, eB⟩ : ∃ B, w2.heap.size = B := ⟨_, rfl⟩
    rw [eB] at R3 ⊢
    clear ew3 eB p0 p1 p2 p3
    go_wp2
    go_loopw [6] (fun i wr => ∃ (k : Nat) (V : Value) (bs : Nat → Nat), k ≤ n ∧ i = .int .i64 (k : Int) ∧ Rn w2 wr B W H D A k V bs) (fun i _ => n - (intOf i).toNat)
    case atStart => exact ⟨0, _, _, by omega, rfl, R3.out⟩
    case round =>
      obtain ⟨k, V, bs, hk, rfl, hR⟩ := hrel
      obtain ⟨q0, q1, q2, q3⟩ := HS2.out.keep hR.kept (by simp)
      have HR0 := Hid.mk hR
      clear hR
      go_wp2_with (fail)
      refine (CC.out _).mono ?_
      rintro e wv ⟨rfl, hkv⟩
      have hRv := HR0.out.keep hkv
      have HRn0 := Hid.mk hRv
      obtain ⟨q0', q1', q2', q3'⟩ := HS2.out.keep hRv.kept (by simp)
      clear q0 q1 q2 q3 HR0 hkv hRv
      by_cases hlt : k < n
      · have ix : (k : Int) < (n : Int) := by omega
        obtain ⟨po, c, eV⟩ := Bk.row_form HRn0.out.row
        subst eV
        have HRn := HRn0
        have d4 : wv.cell? ⟨B, 4, none⟩ = some (.slice po k c) := by simp [World.cell?, HRn.out.box]
        have b1 := HP.out (k : Int)
        have epz : pz W H k = (wp W (k : Int) * H).toNat := rfl
        have CW := Hid.mk (fun u (p : Nat) => CW.out u p)
        have CWk := Hid.mk (fun u => CW.out u k)
        obtain ⟨x, ex⟩ : ∃ x, x = wp W k := ⟨_, rfl⟩
        rw [← ex] at b1 epz CWk
        obtain ⟨mkR, hmk, hmw⟩ := make_row (pz W H k) (x * H) (by rw [epz]; omega) (by rw [epz]; omega)
        have HMW := Hid.mk hmw
        obtain ⟨r, er⟩ : ∃ r, r = pz W H k := ⟨_, rfl⟩
        rw [← er] at hmk HMW
        have ER := Hid.mk er
        have hwr : IntKind.i64.wrap (x * H) = x * H := wrap_i (by omega) (by omega)
        have ED : Hid (wv.drew.cell? ⟨b, 0, none⟩ = some (.int .i64 W) ∧ wv.drew.cell? ⟨b, 1, none⟩ = some (.int .i64 H) ∧ wv.drew.cell? ⟨b, 2, none⟩ = some (.int .i64 D) ∧ wv.drew.cell? ⟨b, 3, none⟩ = some (.bool A)) := Hid.mk ⟨q0', q1', q2', q3'⟩
        clear ex hmw epz er b1 q0' q1' q2' q3' HRn0
        go_wp2_with (fail)
        refine wp_region_held_drew (S := fun u => u.cell? ⟨b, 0, none⟩ = some (.int .i64 W) ∧ u.cell? ⟨b, 1, none⟩ = some (.int .i64 H) ∧ u.cell? ⟨b, 2, none⟩ = some (.int .i64 D) ∧ u.cell? ⟨b, 3, none⟩ = some (.bool A)) (by kernel_rfl) ED.out (fun hHeld => ?_)
        refine wpAnyH_take (i := 0) (v := ?_) rfl (by kernel_rfl) (by kernel_rfl) (by kernel_rfl) (fun _ _ _ h => h) (Or.inl ⟨by rfl, ?_⟩) (by assumption) ?_
        rotate_left
        · intro w hSw
          try dsimp only at hSw
          go_simp
          all_goals with_reducible rfl
        simp only [Act.put, List.getElem_toArray, List.getElem_cons_zero, List.setIfInBounds_toArray, List.set_cons_zero, List.set_cons_succ]
        refine wpAnyH_take (i := 2) (v := ?_) rfl (by kernel_rfl) (by kernel_rfl) (by kernel_rfl) (fun _ _ _ h => h) (Or.inl ⟨by rfl, ?_⟩) (by assumption) ?_
        rotate_left
        · intro w hSw
          try dsimp only at hSw
          go_simp
          all_goals with_reducible rfl
        simp only [Act.put, List.getElem_toArray, List.getElem_cons_zero, List.getElem_cons_succ, List.setIfInBounds_toArray, List.set_cons_zero, List.set_cons_succ]
        refine wpAnyH_take (i := 3) (v := ?_) rfl (by kernel_rfl) (by kernel_rfl) (by kernel_rfl) (fun _ _ _ h => h) (Or.inl ⟨by rfl, ?_⟩) (by assumption) ?_
        rotate_left
        · intro w hSw
          try dsimp only at hSw
          go_simp
          all_goals with_reducible rfl
        simp only [Act.put, List.getElem_toArray, List.getElem_cons_zero, List.getElem_cons_succ, List.setIfInBounds_toArray, List.set_cons_zero, List.set_cons_succ]
        refine wpAnyH_take (i := 5) (v := ?_) rfl (by kernel_rfl) (by kernel_rfl) (by kernel_rfl) (fun _ _ _ h => h) (Or.inl ⟨by rfl, ?_⟩) (by assumption) ?_
        rotate_left
        · intro w hSw
          try dsimp only at hSw
          go_simp
          all_goals with_reducible rfl
        simp only [Act.put, List.getElem_toArray, List.getElem_cons_zero, List.getElem_cons_succ, List.setIfInBounds_toArray, List.set_cons_zero, List.set_cons_succ]
        refine wpAnyH_take (i := 6) (v := ?_) rfl (by kernel_rfl) (by kernel_rfl) (by kernel_rfl) (fun _ _ _ h => h) (Or.inl ⟨by rfl, ?_⟩) (by assumption) ?_
        rotate_left
        · intro w hSw
          try dsimp only at hSw
          go_simp
          all_goals with_reducible rfl
        simp only [Act.put, List.getElem_toArray, List.getElem_cons_zero, List.getElem_cons_succ, List.setIfInBounds_toArray, List.set_cons_zero, List.set_cons_succ]
        refine wpAnyH_ready (rs := [1, 4]) (by kernel_rfl) (by simp) ?_
        refine (AllReadyH.cons rfl (fun K9 hK9 => ?_) (AllReadyH.cons rfl (fun K9 hK9 => ?_) AllReadyH.nil))
        · go_simp
          refine hK9.out _ _ ED.out (fun hHeld2 => ?_)
          clear hK9 K9
          refine wpAnyH_ready (rs := [4]) (by kernel_rfl) (by simp) ?_
          refine (AllReadyH.cons rfl (fun K9 hK9 => ?_) AllReadyH.nil)
          go_simp
          go_at_call 43
          refine (CWk.out _).mono ?_
          rintro e w5 ⟨rfl, hk5⟩
          obtain ⟨sU, v4, bo, c', w7, hrun, SM, SA, S7, SS, m4, a4, x4, f4, RN⟩ := rnew_facts HRn.out HS2.out (u := w5) (((Kept.refl [] wv).drew).trans hk5) HMW.out ER.out (by omega)
          refine hK9.out _ _ sU (fun hHeld2 => ?_)
          clear hK9 K9
          refine wpAnyH_take (i := 7) (v := ?_) rfl (by kernel_rfl) (by kernel_rfl) (by kernel_rfl) (fun _ _ _ h => h) (Or.inl ⟨by rfl, ?_⟩) (by assumption) ?_
          rotate_left
          · intro w hSw
            try dsimp only at hSw
            go_simp
            all_goals with_reducible rfl
          simp only [Act.put, List.getElem_toArray, List.getElem_cons_zero, List.getElem_cons_succ, List.setIfInBounds_toArray, List.set_cons_zero, List.set_cons_succ]
          refine wpAnyH_ready (rs := [8]) (by kernel_rfl) (by simp) ?_
          refine (AllReadyH.cons rfl (fun K9 hK9 => ?_) AllReadyH.nil)
          go_simp
          refine hK9.out _ _ SM.out (fun hHeld2 => ?_)
          clear hK9 K9
          refine wpAnyH_ready (rs := [9]) (by kernel_rfl) (by simp) ?_
          refine (AllReadyH.cons rfl (fun K9 hK9 => ?_) AllReadyH.nil)
          go_simp
          refine hK9.out _ _ SA.out (fun hHeld2 => ?_)
          clear hK9 K9
          refine wpAnyH_ready (rs := [10]) (by kernel_rfl) (by simp) ?_
          refine (AllReadyH.cons rfl (fun K9 hK9 => ?_) AllReadyH.nil)
          refine Bk.step_app rfl _ _ 36 rfl _ _ _ _ rfl rfl hrun ?_
          simp only [Act.put, List.getElem_toArray, List.getElem_cons_zero, List.getElem_cons_succ, List.setIfInBounds_toArray, List.set_cons_zero, List.set_cons_succ]
          refine hK9.out _ _ S7.out (fun hHeld2 => ?_)
          clear hK9 K9
          refine wpAnyH_take (i := 11) (v := ?_) rfl (by kernel_rfl) (by kernel_rfl) (by kernel_rfl) (fun _ _ _ h => h) (Or.inl ⟨by rfl, ?_⟩) (by assumption) ?_
          rotate_left
          · intro w hSw
            try dsimp only at hSw
            go_simp
            all_goals with_reducible rfl
          simp only [Act.put, List.getElem_toArray, List.getElem_cons_zero, List.getElem_cons_succ, List.setIfInBounds_toArray, List.set_cons_zero, List.set_cons_succ]
          refine wpAnyH_ready (rs := [12]) (by kernel_rfl) (by simp) ?_
          refine (AllReadyH.cons rfl (fun K9 hK9 => ?_) AllReadyH.nil)
          go_simp
          refine hK9.out _ _ SS.out (fun hHeld2 => ?_)
          clear hK9 K9
          refine wpAnyH_done (by kernel_rfl) ?_ _
          clear hrun v4 m4 a4 x4 f4 SM SA S7 SS sU hHeld hHeld2
          go_wp2
          exact ⟨⟨k + 1, _, _, by omega, by go_num, RN.out⟩, by simp [intOf]; omega⟩
        · go_simp
          go_at_call 43
          refine (CWk.out _).mono ?_
          rintro e w5 ⟨rfl, hk5⟩
          obtain ⟨sU, v4, bo, c', w7, hrun, SM, SA, S7, SS, m4, a4, x4, f4, RN⟩ := rnew_facts HRn.out HS2.out (u := w5) (((Kept.refl [] wv).drew).trans hk5) HMW.out ER.out (by omega)
          refine hK9.out _ _ sU (fun hHeld2 => ?_)
          clear hK9 K9
          refine wpAnyH_take (i := 7) (v := ?_) rfl (by kernel_rfl) (by kernel_rfl) (by kernel_rfl) (fun _ _ _ h => h) (Or.inl ⟨by rfl, ?_⟩) (by assumption) ?_
          rotate_left
          · intro w hSw
            try dsimp only at hSw
            go_simp
            all_goals with_reducible rfl
          simp only [Act.put, List.getElem_toArray, List.getElem_cons_zero, List.getElem_cons_succ, List.setIfInBounds_toArray, List.set_cons_zero, List.set_cons_succ]
          refine wpAnyH_ready (rs := [1, 8]) (by kernel_rfl) (by simp) ?_
          refine (AllReadyH.cons rfl (fun K9 hK9 => ?_) (AllReadyH.cons rfl (fun K9 hK9 => ?_) AllReadyH.nil))
          · go_simp
            refine hK9.out _ _ sU (fun hHeld2 => ?_)
            clear hK9 K9
            refine wpAnyH_ready (rs := [8]) (by kernel_rfl) (by simp) ?_
            refine (AllReadyH.cons rfl (fun K9 hK9 => ?_) AllReadyH.nil)
            go_simp
            refine hK9.out _ _ SM.out (fun hHeld2 => ?_)
            clear hK9 K9
            refine wpAnyH_ready (rs := [9]) (by kernel_rfl) (by simp) ?_
            refine (AllReadyH.cons rfl (fun K9 hK9 => ?_) AllReadyH.nil)
            go_simp
            refine hK9.out _ _ SA.out (fun hHeld2 => ?_)
            clear hK9 K9
            refine wpAnyH_ready (rs := [10]) (by kernel_rfl) (by simp) ?_
            refine (AllReadyH.cons rfl (fun K9 hK9 => ?_) AllReadyH.nil)
            refine Bk.step_app rfl _ _ 36 rfl _ _ _ _ rfl rfl hrun ?_
            simp only [Act.put, List.getElem_toArray, List.getElem_cons_zero, List.getElem_cons_succ, List.setIfInBounds_toArray, List.set_cons_zero, List.set_cons_succ]
            refine hK9.out _ _ S7.out (fun hHeld2 => ?_)
            clear hK9 K9
            refine wpAnyH_take (i := 11) (v := ?_) rfl (by kernel_rfl) (by kernel_rfl) (by kernel_rfl) (fun _ _ _ h => h) (Or.inl ⟨by rfl, ?_⟩) (by assumption) ?_
            rotate_left
            · intro w hSw
              try dsimp only at hSw
              go_simp
              all_goals with_reducible rfl
            simp only [Act.put, List.getElem_toArray, List.getElem_cons_zero, List.getElem_cons_succ, List.setIfInBounds_toArray, List.set_cons_zero, List.set_cons_succ]
            refine wpAnyH_ready (rs := [12]) (by kernel_rfl) (by simp) ?_
            refine (AllReadyH.cons rfl (fun K9 hK9 => ?_) AllReadyH.nil)
            go_simp
            refine hK9.out _ _ SS.out (fun hHeld2 => ?_)
            clear hK9 K9
            refine wpAnyH_done (by kernel_rfl) ?_ _
            clear hrun v4 m4 a4 x4 f4 SM SA S7 SS sU hHeld hHeld2
            go_wp2
            exact ⟨⟨k + 1, _, _, by omega, by go_num, RN.out⟩, by simp [intOf]; omega⟩
          · go_simp
            refine hK9.out _ _ SM.out (fun hHeld2 => ?_)
            clear hK9 K9
            refine wpAnyH_ready (rs := [1, 9]) (by kernel_rfl) (by simp) ?_
            refine (AllReadyH.cons rfl (fun K9 hK9 => ?_) (AllReadyH.cons rfl (fun K9 hK9 => ?_) AllReadyH.nil))
            · go_simp
              refine hK9.out _ _ SM.out (fun hHeld2 => ?_)
              clear hK9 K9
              refine wpAnyH_ready (rs := [9]) (by kernel_rfl) (by simp) ?_
              refine (AllReadyH.cons rfl (fun K9 hK9 => ?_) AllReadyH.nil)
              go_simp
              refine hK9.out _ _ SA.out (fun hHeld2 => ?_)
              clear hK9 K9
              refine wpAnyH_ready (rs := [10]) (by kernel_rfl) (by simp) ?_
              refine (AllReadyH.cons rfl (fun K9 hK9 => ?_) AllReadyH.nil)
              refine Bk.step_app rfl _ _ 36 rfl _ _ _ _ rfl rfl hrun ?_
              simp only [Act.put, List.getElem_toArray, List.getElem_cons_zero, List.getElem_cons_succ, List.setIfInBounds_toArray, List.set_cons_zero, List.set_cons_succ]
              refine hK9.out _ _ S7.out (fun hHeld2 => ?_)
              clear hK9 K9
              refine wpAnyH_take (i := 11) (v := ?_) rfl (by kernel_rfl) (by kernel_rfl) (by kernel_rfl) (fun _ _ _ h => h) (Or.inl ⟨by rfl, ?_⟩) (by assumption) ?_
              rotate_left
              · intro w hSw
                try dsimp only at hSw
                go_simp
                all_goals with_reducible rfl
              simp only [Act.put, List.getElem_toArray, List.getElem_cons_zero, List.getElem_cons_succ, List.setIfInBounds_toArray, List.set_cons_zero, List.set_cons_succ]
              refine wpAnyH_ready (rs := [12]) (by kernel_rfl) (by simp) ?_
              refine (AllReadyH.cons rfl (fun K9 hK9 => ?_) AllReadyH.nil)
              go_simp
              refine hK9.out _ _ SS.out (fun hHeld2 => ?_)
              clear hK9 K9
              refine wpAnyH_done (by kernel_rfl) ?_ _
              clear hrun v4 m4 a4 x4 f4 SM SA S7 SS sU hHeld hHeld2
              go_wp2
              exact ⟨⟨k + 1, _, _, by omega, by go_num, RN.out⟩, by simp [intOf]; omega⟩
            · go_simp
              refine hK9.out _ _ SA.out (fun hHeld2 => ?_)
              clear hK9 K9
              refine wpAnyH_ready (rs := [1]) (by kernel_rfl) (by simp) ?_
              refine (AllReadyH.cons rfl (fun K9 hK9 => ?_) AllReadyH.nil)
              go_simp
              refine hK9.out _ _ SA.out (fun hHeld2 => ?_)
              clear hK9 K9
              refine wpAnyH_ready (rs := [10]) (by kernel_rfl) (by simp) ?_
              refine (AllReadyH.cons rfl (fun K9 hK9 => ?_) AllReadyH.nil)
              refine Bk.step_app rfl _ _ 36 rfl _ _ _ _ rfl rfl hrun ?_
              simp only [Act.put, List.getElem_toArray, List.getElem_cons_zero, List.getElem_cons_succ, List.setIfInBounds_toArray, List.set_cons_zero, List.set_cons_succ]
              refine hK9.out _ _ S7.out (fun hHeld2 => ?_)
              clear hK9 K9
              refine wpAnyH_take (i := 11) (v := ?_) rfl (by kernel_rfl) (by kernel_rfl) (by kernel_rfl) (fun _ _ _ h => h) (Or.inl ⟨by rfl, ?_⟩) (by assumption) ?_
              rotate_left
              · intro w hSw
                try dsimp only at hSw
                go_simp
                all_goals with_reducible rfl
              simp only [Act.put, List.getElem_toArray, List.getElem_cons_zero, List.getElem_cons_succ, List.setIfInBounds_toArray, List.set_cons_zero, List.set_cons_succ]
              refine wpAnyH_ready (rs := [12]) (by kernel_rfl) (by simp) ?_
              refine (AllReadyH.cons rfl (fun K9 hK9 => ?_) AllReadyH.nil)
              go_simp
              refine hK9.out _ _ SS.out (fun hHeld2 => ?_)
              clear hK9 K9
              refine wpAnyH_done (by kernel_rfl) ?_ _
              clear hrun v4 m4 a4 x4 f4 SM SA S7 SS sU hHeld hHeld2
              go_wp2
              exact ⟨⟨k + 1, _, _, by omega, by go_num, RN.out⟩, by simp [intOf]; omega⟩
      · obtain rfl : n = k := by omega
        have hR2 := HRn0.out.kept.heap HR2.out (by simp)
        obtain ⟨⟨z0, z1, z2, z3, z4⟩, f0, f1, f2, f3, f4⟩ := five hR2
        obtain ⟨⟨c0, c1, c2, c3, c4⟩, -⟩ := five HRn0.out.box
        obtain ⟨po, c, eV⟩ := Bk.row_form HRn0.out.row
        subst eV
        have HRR := Hid.mk hR2
        clear hR2 q0' q1' q2' q3'
        go_wp2
        have s5 := set5 (.int .i64 W) (.int .i64 H) (.int .i64 D) (.bool A) (.slice po n c) HRR.out
        refine bodyPost_ret (v := .tuple #[frv W H D A po n c, .int .i64 0]) ?_ rfl ⟨fun _ => ⟨po, c, rfl, ?_, ?_⟩, fun h => absurd rfl h⟩
        · exact results_two rfl _ _ (b + 1) 38 _ (0, 0) _ _ rfl s5.1 Try.underlying38 Try.info38 rfl
        · exact HRn0.out.plT rfl HRR.out s5.2
        · exact (hk02.out.trans HRn0.out.kept).step s5.2 (fun x hx => by simp at hx; subst hx; exact .inr (by have := HEB.out; omega))
  · rw [e1] at C ⊢
    clear e1 h1
    go_enter Try.func17, Try.ntmps17
    go_wp2_with (first | (go_at_call 15; refine (C.out _).mono ?_; rintro e w2 ⟨rfl, hk2⟩; rw [← HW.out] at hk2; have hk02 := Hid.mk (hk0.out.trans hk2); obtain ⟨⟨z0, z1, z2, z3, z4⟩, f0, f1, f2, f3, f4⟩ := five (hk2.heap HR.out (by simp)); have HR2 := Hid.mk (hk2.heap HR.out (by simp))))
    have s5 := set5 (.int .i64 0) (.int .i64 0) (.int .i64 0) (.bool false) (.slice none 0 0) HR2.out
    refine bodyPost_ret (v := .tuple #[frv 0 0 0 false none 0 0, .int .i64 61]) ?_ rfl ⟨fun h => absurd h (by decide), fun _ => ⟨rfl, ?_⟩⟩
    · exact results_two rfl _ _ (w.heap.size + 1) 38 _ (0, 0) _ _ rfl s5.1 Try.underlying38 Try.info38 rfl
    · exact hk02.out.step s5.2 (fun x hx => by simp at hx; subst hx; exact .inr (by omega))
end Go.Proofs.Ythihennifigchaa
