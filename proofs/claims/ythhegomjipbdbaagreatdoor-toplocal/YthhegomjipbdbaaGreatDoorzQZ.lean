import Derived.Test.YthhegomjipbdbaaGreatDoorzNZ
import Derived.Maps.AppendAt
import Derived.Test.YthhegomjipbdbaaGreatDoorwA
namespace Go.Proofs.YthhegomjipbdbaaGreatDoor.Tl
open Go.RowKit

theorem mem_own {V : Value} {x : Nat} : x ∈ V.ownBlock.toList ↔ V.ownBlock = some x := by
  cases V.ownBlock <;> simp [eq_comm]

theorem fl_append (f g : Nat → Value) (n m : Nat) : fl f n ++ fl g m = fl (fun i => if i < n then f i else g (i - n)) (n + m) := by
  apply List.ext_getElem?
  intro i
  by_cases h : i < n
  · rw [List.getElem?_append_left (by rw [fl_length]; exact h), fl_at _ _ _ h, fl_at _ _ _ (by omega), if_pos h]
  · rw [List.getElem?_append_right (by rw [fl_length]; omega), fl_length]
    by_cases h2 : i < n + m
    · rw [fl_at _ _ _ (by omega), fl_at _ _ _ h2, if_neg h]
    · rw [List.getElem?_eq_none (by rw [fl_length]; omega), List.getElem?_eq_none (by rw [fl_length]; omega)]
theorem own_suc {W : World} {base : Nat} {e : TypeId} {size : Nat} {v : Value} {k : Nat} {xs : List Value} (h : W.ownsRow base e size v (k + 1) xs) : ∃ g cap, v = .slice (some ⟨g, 0, none⟩) (k + 1) cap := by
  rcases h.2 with ⟨_, h0⟩ | ⟨g, cap, _, rfl, _⟩
  · omega
  · exact ⟨g, cap, rfl⟩
abbrev slv (b n c : Nat) : Value := .slice (some ⟨b, 0, none⟩) n c
theorem own_other {w : World} {B n b t : Nat} {V : Value} {xs : List Value} {cs : Array Value} (h : w.ownsRow B 94 1 V n xs) (hb : w.heap[b]? = some (.cells cs t (0, 0))) (ht : t ≠ 94) : V.ownBlock ≠ some b := by
  intro e
  rcases h.2 with ⟨rfl, _⟩ | ⟨g, cap, cur, rfl, _, hg, _⟩
  · simp [Value.ownBlock] at e
  · simp [Value.ownBlock] at e
    subst e
    rw [hg] at hb
    simp at hb
    exact ht hb.2.symm
theorem own_lt {w : World} {B e n : Nat} {V : Value} {xs : List Value} (h : w.ownsRow B e 1 V n xs) : ∀ x, V.ownBlock = some x → B ≤ x ∧ x < w.heap.size := fun x hx => by
  rcases h.2 with ⟨e, _⟩ | ⟨g, cap, cur, e, hb, hg, _⟩
  · rw [e] at hx; simp [Value.ownBlock] at hx
  · rw [e] at hx; simp [Value.ownBlock] at hx; subst hx; exact ⟨hb, lt_of_block hg⟩
theorem step_app {ops : Array Oper} {o : Oper} {a : Act} {w : World} {K : Act → World → Prop} {Q : Exit → Act → World → Prop} {E : Prop} (hg : o.guard = none) (s x : Operand) (t : Nat)
    (hop : o.op = Op.call { callee := Callee.builtin Builtin.append, args := #[s, x], argTypes := #[t, t] }) (v1 v2 v' : Value) (w' : World) (hs : a.eval s = v1) (hx : a.eval x = v2)
    (hr : Sem.run Tryz.prog (Builtin.append_ #[t, t] o.type #[v1, v2]) w = .ok v' w') (hK : K (a.put o.dst v') w') :
    if Region.wanted o (yielded ops a.tmps) = true then Oper.wp Tryz.prog o a w K Q else E := by
  have hw : Region.wanted o (yielded ops a.tmps) = true := by simp [Region.wanted, hg]
  rw [if_pos hw]
  unfold Oper.wp
  simp [execOp, hop, resolve, invoke, builtin, hs, hx, hr, Result.andThen]
  exact hK
theorem app_one (u : World) (B k : Nat) (V y : Value) (xs : List Value) (ho : u.ownsRow B 94 1 V k xs) (hy : y.oneCell' = true) (hB : B ≤ u.heap.size) (hk : k ≤ 5864062014700) :
    ∃ g2 c2 ud, Sem.run Tryz.prog (Builtin.append_ #[40, 40] 40 #[V, .slice (some ⟨u.heap.size, 0, none⟩) 1 1]) (u.alloc (.cells #[y] 94)) = .ok (slv g2 (k + 1) c2) ud ∧ ud.ownsRow B 94 1 (slv g2 (k + 1) c2) (k + 1) (xs ++ [y]) ∧ Kept V.ownBlock.toList u ud ∧ Lies u V (slv g2 (k + 1) c2) := by
  obtain ⟨j0, gi, gz0, gz1, gz2⟩ := info_parts Tryz.infoR
  obtain ⟨v', w', hrun, h2, h3, _, h5⟩ := run_append_own_at (P := Tryz.prog) (u.alloc (.cells #[y] 94)) B 40 40 94 j0 (.slice none 0 0) 1 24 Tryz.underlying40 gi gz0 gz1 gz2 rfl (by decide) V k xs (ho.alloc _) ⟨u.heap.size, 0, none⟩ 1 1 [y] rfl (cell_one_new _ _ _) (fun x hx => by simp at hx; subst hx; exact hy) (by unfold maxLen; omega) (by omega) (by rw [World.size_alloc]; omega)
  obtain ⟨g2, c2, rfl⟩ := own_suc h2
  refine ⟨g2, c2, w', hrun, h2, ((Kept.refl _ u).alloc _).step (Kept.of_grown h3) (fun x hx => .inl hx), ?_⟩
  rcases h5 with h | h
  · exact .inl h
  · exact .inr ⟨_, h, by rw [World.size_alloc]; omega⟩


/-- A row whose first m samples are f, in a block of its own (with room). -/
def Wr (w : World) (g m : Nat) (f : Nat → Nat) : Prop := ∃ cs : Array Value, w.heap[g]? = some (.cells cs 93 (0, 0)) ∧ ∀ i, i < m → cs[i]? = some (.int .u16 (f i : Int))
theorem Wr.lt {w : World} {g m : Nat} {f : Nat → Nat} (h : Wr w g m f) : g < w.heap.size := by
  obtain ⟨cs, h1, -⟩ := h
  exact lt_of_block h1
theorem Wr.keep {w w' : World} {g m : Nat} {f : Nat → Nat} {ks : List Nat} (h : Wr w g m f) (hk : Kept ks w w') (hg : g ∉ ks) : Wr w' g m f := by
  obtain ⟨cs, h1, h2⟩ := h
  exact ⟨cs, hk.heap h1 hg, h2⟩
theorem Wr.at {w : World} {g m : Nat} {f : Nat → Nat} (h : Wr w g m f) {i : Nat} (hi : i < m) : w.cell? ⟨g, i, none⟩ = some (.int .u16 (f i : Int)) := by
  obtain ⟨cs, h1, h2⟩ := h
  rw [cell_of_row _ _ _ _ _ _ h1]
  exact h2 i hi
theorem Wr.fz {w : World} {g m : Nat} {f : Nat → Nat} (h : Wr w g m f) (i : Nat) : w.frozen? ⟨g, i, none⟩ = false := by
  obtain ⟨cs, h1, -⟩ := h
  simp [World.frozen?, h1]
theorem Wr.rd {w : World} {g m : Nat} {f : Nat → Nat} (h : Wr w g m f) : Rd w (some ⟨g, 0, none⟩) m f := .inr ⟨g, 0, rfl, fun i hi => by rw [Nat.zero_add]; exact h.at hi⟩
theorem Wr.set {w : World} {g m i v : Nat} {f : Nat → Nat} (h : Wr w g m f) : Wr (w.setCell ⟨g, i, none⟩ (.int .u16 (v : Int))) g m (fun t => if t = i then v else f t) := by
  obtain ⟨cs, h1, h2⟩ := h
  refine ⟨_, heap_setCell_at h1, fun t ht => ?_⟩
  have h3 := h2 t ht
  rw [Array.getElem?_setIfInBounds]
  by_cases e : i = t
  · subst e
    have hl : i < cs.size := by
      rcases Nat.lt_or_ge i cs.size with h | h
      · exact h
      · rw [Array.getElem?_eq_none h] at h3; cases h3
    simp [hl]
  · rw [if_neg e]
    show cs[t]? = some (.int .u16 ((if t = i then v else f t : Nat) : Int))
    rw [if_neg (Ne.symm e)]
    exact h3

/-- A copy of samples that are read, by append onto an empty list. -/
theorem app_copyR (u : World) (b o m c : Nat) (f : Nat → Nat) (hr : ∀ i, i < m → u.cell? ⟨b, o + i, none⟩ = some (.int .u16 (f i : Int))) (hm1 : 1 ≤ m) (hM : m ≤ 70368744177664) :
    ∃ g1 c1 ub, Sem.run Tryz.prog (Builtin.append_ #[94, 94] 94 #[.slice (some ⟨u.heap.size, 0, none⟩) 0 0, .slice (some ⟨b, o, none⟩) m c]) (u.alloc (.cells #[] 93)) = .ok (slv g1 m c1) ub ∧ Kept [] u ub ∧ u.heap.size ≤ g1 ∧ m ≤ c1 ∧ Wr ub g1 m f := by
  obtain ⟨j0, gi, gz0, gz1, gz2⟩ := info_parts Tryz.info93
  have ho : (u.alloc (.cells #[] 93)).ownsRow u.heap.size 93 1 (.slice (some ⟨u.heap.size, 0, none⟩) 0 0) 0 ([] : List Value) := World.ownsRow_lit u #[] 0 (Nat.le_refl _) (by decide) rfl
  obtain ⟨v', w', hrun, h2, h3, h4, _⟩ := run_append_own_at (P := Tryz.prog) (u.alloc (.cells #[] 93)) u.heap.size 94 94 93 j0 (.int .u16 0) 1 2 Tryz.underlying94 gi gz0 gz1 gz2 rfl (by decide) _ 0 [] ho ⟨b, o, none⟩ m c (fl (vU f) m) (by rw [fl_length, Nat.mul_one]) (fun j x hj => by
    have hjm : j < m := by
      rcases Nat.lt_or_ge j m with h | h
      · exact h
      · rw [List.getElem?_eq_none (by rw [fl_length]; exact h)] at hj; cases hj
    rw [fl_at _ _ _ hjm] at hj
    cases hj
    rw [show (⟨b, o, none⟩ : Addr).add j = ⟨b, o + j, none⟩ by unfold Addr.add; split <;> simp_all]
    exact cell_keep (alloc_kept u _) (hr j hjm) (by simp)) (fun x hx => by
    simp only [fl, vU, List.mem_map] at hx
    obtain ⟨i, _, rfl⟩ := hx
    rfl) (by unfold maxLen; omega) (by omega) (by rw [World.size_alloc]; omega)
  rw [Nat.zero_add, List.nil_append] at h2
  have hk : Kept [] u w' := (alloc_kept u _).step (Kept.of_grown h3) (fun x hx => by rw [mem_own] at hx; simp [Value.ownBlock] at hx; subst hx; exact .inr (Nat.le_refl _))
  rcases h2.2 with ⟨e, h0⟩ | ⟨g, cap, cur, e, hb, hg, hc, _⟩
  · have := (h4.1 e).1
    cases this
  · subst e
    refine ⟨g, cap, w', hrun, hk, hb, hc, _, hg, fun i hi => ?_⟩
    have hcc := h2.cells (g := g) rfl i _ (fl_at _ m i hi)
    rw [show (⟨g, 0, none⟩ : Addr).add i = ⟨g, 0 + i, none⟩ by unfold Addr.add; split <;> simp_all, Nat.zero_add, cell_of_row _ _ _ _ _ _ hg] at hcc
    exact hcc

/-- Planes that were copied so far: rows in blocks of their own, one behind the other. -/
structure Gz (B : Nat) (w : World) (V : Value) (k : Nat) (gs cs ln : Nat → Nat) (F : Nat → Nat → Nat) : Prop where
  own : w.ownsRow B 94 1 V k (fl (fun i => slv (gs i) (ln i) (cs i)) k)
  row : ∀ i, i < k → ln i ≤ cs i ∧ B ≤ gs i ∧ Wr w (gs i) (ln i) (F i)
  mon : ∀ i j, i < j → j < k → gs i < gs j
theorem Gz.start (B : Nat) (w : World) (gs cs ln : Nat → Nat) (F : Nat → Nat → Nat) : Gz B w (.slice none 0 0) 0 gs cs ln F := ⟨⟨rfl, .inl ⟨rfl, rfl⟩⟩, fun i h => by omega, fun i j _ h => by omega⟩
theorem Gz.keep {B : Nat} {w w' : World} {V : Value} {k : Nat} {gs cs ln : Nat → Nat} {F : Nat → Nat → Nat} {ks : List Nat} (h : Gz B w V k gs cs ln F) (hk : Kept ks w w') (hs : ∀ x ∈ ks, x < B) : Gz B w' V k gs cs ln F := by
  refine ⟨hk.row h.own (fun g hg hm => ?_), fun i hi => ?_, h.mon⟩
  · have := (own_lt h.own g hg).1
    have := hs g hm
    omega
  · obtain ⟨h1, h2, h3⟩ := h.row i hi
    exact ⟨h1, h2, h3.keep hk (fun hm => by have := hs _ hm; omega)⟩
theorem own_wr {w : World} {B n g m : Nat} {V : Value} {xs : List Value} {f : Nat → Nat} (h : w.ownsRow B 94 1 V n xs) (hr : Wr w g m f) : V.ownBlock ≠ some g := by
  obtain ⟨cs, h1, -⟩ := hr
  exact own_other h h1 (by decide)
/-- One row more. -/
theorem Gz.step {B : Nat} {w wA w' : World} {V V' : Value} {k gn c : Nat} {gs cs ln : Nat → Nat} {F : Nat → Nat → Nat} (h : Gz B w V k gs cs ln F) (hB : B ≤ w.heap.size) (hk : Kept [] w wA) (hc : ln k ≤ c) (hgn : w.heap.size ≤ gn) (hr : Wr wA gn (ln k) (F k))
    (ho : w'.ownsRow B 94 1 V' (k + 1) (fl (fun i => slv (gs i) (ln i) (cs i)) k ++ [slv gn (ln k) c])) (hk2 : Kept V.ownBlock.toList wA w') : Gz B w' V' (k + 1) (fun i => if i = k then gn else gs i) (fun i => if i = k then c else cs i) ln F := by
  have hA := h.keep hk (by simp)
  refine ⟨?_, fun i hi => ?_, fun i j hij hj => ?_⟩
  · rw [show fl (fun i => slv (gs i) (ln i) (cs i)) k ++ [slv gn (ln k) c] = fl (fun i => slv (gs i) (ln i) (cs i)) k ++ fl (fun _ => slv gn (ln k) c) 1 from rfl, fl_append] at ho
    rw [fl_congr (g := fun i => if i < k then slv (gs i) (ln i) (cs i) else slv gn (ln k) c)]
    · exact ho
    · intro i hi
      by_cases e : i = k
      · subst e; simp
      · simp [e, show i < k by omega]
  · by_cases e : i = k
    · subst e
      simp only [if_pos]
      exact ⟨hc, by omega, hr.keep hk2 (fun hm => own_wr hA.own hr (mem_own.1 hm))⟩
    · simp only [if_neg e]
      obtain ⟨h1, h2, h3⟩ := hA.row i (by omega)
      exact ⟨h1, h2, h3.keep hk2 (fun hm => own_wr hA.own h3 (mem_own.1 hm))⟩
  · have hlt : ∀ i, i < k → gs i < w.heap.size := fun i hi => (h.row i hi).2.2.lt
    by_cases e : j = k
    · subst e
      rw [if_pos rfl, if_neg (by omega)]
      have := hlt i hij
      omega
    · rw [if_neg (show i ≠ k by omega), if_neg e]
      exact h.mon i j hij (by omega)
theorem Gz.pc {B : Nat} {w : World} {V : Value} {k : Nat} {gs cs ln : Nat → Nat} {F : Nat → Nat → Nat} (h : Gz B w V k gs cs ln F) : ∃ ao c, V = .slice ao k c ∧ Pc.Plc w ao k ln F := by
  rcases h.own.2 with ⟨e, h0⟩ | ⟨g, cap, cur, rfl, hb, hg, _⟩
  · subst h0
    exact ⟨none, 0, e, .inl rfl⟩
  · refine ⟨_, cap, rfl, .inr ⟨g, 0, rfl, fun i hi => ?_⟩⟩
    obtain ⟨h1, h2, h3⟩ := h.row i hi
    have hc := h.own.cells (g := g) rfl i _ (fl_at _ k i hi)
    have hadd : (⟨g, 0, none⟩ : Addr).add i = ⟨g, 0 + i, none⟩ := by unfold Addr.add; split <;> simp_all
    rw [hadd] at hc
    exact ⟨_, cs i, hc, h1, h3.rd⟩

theorem Gz.setp {B : Nat} {w : World} {V : Value} {n p i v : Nat} {gs cs ln : Nat → Nat} {F : Nat → Nat → Nat} (h : Gz B w V n gs cs ln F) (hp : p < n) : Gz B (w.setCell ⟨gs p, i, none⟩ (.int .u16 (v : Int))) V n gs cs ln (fun q => if q = p then (fun t => if t = i then v else F p t) else F q) := by
  have kS : Kept [gs p] w (w.setCell ⟨gs p, i, none⟩ (.int .u16 (v : Int))) := (Kept.refl _ _).setCell (.inl (by simp)) _
  refine ⟨kS.row h.own (fun g hg hm => ?_), fun q hq => ?_, h.mon⟩
  · simp at hm
    subst hm
    exact own_wr h.own (h.row p hp).2.2 hg
  · obtain ⟨h1, h2, h3⟩ := h.row q hq
    by_cases e : q = p
    · subst e
      simp only [if_pos]
      exact ⟨h1, h2, h3.set⟩
    · simp only [if_neg e]
      refine ⟨h1, h2, h3.keep kS (fun hm => ?_)⟩
      simp at hm
      rcases Nat.lt_trichotomy q p with hl | hl | hl
      · have := h.mon q p hl hp; omega
      · exact e hl
      · have := h.mon p q hl hq; omega

set_option maxHeartbeats 16000000 in
set_option maxRecDepth 1000000 in
theorem copied_any (W H D : Int) (A : Bool) (po : Option Addr) (n c : Nat) (ln : Nat → Nat) (F : Nat → Nat → Nat) (w : World) (hr : Pc.Plc w po n ln F) (hn : n ≤ 5864062014634) (hln : ∀ i, i < n → 1 ≤ ln i ∧ ln i ≤ 70368744175616) :
    Calls Tryz.prog 39 #[frv W H D A po n c] w fun e w' => ∃ go gc gs cs, e = .returned (frv W H D A go n gc) ∧ Gz w.heap.size w' (.slice go n gc) n gs cs ln F ∧ Kept [] w w' := by
  have HP := Hid.mk hr
  have Hln := Hid.mk hln
  clear hr hln
  go_enter Tryz.func39, Tryz.ntmps39
  go_wp2
  obtain ⟨w1, ew1⟩ : ∃ w1, w1 = ((w.alloc (.cells #[.int .i64 W, .int .i64 H, .int .i64 D, .bool A, .slice po n c] 42)).alloc (.cells #[.int .i64 0, .int .i64 0, .int .i64 0, .bool false, .slice none 0 0] 42)).alloc (.cells #[.int .i64 W, .int .i64 H, .int .i64 D, .bool A, .slice none 0 0] 42) := ⟨_, rfl⟩
  have P1 : Hid ((w1.heap[w.heap.size]? = some (.cells #[.int .i64 W, .int .i64 H, .int .i64 D, .bool A, .slice po n c] 42 (0, 0)) ∧ w1.heap[w.heap.size + 1]? = some (.cells #[.int .i64 0, .int .i64 0, .int .i64 0, .bool false, .slice none 0 0] 42 (0, 0)) ∧ w1.heap[w.heap.size + 1 + 1]? = some (.cells #[.int .i64 W, .int .i64 H, .int .i64 D, .bool A, .slice none 0 0] 42 (0, 0))) ∧ w1.heap.size = w.heap.size + 3 ∧ Kept [] w w1) := by
    have h1 := heap_alloc_new w (.cells #[.int .i64 W, .int .i64 H, .int .i64 D, .bool A, .slice po n c] 42)
    have h2 := heap_alloc_new (w.alloc (.cells #[.int .i64 W, .int .i64 H, .int .i64 D, .bool A, .slice po n c] 42)) (.cells #[.int .i64 0, .int .i64 0, .int .i64 0, .bool false, .slice none 0 0] 42)
    have h3 := heap_alloc_new ((w.alloc (.cells #[.int .i64 W, .int .i64 H, .int .i64 D, .bool A, .slice po n c] 42)).alloc (.cells #[.int .i64 0, .int .i64 0, .int .i64 0, .bool false, .slice none 0 0] 42)) (.cells #[.int .i64 W, .int .i64 H, .int .i64 D, .bool A, .slice none 0 0] 42)
    have k2 := alloc_kept (w.alloc (.cells #[.int .i64 W, .int .i64 H, .int .i64 D, .bool A, .slice po n c] 42)) (.cells #[.int .i64 0, .int .i64 0, .int .i64 0, .bool false, .slice none 0 0] 42)
    have k3 := alloc_kept ((w.alloc (.cells #[.int .i64 W, .int .i64 H, .int .i64 D, .bool A, .slice po n c] 42)).alloc (.cells #[.int .i64 0, .int .i64 0, .int .i64 0, .bool false, .slice none 0 0] 42)) (.cells #[.int .i64 W, .int .i64 H, .int .i64 D, .bool A, .slice none 0 0] 42)
    rw [World.size_alloc] at h2
    rw [World.size_alloc, World.size_alloc] at h3
    rw [ew1]
    exact ⟨⟨k3.heap (k2.heap h1 (by simp)) (by simp), k3.heap h2 (by simp), h3⟩, by rw [World.size_alloc, World.size_alloc, World.size_alloc], ((alloc_kept w _).trans k2).trans k3⟩
  rw [← ew1]
  clear ew1
  obtain ⟨XB, eXB⟩ : ∃ XB, XB = w.heap.size := ⟨_, rfl⟩
  obtain ⟨RB, eRB⟩ : ∃ RB, RB = w.heap.size + 1 := ⟨_, rfl⟩
  obtain ⟨YB, eYB⟩ : ∃ YB, YB = w.heap.size + 1 + 1 := ⟨_, rfl⟩
  rw [← eYB, ← eRB, ← eXB] at P1 ⊢
  obtain ⟨B, eB⟩ : ∃ B, B = w1.heap.size := ⟨_, rfl⟩
  have HB : Hid (XB = w.heap.size ∧ RB = w.heap.size + 1 ∧ YB = w.heap.size + 2 ∧ B = w.heap.size + 3 ∧ B = w1.heap.size) := Hid.mk ⟨eXB, eRB, eYB, by have := P1.out.2.1; omega, eB⟩
  have EX := Hid.mk eXB
  clear eXB eRB eYB eB
  go_loopw [4] (fun i wr => ∃ (k : Nat) (V' : Value) (gs cs : Nat → Nat), k ≤ n ∧ i = .int .i64 (k : Int) ∧ wr.heap[YB]? = some (.cells #[.int .i64 W, .int .i64 H, .int .i64 D, .bool A, V'] 42 (0, 0)) ∧ Gz B wr V' k gs cs ln F ∧ Kept [YB] w1 wr) (fun i _ => n - (intOf i).toNat)
  case atStart => exact ⟨0, _, fun _ => 0, fun _ => 0, by omega, rfl, P1.out.1.2.2, Gz.start _ _ _ _ _ _, Kept.refl _ _⟩
  case round =>
    obtain ⟨k, V', gs, cs, hk, rfl, hY, hG, hkr⟩ := hrel
    have hb := HB.out
    have hX := hkr.heap P1.out.1.1 (by simp; omega)
    have hR := hkr.heap P1.out.1.2.1 (by simp; omega)
    have kw : Kept [] w wr := P1.out.2.2.step hkr (fun x hx => by simp at hx; right; omega)
    obtain ⟨⟨x0, x1, x2, x3, x4⟩, _⟩ := five hX
    by_cases hlt : k < n
    · have hmb := Hln.out k hlt
      obtain ⟨pg, off, rfl, hpc⟩ : ∃ pg off, po = some ⟨pg, off, none⟩ ∧ ∀ i, i < n → ∃ bo c, wr.cell? ⟨pg, off + i, none⟩ = some (.slice bo (ln i) c) ∧ ln i ≤ c ∧ Rd wr bo (ln i) (F i) := by
        rcases HP.out.keep kw with h | h
        · omega
        · exact h
      obtain ⟨bo, bc, zL, hbc, hrd0⟩ := hpc k hlt
      obtain ⟨b, o2, rfl, hcs⟩ : ∃ b o2, bo = some ⟨b, o2, none⟩ ∧ ∀ i, i < ln k → wr.cell? ⟨b, o2 + i, none⟩ = some (.int .u16 (F k i : Int)) := by
        rcases hrd0 with h | h
        · omega
        · exact h
      have ix : (k : Int) < (n : Int) := by omega
      obtain ⟨m, em⟩ : ∃ m, m = ln k := ⟨_, rfl⟩
      rw [← em] at zL hmb hbc hcs
      have EM := Hid.mk em
      have z4 := x4
      have hBw : B ≤ wr.heap.size := by rw [hb.2.2.2.2]; exact hkr.size
      obtain ⟨vo', vc', rfl⟩ : ∃ vo' vc', V' = .slice vo' k vc' := by
        rcases hG.own.2 with ⟨e2, h0⟩ | ⟨g2, cap, cur, e2, _⟩
        · exact ⟨none, 0, by rw [e2, h0]⟩
        · exact ⟨_, _, e2⟩
      obtain ⟨g1, c1, ub, e9, kb, hg1, hmc, hwr⟩ := app_copyR wr.drew b o2 m bc (F k) (fun i hi => hcs i hi) hmb.1 (by omega)
      have kb' : Kept [] wr ub := ((Kept.refl [] wr).drew).trans kb
      have hGb := hG.keep kb' (by simp)
      obtain ⟨g2, c2, ud, e11, ho2, kd, -⟩ := app_one ub B k _ (slv g1 m c1) _ hGb.own rfl (Nat.le_trans hBw kb'.size) (by omega)
      have hYb := kb'.heap hY (by simp)
      have nYd : YB ∉ (Value.slice vo' k vc').ownBlock.toList := by rw [mem_own]; exact own_other hGb.own hYb (by decide)
      have hYd := kd.heap hYb nYd
      have nXd : ∀ x, x < B → x ∉ (Value.slice vo' k vc').ownBlock.toList := fun x hx hm => by rw [mem_own] at hm; have := (own_lt hGb.own x hm).1; omega
      have kwb : Kept [] w ub := kw.trans kb'
      have kwd : Kept [] w ud := kwb.step kd (fun x hx => by rw [mem_own] at hx; have := (own_lt hGb.own x hx).1; right; omega)
      obtain ⟨⟨_, _, _, _, v4⟩, ⟨_, _, _, _, t4⟩⟩ := five hY
      obtain ⟨⟨_, _, _, _, v4b⟩, ⟨_, _, _, _, _⟩⟩ := five hYb
      obtain ⟨⟨_, _, _, _, v4d⟩, ⟨_, _, _, _, t4d⟩⟩ := five hYd
      have v4a : ((wr.alloc (.cells #[] 93)).drew).cell? ⟨YB, 4, none⟩ = some (.slice vo' k vc') := cell_keep (alloc_kept wr.drew (.cells #[] 93)) (show wr.drew.cell? _ = _ from v4) (by simp)
      have v4c := cell_keep (alloc_kept ub (.cells #[slv g1 m c1] 94)) v4b (by simp)
      have a4 : ((wr.alloc (.cells #[] 93)).drew).cell? ⟨XB, 4, none⟩ = some (.slice (some ⟨pg, off, none⟩) n c) := cell_keep (alloc_kept wr.drew (.cells #[] 93)) (show wr.drew.cell? _ = _ from z4) (by simp)
      have aL : ((wr.alloc (.cells #[] 93)).drew).cell? ⟨pg, off + k, none⟩ = some (.slice (some ⟨b, o2, none⟩) m bc) := cell_keep (alloc_kept wr.drew (.cells #[] 93)) (show wr.drew.cell? _ = _ from zL) (by simp)
      have e9' : Sem.run Tryz.prog (Builtin.append_ #[94, 94] 94 #[.slice (some ⟨wr.heap.size, 0, none⟩) 0 0, .slice (some ⟨b, o2, none⟩) m bc]) ((wr.alloc (.cells #[] 93)).drew) = .ok (slv g1 m c1) ub := e9
      have b4 := cell_keep kb' z4 (by simp)
      have bL := cell_keep kb' zL (by simp)
      have c4 := cell_keep (alloc_kept ub (.cells #[slv g1 m c1] 94)) b4 (by simp)
      have cL := cell_keep (alloc_kept ub (.cells #[slv g1 m c1] 94)) bL (by simp)
      have npg : pg < w.heap.size := by
        rcases HP.out with h | ⟨g', o', e', h⟩
        · omega
        · cases e'
          obtain ⟨_, _, h1, _⟩ := h k hlt
          rcases Nat.lt_or_ge pg w.heap.size with h' | h'
          · exact h'
          · simp [World.cell?, Array.getElem?_eq_none h'] at h1
      have d4 := cell_keep kd b4 (nXd XB (by omega))
      have dL := cell_keep kd bL (nXd pg (by omega))
      have kf : Kept [YB] ud (ud.setCell ⟨YB, 4, none⟩ (slv g2 (k + 1) c2)) := (Kept.refl _ _).setCell (p := ⟨YB, 4, none⟩) (.inl (by simp)) _
      have f4 := cell_keep kf d4 (by simp; omega)
      have fL := cell_keep kf dL (by simp; omega)
      have HQ : Hid (∀ wf, wf = ud.setCell ⟨YB, 4, none⟩ (slv g2 (k + 1) c2) → ∃ (gs2 cs2 : Nat → Nat), wf.heap[YB]? = some (.cells #[.int .i64 W, .int .i64 H, .int .i64 D, .bool A, slv g2 (k + 1) c2] 42 (0, 0)) ∧ Gz B wf (slv g2 (k + 1) c2) (k + 1) gs2 cs2 ln F ∧ Kept [YB] w1 wf) := Hid.mk (fun wf hwf => by
        subst hwf
        have hm := EM.out
        refine ⟨_, _, heap_setCell_at hYd, (hG.step hBw kb' (gn := g1) (c := c1) (by rw [← hm]; exact hmc) hg1 (by rw [← hm]; exact hwr) (by rw [← hm]; exact ho2) kd).keep kf (fun x hx => by simp at hx; omega), ?_⟩
        have k4 := (hkr.step kb' (by simp)).step kd (fun x hx => by rw [mem_own] at hx; have := (own_lt hGb.own x hx).1; right; omega)
        exact k4.step kf (fun x hx => by simp at hx; subst hx; exact .inl (by simp)))
      clear hG hGb hY hYb hYd hX hR kb kb' kd ho2 hwr hg1 hmc nYd nXd kf hkr hb hBw kw kwb kwd npg hpc hrd0 hcs hbc x4 em x0 x1 x2 x3
      go_wp2
      refine wp_region_held_drew (S := fun w' => w'.cell? ⟨XB, 4, none⟩ = some (.slice (some ⟨pg, off, none⟩) n c) ∧ w'.cell? ⟨pg, off + k, none⟩ = some (.slice (some ⟨b, o2, none⟩) m bc)) (by kernel_rfl) ⟨z4, zL⟩ (fun hHeld => ?_)
      refine wpAnyH_take (i := 0) (v := ?_) rfl (by kernel_rfl) (by kernel_rfl) (by kernel_rfl) (fun _ _ _ h => h) (Or.inl ⟨by rfl, ?_⟩) (by assumption) ?_
      rotate_left
      · intro w hSw
        try dsimp only at hSw
        go_simp
        all_goals with_reducible rfl
      simp only [Act.put, List.getElem_toArray, List.getElem_cons_zero, List.setIfInBounds_toArray, List.set_cons_zero, List.set_cons_succ]
      refine wpAnyH_take (i := 3) (v := ?_) rfl (by kernel_rfl) (by kernel_rfl) (by kernel_rfl) (fun _ _ _ h => h) (Or.inl ⟨by rfl, ?_⟩) (by assumption) ?_
      rotate_left
      · intro w hSw
        try dsimp only at hSw
        go_simp
        all_goals with_reducible rfl
      simp only [Act.put, List.getElem_toArray, List.getElem_cons_zero, List.getElem_cons_succ, List.setIfInBounds_toArray, List.set_cons_zero, List.set_cons_succ]
      refine wpAnyH_take (i := 4) (v := ?_) rfl (by kernel_rfl) (by kernel_rfl) (by kernel_rfl) (fun _ _ _ h => h) (Or.inl ⟨by rfl, ?_⟩) (by assumption) ?_
      rotate_left
      · intro w hSw
        try dsimp only at hSw
        go_simp
        all_goals with_reducible rfl
      simp only [Act.put, List.getElem_toArray, List.getElem_cons_zero, List.getElem_cons_succ, List.setIfInBounds_toArray, List.set_cons_zero, List.set_cons_succ]
      refine wpAnyH_take (i := 5) (v := ?_) rfl (by kernel_rfl) (by kernel_rfl) (by kernel_rfl) (fun _ _ _ h => h) (Or.inl ⟨by rfl, ?_⟩) (by assumption) ?_
      rotate_left
      · intro w hSw
        try dsimp only at hSw
        go_simp
        all_goals with_reducible rfl
      simp only [Act.put, List.getElem_toArray, List.getElem_cons_zero, List.getElem_cons_succ, List.setIfInBounds_toArray, List.set_cons_zero, List.set_cons_succ]
      refine wpAnyH_take (i := 6) (v := ?_) rfl (by kernel_rfl) (by kernel_rfl) (by kernel_rfl) (fun _ _ _ h => h) (Or.inl ⟨by rfl, ?_⟩) (by assumption) ?_
      rotate_left
      · intro w hSw
        try dsimp only at hSw
        go_simp
        all_goals with_reducible rfl
      simp only [Act.put, List.getElem_toArray, List.getElem_cons_zero, List.getElem_cons_succ, List.setIfInBounds_toArray, List.set_cons_zero, List.set_cons_succ]
      refine wpAnyH_take (i := 7) (v := ?_) rfl (by kernel_rfl) (by kernel_rfl) (by kernel_rfl) (fun _ _ _ h => h) (Or.inl ⟨by rfl, ?_⟩) (by assumption) ?_
      rotate_left
      · intro w hSw
        try dsimp only at hSw
        go_simp
        all_goals with_reducible rfl
      simp only [Act.put, List.getElem_toArray, List.getElem_cons_zero, List.getElem_cons_succ, List.setIfInBounds_toArray, List.set_cons_zero, List.set_cons_succ]
      refine wpAnyH_ready (rs := [1, 2]) (by kernel_rfl) (by simp) ?_
      refine AllReadyH.cons rfl (fun K9 hK9 => ?_) (AllReadyH.cons rfl (fun K9 hK9 => ?_) AllReadyH.nil)
      · go_simp
        refine hK9.out _ _ ⟨z4, zL⟩ (fun hHeld2 => ?_)
        clear hK9 K9
        refine wpAnyH_ready (rs := [2]) (by kernel_rfl) (by simp) ?_
        refine AllReadyH.cons rfl (fun K9 hK9 => ?_) AllReadyH.nil
        go_simp
        refine hK9.out _ _ ⟨a4, aL⟩ (fun hHeld2 => ?_)
        clear hK9 K9
        refine wpAnyH_ready (rs := [8]) (by kernel_rfl) (by simp) ?_
        refine AllReadyH.cons rfl (fun K9 hK9 => ?_) AllReadyH.nil
        refine step_app rfl _ _ 94 rfl _ _ _ _ rfl rfl e9' ?_
        simp only [Act.put, List.getElem_toArray, List.getElem_cons_zero, List.getElem_cons_succ, List.setIfInBounds_toArray, List.set_cons_zero, List.set_cons_succ]
        refine hK9.out _ _ ⟨b4, bL⟩ (fun hHeld2 => ?_)
        clear hK9 K9
        refine wpAnyH_ready (rs := [9]) (by kernel_rfl) (by simp) ?_
        refine AllReadyH.cons rfl (fun K9 hK9 => ?_) AllReadyH.nil
        go_simp
        refine hK9.out _ _ ⟨c4, cL⟩ (fun hHeld2 => ?_)
        clear hK9 K9
        refine wpAnyH_ready (rs := [10]) (by kernel_rfl) (by simp) ?_
        refine AllReadyH.cons rfl (fun K9 hK9 => ?_) AllReadyH.nil
        refine step_app rfl _ _ 40 rfl _ _ _ _ rfl rfl e11 ?_
        simp only [Act.put, List.getElem_toArray, List.getElem_cons_zero, List.getElem_cons_succ, List.setIfInBounds_toArray, List.set_cons_zero, List.set_cons_succ]
        refine hK9.out _ _ ⟨d4, dL⟩ (fun hHeld2 => ?_)
        clear hK9 K9
        refine wpAnyH_take (i := 11) (v := ?_) rfl (by kernel_rfl) (by kernel_rfl) (by kernel_rfl) (fun _ _ _ h => h) (Or.inl ⟨by rfl, ?_⟩) (by assumption) ?_
        rotate_left
        · intro w hSw
          try dsimp only at hSw
          go_simp
          all_goals with_reducible rfl
        simp only [Act.put, List.getElem_toArray, List.getElem_cons_zero, List.getElem_cons_succ, List.setIfInBounds_toArray, List.set_cons_zero, List.set_cons_succ]
        refine wpAnyH_ready (rs := [12]) (by kernel_rfl) (by simp) ?_
        refine AllReadyH.cons rfl (fun K9 hK9 => ?_) AllReadyH.nil
        go_simp
        refine hK9.out _ _ ⟨f4, fL⟩ (fun hHeld2 => ?_)
        clear hK9 K9
        refine wpAnyH_done (by kernel_rfl) ?_ _
        go_wp2
        obtain ⟨gs2, cs2, q1, q2, q3⟩ := HQ.out _ rfl
        exact ⟨⟨k + 1, _, gs2, cs2, by omega, by go_num, q1, q2, q3⟩, by simp [intOf]; omega⟩
      · go_simp
        refine hK9.out _ _ ⟨a4, aL⟩ (fun hHeld2 => ?_)
        clear hK9 K9
        refine wpAnyH_ready (rs := [1, 8]) (by kernel_rfl) (by simp) ?_
        refine AllReadyH.cons rfl (fun K9 hK9 => ?_) (AllReadyH.cons rfl (fun K9 hK9 => ?_) AllReadyH.nil)
        · go_simp
          refine hK9.out _ _ ⟨a4, aL⟩ (fun hHeld2 => ?_)
          clear hK9 K9
          refine wpAnyH_ready (rs := [8]) (by kernel_rfl) (by simp) ?_
          refine AllReadyH.cons rfl (fun K9 hK9 => ?_) AllReadyH.nil
          refine step_app rfl _ _ 94 rfl _ _ _ _ rfl rfl e9' ?_
          simp only [Act.put, List.getElem_toArray, List.getElem_cons_zero, List.getElem_cons_succ, List.setIfInBounds_toArray, List.set_cons_zero, List.set_cons_succ]
          refine hK9.out _ _ ⟨b4, bL⟩ (fun hHeld2 => ?_)
          clear hK9 K9
          refine wpAnyH_ready (rs := [9]) (by kernel_rfl) (by simp) ?_
          refine AllReadyH.cons rfl (fun K9 hK9 => ?_) AllReadyH.nil
          go_simp
          refine hK9.out _ _ ⟨c4, cL⟩ (fun hHeld2 => ?_)
          clear hK9 K9
          refine wpAnyH_ready (rs := [10]) (by kernel_rfl) (by simp) ?_
          refine AllReadyH.cons rfl (fun K9 hK9 => ?_) AllReadyH.nil
          refine step_app rfl _ _ 40 rfl _ _ _ _ rfl rfl e11 ?_
          simp only [Act.put, List.getElem_toArray, List.getElem_cons_zero, List.getElem_cons_succ, List.setIfInBounds_toArray, List.set_cons_zero, List.set_cons_succ]
          refine hK9.out _ _ ⟨d4, dL⟩ (fun hHeld2 => ?_)
          clear hK9 K9
          refine wpAnyH_take (i := 11) (v := ?_) rfl (by kernel_rfl) (by kernel_rfl) (by kernel_rfl) (fun _ _ _ h => h) (Or.inl ⟨by rfl, ?_⟩) (by assumption) ?_
          rotate_left
          · intro w hSw
            try dsimp only at hSw
            go_simp
            all_goals with_reducible rfl
          simp only [Act.put, List.getElem_toArray, List.getElem_cons_zero, List.getElem_cons_succ, List.setIfInBounds_toArray, List.set_cons_zero, List.set_cons_succ]
          refine wpAnyH_ready (rs := [12]) (by kernel_rfl) (by simp) ?_
          refine AllReadyH.cons rfl (fun K9 hK9 => ?_) AllReadyH.nil
          go_simp
          refine hK9.out _ _ ⟨f4, fL⟩ (fun hHeld2 => ?_)
          clear hK9 K9
          refine wpAnyH_done (by kernel_rfl) ?_ _
          go_wp2
          obtain ⟨gs2, cs2, q1, q2, q3⟩ := HQ.out _ rfl
          exact ⟨⟨k + 1, _, gs2, cs2, by omega, by go_num, q1, q2, q3⟩, by simp [intOf]; omega⟩
        · refine step_app rfl _ _ 94 rfl _ _ _ _ rfl rfl e9' ?_
          simp only [Act.put, List.getElem_toArray, List.getElem_cons_zero, List.getElem_cons_succ, List.setIfInBounds_toArray, List.set_cons_zero, List.set_cons_succ]
          refine hK9.out _ _ ⟨b4, bL⟩ (fun hHeld2 => ?_)
          clear hK9 K9
          refine wpAnyH_ready (rs := [1, 9]) (by kernel_rfl) (by simp) ?_
          refine AllReadyH.cons rfl (fun K9 hK9 => ?_) (AllReadyH.cons rfl (fun K9 hK9 => ?_) AllReadyH.nil)
          · go_simp
            refine hK9.out _ _ ⟨b4, bL⟩ (fun hHeld2 => ?_)
            clear hK9 K9
            refine wpAnyH_ready (rs := [9]) (by kernel_rfl) (by simp) ?_
            refine AllReadyH.cons rfl (fun K9 hK9 => ?_) AllReadyH.nil
            go_simp
            refine hK9.out _ _ ⟨c4, cL⟩ (fun hHeld2 => ?_)
            clear hK9 K9
            refine wpAnyH_ready (rs := [10]) (by kernel_rfl) (by simp) ?_
            refine AllReadyH.cons rfl (fun K9 hK9 => ?_) AllReadyH.nil
            refine step_app rfl _ _ 40 rfl _ _ _ _ rfl rfl e11 ?_
            simp only [Act.put, List.getElem_toArray, List.getElem_cons_zero, List.getElem_cons_succ, List.setIfInBounds_toArray, List.set_cons_zero, List.set_cons_succ]
            refine hK9.out _ _ ⟨d4, dL⟩ (fun hHeld2 => ?_)
            clear hK9 K9
            refine wpAnyH_take (i := 11) (v := ?_) rfl (by kernel_rfl) (by kernel_rfl) (by kernel_rfl) (fun _ _ _ h => h) (Or.inl ⟨by rfl, ?_⟩) (by assumption) ?_
            rotate_left
            · intro w hSw
              try dsimp only at hSw
              go_simp
              all_goals with_reducible rfl
            simp only [Act.put, List.getElem_toArray, List.getElem_cons_zero, List.getElem_cons_succ, List.setIfInBounds_toArray, List.set_cons_zero, List.set_cons_succ]
            refine wpAnyH_ready (rs := [12]) (by kernel_rfl) (by simp) ?_
            refine AllReadyH.cons rfl (fun K9 hK9 => ?_) AllReadyH.nil
            go_simp
            refine hK9.out _ _ ⟨f4, fL⟩ (fun hHeld2 => ?_)
            clear hK9 K9
            refine wpAnyH_done (by kernel_rfl) ?_ _
            go_wp2
            obtain ⟨gs2, cs2, q1, q2, q3⟩ := HQ.out _ rfl
            exact ⟨⟨k + 1, _, gs2, cs2, by omega, by go_num, q1, q2, q3⟩, by simp [intOf]; omega⟩
          · go_simp
            refine hK9.out _ _ ⟨c4, cL⟩ (fun hHeld2 => ?_)
            clear hK9 K9
            refine wpAnyH_ready (rs := [1]) (by kernel_rfl) (by simp) ?_
            refine AllReadyH.cons rfl (fun K9 hK9 => ?_) AllReadyH.nil
            go_simp
            refine hK9.out _ _ ⟨c4, cL⟩ (fun hHeld2 => ?_)
            clear hK9 K9
            refine wpAnyH_ready (rs := [10]) (by kernel_rfl) (by simp) ?_
            refine AllReadyH.cons rfl (fun K9 hK9 => ?_) AllReadyH.nil
            refine step_app rfl _ _ 40 rfl _ _ _ _ rfl rfl e11 ?_
            simp only [Act.put, List.getElem_toArray, List.getElem_cons_zero, List.getElem_cons_succ, List.setIfInBounds_toArray, List.set_cons_zero, List.set_cons_succ]
            refine hK9.out _ _ ⟨d4, dL⟩ (fun hHeld2 => ?_)
            clear hK9 K9
            refine wpAnyH_take (i := 11) (v := ?_) rfl (by kernel_rfl) (by kernel_rfl) (by kernel_rfl) (fun _ _ _ h => h) (Or.inl ⟨by rfl, ?_⟩) (by assumption) ?_
            rotate_left
            · intro w hSw
              try dsimp only at hSw
              go_simp
              all_goals with_reducible rfl
            simp only [Act.put, List.getElem_toArray, List.getElem_cons_zero, List.getElem_cons_succ, List.setIfInBounds_toArray, List.set_cons_zero, List.set_cons_succ]
            refine wpAnyH_ready (rs := [12]) (by kernel_rfl) (by simp) ?_
            refine AllReadyH.cons rfl (fun K9 hK9 => ?_) AllReadyH.nil
            go_simp
            refine hK9.out _ _ ⟨f4, fL⟩ (fun hHeld2 => ?_)
            clear hK9 K9
            refine wpAnyH_done (by kernel_rfl) ?_ _
            go_wp2
            obtain ⟨gs2, cs2, q1, q2, q3⟩ := HQ.out _ rfl
            exact ⟨⟨k + 1, _, gs2, cs2, by omega, by go_num, q1, q2, q3⟩, by simp [intOf]; omega⟩
    · obtain rfl : n = k := by omega
      obtain ⟨ao, gc, rfl, _⟩ := hG.pc
      obtain ⟨⟨v0, v1, v2, v3, v4⟩, _⟩ := five hY
      obtain ⟨⟨r0, r1, r2, r3, r4⟩, ⟨s0, s1, s2, s3, s4⟩⟩ := five hR
      have HZ := Hid.mk (And.intro hY (And.intro hG (And.intro kw hR)))
      clear hY hG hkr hR hX hb kw
      go_wp2
      obtain ⟨hY, hG, kw, hR⟩ := HZ.out
      have hb := HB.out
      have q5 := set5 (.int .i64 W) (.int .i64 H) (.int .i64 D) (.bool A) (.slice ao n gc) hR
      have hk3 := kw.step q5.2 (fun x hx => by simp at hx; right; omega)
      have hG5 := hG.keep q5.2 (fun x hx => by simp at hx; omega)
      refine bodyPost_ret (v := frv W H D A ao n gc) ?_ rfl ⟨ao, gc, gs, cs, rfl, ⟨⟨hG5.own.1, ?_⟩, fun i hi => ⟨(hG5.row i hi).1, ?_, (hG5.row i hi).2.2⟩, hG5.mon⟩, hk3⟩
      · exact results_cell_row rfl _ _ RB 42 _ (0, 0) _ rfl q5.1 Tryz.underlying42 rfl Tryz.info42
      · rcases hG5.own.2 with h | ⟨g, cap, cur, h1, h2, h3⟩
        · exact .inl h
        · exact .inr ⟨g, cap, cur, h1, by omega, h3⟩
      · have := (hG5.row i hi).2.1
        omega
end Go.Proofs.YthhegomjipbdbaaGreatDoor.Tl

namespace Go.Proofs.YthhegomjipbdbaaGreatDoor.Pc
open Go.RowKit

/-- How a frame's copy stands while samples of another are put in. -/
structure Pst (w4 : World) (B OB lg gc m : Nat) (W H D : Int) (A : Bool) (gs cs ln : Nat → Nat) (F G Hf : Nat → Nat → Nat) (wr : World) : Prop where
  gz : Tl.Gz B wr (.slice (some ⟨lg, 0, none⟩) m gc) m gs cs ln Hf
  ob : wr.heap[OB]? = some (.cells #[.int .i64 W, .int .i64 H, .int .i64 D, .bool A, .slice (some ⟨lg, 0, none⟩) m gc] 42 (0, 0))
  kp : Kept [] w4 wr
  mx : ∀ q i, Hf q i = F q i ∨ Hf q i = G q i
theorem Pst.keep {w4 wr wr' : World} {B OB lg gc m : Nat} {W H D : Int} {A : Bool} {gs cs ln : Nat → Nat} {F G Hf : Nat → Nat → Nat} (h : Pst w4 B OB lg gc m W H D A gs cs ln F G Hf wr) (hk : Kept [] wr wr') : Pst w4 B OB lg gc m W H D A gs cs ln F G Hf wr' :=
  ⟨h.gz.keep hk (by simp), hk.heap h.ob (by simp), h.kp.trans hk, h.mx⟩
theorem wr_ne {w : World} {g m b t : Nat} {f : Nat → Nat} {cs : Array Value} (h : Tl.Wr w g m f) (hb : w.heap[b]? = some (.cells cs t (0, 0))) (ht : t ≠ 93) : b ∉ [g] := by
  intro hm
  simp at hm
  subst hm
  obtain ⟨c2, h1, -⟩ := h
  rw [h1] at hb
  cases hb
  exact ht rfl
/-- The function with one sample of F. -/
def put1 (F Hf : Nat → Nat → Nat) (p T : Nat) : Nat → Nat → Nat := fun t => if t = p then (fun j => if j = T then F p T else Hf p j) else Hf t
theorem put1_stay {F Hf : Nat → Nat → Nat} {p T q i : Nat} (h : Hf q i = F q i) : put1 F Hf p T q i = F q i := by
  unfold put1
  by_cases e : q = p
  · subst e
    rw [if_pos rfl]
    by_cases e2 : i = T
    · subst e2; rw [if_pos rfl]
    · rw [if_neg e2]; exact h
  · rw [if_neg e]; exact h
theorem put1_here {F Hf : Nat → Nat → Nat} {p T : Nat} : put1 F Hf p T p T = F p T := by
  unfold put1
  rw [if_pos rfl, if_pos rfl]
theorem Pst.set {w4 wr : World} {B OB lg gc m : Nat} {W H D : Int} {A : Bool} {gs cs ln : Nat → Nat} {F G Hf : Nat → Nat → Nat} (h : Pst w4 B OB lg gc m W H D A gs cs ln F G Hf wr) {p T : Nat} (hp : p < m) (hB : w4.heap.size ≤ B) :
    Pst w4 B OB lg gc m W H D A gs cs ln F G (put1 F Hf p T) (wr.setCell ⟨gs p, T, none⟩ (.int .u16 (F p T : Int))).drew := by
  have kS : Kept [gs p] wr (wr.setCell ⟨gs p, T, none⟩ (.int .u16 (F p T : Int))).drew := ((Kept.refl [gs p] wr).setCell (p := ⟨gs p, T, none⟩) (.inl (by simp)) _).drew
  obtain ⟨r1, r2, r3⟩ := h.gz.row p hp
  refine ⟨(h.gz.setp (i := T) (v := F p T) hp).keep ((Kept.refl [] _).drew) (by simp), kS.heap h.ob (wr_ne r3 h.ob (by decide)), h.kp.step kS (fun x hx => by simp at hx; right; omega), fun q i => ?_⟩
  rcases h.mx q i with e | e
  · exact .inl (put1_stay e)
  · unfold put1
    by_cases e1 : q = p
    · subst e1
      rw [if_pos rfl]
      by_cases e2 : i = T
      · subst e2; rw [if_pos rfl]; exact .inl rfl
      · rw [if_neg e2]; exact .inr e
    · rw [if_neg e1]; exact .inr e
theorem gz_base {B B' : Nat} {w : World} {V : Value} {k : Nat} {gs cs ln : Nat → Nat} {F : Nat → Nat → Nat} (h : Tl.Gz B w V k gs cs ln F) (hB : B' ≤ B) : Tl.Gz B' w V k gs cs ln F := by
  refine ⟨⟨h.own.1, ?_⟩, fun i hi => ⟨(h.row i hi).1, Nat.le_trans hB (h.row i hi).2.1, (h.row i hi).2.2⟩, h.mon⟩
  rcases h.own.2 with h1 | ⟨g, cap, cur, h1, h2, h3⟩
  · exact .inl h1
  · exact .inr ⟨g, cap, cur, h1, Nat.le_trans hB h2, h3⟩
/-- A plane's samples of a rectangle are those of F. -/
def Dn (F Hf : Nat → Nat → Nat) (wd X bw : Nat → Nat) (Y ye q : Nat) : Prop := ∀ yy xx, Y ≤ yy → yy < ye → X q ≤ xx → xx < X q + bw q → Hf q (yy * wd q + xx) = F q (yy * wd q + xx)
def Dr (F Hf : Nat → Nat → Nat) (wd X : Nat → Nat) (yy xe q : Nat) : Prop := ∀ xx, X q ≤ xx → xx < xe → Hf q (yy * wd q + xx) = F q (yy * wd q + xx)
theorem Dn.put {F Hf : Nat → Nat → Nat} {wd X bw : Nat → Nat} {Y ye q p T : Nat} (h : Dn F Hf wd X bw Y ye q) : Dn F (put1 F Hf p T) wd X bw Y ye q := fun yy xx a b c d => put1_stay (h yy xx a b c d)
theorem Dr.put {F Hf : Nat → Nat → Nat} {wd X : Nat → Nat} {yy xe q T : Nat} (h : Dr F Hf wd X yy xe q) (hT : T = yy * wd q + xe) : Dr F (put1 F Hf q T) wd X yy (xe + 1) q := fun xx a b => by
  by_cases e : xx = xe
  · subst e; rw [← hT]; exact put1_here
  · exact put1_stay (h xx a (by omega))
theorem Dn.row {F Hf : Nat → Nat → Nat} {wd X bw : Nat → Nat} {Y ye q : Nat} (h : Dn F Hf wd X bw Y ye q) (hr : Dr F Hf wd X ye (X q + bw q) q) : Dn F Hf wd X bw Y (ye + 1) q := fun yy xx a b c d => by
  by_cases e : yy = ye
  · subst e; exact hr xx c d
  · exact h yy xx a (by omega) c d

set_option maxHeartbeats 16000000 in
set_option maxRecDepth 1000000 in
theorem tput_any (W H D : Int) (A : Bool) (po qo : Option Addr) (m d d2 : Nat) (ln : Nat → Nat) (F G : Nat → Nat → Nat) (x y a b : Int) (wd X bw : Nat → Nat) (Y bh hh : Nat) (w : World)
    (hP : Plc w po m ln G) (hQ : Plc w qo m ln F) (hm : 1 ≤ m ∧ m ≤ 4) (hg : ∀ q, q < m → X q + bw q ≤ wd q ∧ ln q = wd q * hh ∧ wd q ≤ 4096 ∧ 1 ≤ ln q) (hY : Y + bh ≤ hh) (hh4 : hh ≤ 4096)
    (hpart : ∀ q, q < m → ∀ u, Calls Tryz.prog 40 #[Tl.shv W H D A, .int .i64 (q : Int), Tl.rcv x y a b] u fun e w' => e = .returned (.tuple #[Tl.rcv (X q : Int) (Y : Int) (bw q : Int) (bh : Int), .int .i64 (wd q : Int)]) ∧ Kept [] u w') :
    Calls Tryz.prog 15 #[Tl.frv W H D A po m d, Tl.frv W H D A qo m d2, Tl.rcv x y a b] w fun e w' => ∃ lg gc gs cs Hf, e = .returned (Tl.frv W H D A (some ⟨lg, 0, none⟩) m gc) ∧ Tl.Gz w.heap.size w' (.slice (some ⟨lg, 0, none⟩) m gc) m gs cs ln Hf ∧ Hid ((∀ q i, Hf q i = F q i ∨ Hf q i = G q i) ∧ ∀ q, q < m → Dn F Hf wd X bw Y (Y + bh) q) ∧ Kept [] w w' := by
  obtain ⟨w1, e1⟩ : ∃ w1, w.alloc (.cells #[.int .i64 W, .int .i64 H, .int .i64 D, .bool A, .slice po m d] 42 (0, 0)) = w1 := ⟨_, rfl⟩
  obtain ⟨w2, e2⟩ : ∃ w2, w1.alloc (.cells #[.int .i64 W, .int .i64 H, .int .i64 D, .bool A, .slice qo m d2] 42 (0, 0)) = w2 := ⟨_, rfl⟩
  obtain ⟨w3, e3⟩ : ∃ w3, w2.alloc (.cells #[.int .i64 x, .int .i64 y, .int .i64 a, .int .i64 b] 54 (0, 0)) = w3 := ⟨_, rfl⟩
  obtain ⟨w4, e4⟩ : ∃ w4, w3.alloc (.cells #[.int .i64 0, .int .i64 0, .int .i64 0, .bool false, .slice none 0 0] 42 (0, 0)) = w4 := ⟨_, rfl⟩
  obtain ⟨B, eB⟩ : ∃ B, w.heap.size = B := ⟨_, rfl⟩
  have z1 : w1.heap.size = B + 1 := by rw [← e1, ← eB]; exact Array.size_push _
  have z2 : w2.heap.size = B + 1 + 1 := by rw [← e2, ← z1]; exact Array.size_push _
  have z3 : w3.heap.size = B + 1 + 1 + 1 := by rw [← e3, ← z2]; exact Array.size_push _
  have k1 : Kept [] w w1 := by rw [← e1]; exact (Kept.refl [] w).alloc _
  have k2 : Kept [] w1 w2 := by rw [← e2]; exact (Kept.refl [] w1).alloc _
  have k3 : Kept [] w2 w3 := by rw [← e3]; exact (Kept.refl [] w2).alloc _
  have k4 : Kept [] w3 w4 := by rw [← e4]; exact (Kept.refl [] w3).alloc _
  have HS := Hid.mk (((k2.trans k3).trans k4).heap (show w1.heap[B]? = some (.cells #[.int .i64 W, .int .i64 H, .int .i64 D, .bool A, .slice po m d] 42 (0, 0)) by rw [← e1, ← eB]; exact heap_alloc_new _ _) (by simp))
  have HC := Hid.mk ((k3.trans k4).heap (show w2.heap[B + 1]? = some (.cells #[.int .i64 W, .int .i64 H, .int .i64 D, .bool A, .slice qo m d2] 42 (0, 0)) by rw [← e2, ← z1]; exact heap_alloc_new _ _) (by simp))
  have HR := Hid.mk (k4.heap (show w3.heap[B + 1 + 1]? = some (.cells #[.int .i64 x, .int .i64 y, .int .i64 a, .int .i64 b] 54 (0, 0)) by rw [← e3, ← z2]; exact heap_alloc_new _ _) (by simp))
  have HO := Hid.mk (show w4.heap[B + 1 + 1 + 1]? = some (.cells #[.int .i64 0, .int .i64 0, .int .i64 0, .bool false, .slice none 0 0] 42 (0, 0)) by rw [← e4, ← z3]; exact heap_alloc_new _ _)
  have K4 := Hid.mk (((k1.trans k2).trans k3).trans k4)
  have hl9 : ∀ i, i < m → 1 ≤ ln i ∧ ln i ≤ 70368744175616 := fun i hi => by
    obtain ⟨_, h2, h3, h4⟩ := hg i hi
    have : wd i * hh ≤ 4096 * 4096 := Nat.mul_le_mul h3 hh4
    omega
  have CC := Hid.mk (Tl.copied_any W H D A po m d ln G w4 (hP.keep K4.out) (by omega) hl9)
  have HQ := Hid.mk (hQ.keep K4.out)
  have HPT := Hid.mk hpart
  have HG := Hid.mk hg
  have HM := Hid.mk (And.intro hm (And.intro hY hh4))
  have HZ4 : Hid (w4.heap.size = B + 1 + 1 + 1 + 1 ∧ w.heap.size = B) := Hid.mk ⟨by rw [← e4, ← z3]; exact Array.size_push _, eB⟩
  obtain ⟨s0, s1, s2, s3, s4⟩ := cel5 HS.out
  clear hP hQ hpart hg hm hY hh4 hl9 k1 k2 k3 k4
  go_enter Tryz.func15, Tryz.ntmps15
  go_wp2_with (fail)
  clear e1 e2 e3 e4 z1 z2 z3 eB
  refine CC.out.mono ?_
  rintro e w5 ⟨go, gc, gs, cs, rfl, hG, hk5⟩
  obtain ⟨lg, rfl⟩ : ∃ lg, go = some ⟨lg, 0, none⟩ := by
    rcases hG.own.2 with ⟨e, h0⟩ | ⟨g, cap, cur, e, -⟩
    · have := HM.out.1; omega
    · simp at e
      exact ⟨g, e.1⟩
  obtain ⟨w6, e6⟩ : ∃ w6, w5.alloc (.cells #[.int .i64 W, .int .i64 H, .int .i64 D, .bool A, .slice (some ⟨lg, 0, none⟩) m gc] 42 (0, 0)) = w6 := ⟨_, rfl⟩
  obtain ⟨OB, eOB⟩ : ∃ OB, w5.heap.size = OB := ⟨_, rfl⟩
  have k6 : Kept [] w5 w6 := by rw [← e6]; exact (Kept.refl [] w5).alloc _
  have P6 := Hid.mk (show Pst w4 w4.heap.size OB lg gc m W H D A gs cs ln F G G w6 from ⟨hG.keep k6 (by simp), by rw [← e6, ← eOB]; exact heap_alloc_new _ _, hk5.trans k6, fun q i => .inr rfl⟩)
  clear s0 s1 s2 s3 s4 hG hk5 k6 CC
  go_upto_region 2 with (fail)
  clear e6 eOB
  go_wp2
  go_loopw [8] (fun i wr => ∃ (k : Nat) (Hf : Nat → Nat → Nat), k ≤ m ∧ i = .int .i64 (k : Int) ∧ Hid (Pst w4 w4.heap.size OB lg gc m W H D A gs cs ln F G Hf wr ∧ ∀ q, q < k → Dn F Hf wd X bw Y (Y + bh) q)) (fun i _ => m - (intOf i).toNat)
  case atStart => exact ⟨0, G, Nat.zero_le _, rfl, Hid.mk ⟨P6.out, fun q h => absurd h (Nat.not_lt_zero _)⟩⟩
  case round =>
    obtain ⟨k, Hf, hk, rfl, HI⟩ := hrel
    obtain ⟨s0, s1, s2, s3, s4⟩ := cel5 (HI.out.1.kp.heap HS.out (by simp))
    by_cases hlt : k < m
    · have ik : (k : Int) < (m : Int) := by omega
      obtain ⟨r0, r1, r2, r3⟩ := cel4 (HI.out.1.kp.heap HR.out (by simp))
      have CP := Hid.mk (HPT.out k hlt)
      have GK := Hid.mk (HG.out k hlt)
      have HK := Hid.mk hlt
      obtain ⟨wk, ewk⟩ : ∃ z, wd k = z := ⟨_, rfl⟩
      obtain ⟨Xk, eXk⟩ : ∃ z, X k = z := ⟨_, rfl⟩
      obtain ⟨bk, ebk⟩ : ∃ z, bw k = z := ⟨_, rfl⟩
      rw [ewk, eXk, ebk] at CP GK
      have EK : Hid (wd k = wk ∧ X k = Xk ∧ bw k = bk) := Hid.mk ⟨ewk, eXk, ebk⟩
      clear ewk eXk ebk
      go_wp2_with (fail)
      refine (CP.out _).mono ?_
      rintro e w7 ⟨rfl, hk7⟩
      obtain ⟨w8, e8⟩ : ∃ w8, w7.alloc (.cells #[.int .i64 (Xk : Int), .int .i64 (Y : Int), .int .i64 (bk : Int), .int .i64 (bh : Int)] 54 (0, 0)) = w8 := ⟨_, rfl⟩
      obtain ⟨QB, eQB⟩ : ∃ QB, w7.heap.size = QB := ⟨_, rfl⟩
      have k8 : Kept [] w7 w8 := by rw [← e8]; exact (Kept.refl [] w7).alloc _
      have HQ8 := Hid.mk (show w8.heap[QB]? = some (.cells #[.int .i64 (Xk : Int), .int .i64 (Y : Int), .int .i64 (bk : Int), .int .i64 (bh : Int)] 54 (0, 0)) by rw [← e8, ← eQB]; exact heap_alloc_new _ _)
      have P8 := Hid.mk (HI.out.1.keep (hk7.trans k8))
      have D8 := Hid.mk HI.out.2
      obtain ⟨t0, t1, t2, t3⟩ := cel4 HQ8.out
      clear s0 s1 s2 s3 s4 r0 r1 r2 r3 hk7 k8 hlt ik
      go_upto_region 6 with (fail)
      clear e8 eQB
      go_wp2
      clear t0 t1 t2 t3
      obtain ⟨YE, eYE⟩ : ∃ z, Y + bh = z := ⟨_, rfl⟩
      have HYE : Hid (Y + bh = YE) := Hid.mk eYE
      have hYE : YE ≤ 4096 := by have := HM.out; omega
      have v1 : wrap64 ((Y : Int) + (bh : Int)) = (YE : Int) := by rw [Tl.w64_in (by omega) (by omega)]; omega
      have v2 : IntKind.i64.wrap ((Y : Int) + (bh : Int)) = (YE : Int) := by rw [Tl.wrap_i (by omega) (by omega)]; omega
      clear eYE
      go_loopw [11] (fun i wr => ∃ (yy : Nat) (Hf : Nat → Nat → Nat), i = .int .i64 (yy : Int) ∧ Hid (Y ≤ yy ∧ yy ≤ YE ∧ Pst w4 w4.heap.size OB lg gc m W H D A gs cs ln F G Hf wr ∧ wr.heap[QB]? = some (.cells #[.int .i64 (Xk : Int), .int .i64 (Y : Int), .int .i64 (bk : Int), .int .i64 (bh : Int)] 54 (0, 0)) ∧ (∀ q, q < k → Dn F Hf wd X bw Y (Y + bh) q) ∧ Dn F Hf wd X bw Y yy k)) (fun i _ => YE - (intOf i).toNat)
      case atStart => exact ⟨Y, Hf, rfl, Hid.mk ⟨Nat.le_refl _, by have := HYE.out; omega, P8.out, HQ8.out, D8.out, fun yy xx a b => absurd b (by omega)⟩⟩
      case round =>
        obtain ⟨yy, Hg, rfl, HJ⟩ := hrel
        obtain ⟨t0, t1, t2, t3⟩ := cel4 HJ.out.2.2.2.1
        by_cases hly : yy < YE
        · have iy : (yy : Int) < (YE : Int) := by omega
          have HLY := Hid.mk hly
          obtain ⟨XE, eXE⟩ : ∃ z, Xk + bk = z := ⟨_, rfl⟩
          have HXE : Hid (Xk + bk = XE) := Hid.mk eXE
          have hXE : XE ≤ 4096 := by have := GK.out; omega
          have u1 : wrap64 ((Xk : Int) + (bk : Int)) = (XE : Int) := by rw [Tl.w64_in (by omega) (by omega)]; omega
          have u2 : IntKind.i64.wrap ((Xk : Int) + (bk : Int)) = (XE : Int) := by rw [Tl.wrap_i (by omega) (by omega)]; omega
          clear eXE hly
          go_wp2
          clear t0 t1 t2 t3 iy
          go_loopw [12] (fun i wr => ∃ (xx : Nat) (Hf : Nat → Nat → Nat), i = .int .i64 (xx : Int) ∧ Hid (Xk ≤ xx ∧ xx ≤ XE ∧ Pst w4 w4.heap.size OB lg gc m W H D A gs cs ln F G Hf wr ∧ wr.heap[QB]? = some (.cells #[.int .i64 (Xk : Int), .int .i64 (Y : Int), .int .i64 (bk : Int), .int .i64 (bh : Int)] 54 (0, 0)) ∧ (∀ q, q < k → Dn F Hf wd X bw Y (Y + bh) q) ∧ Dn F Hf wd X bw Y yy k ∧ Dr F Hf wd X yy xx k)) (fun i _ => XE - (intOf i).toNat)
          case atStart => exact ⟨Xk, Hg, rfl, Hid.mk ⟨Nat.le_refl _, by have := HXE.out; omega, HJ.out.2.2.1, HJ.out.2.2.2.1, HJ.out.2.2.2.2.1, HJ.out.2.2.2.2.2, fun xx a b => absurd b (by have := EK.out.2.1; omega)⟩⟩
          case round =>
            obtain ⟨xx, Hh, rfl, HL⟩ := hrel
            obtain ⟨t0, t1, t2, t3⟩ := cel4 HL.out.2.2.2.1
            by_cases hlx : xx < XE
            · as_aux_lemma =>
                have ix : (xx : Int) < (XE : Int) := by omega
                have UU := Hid.mk (And.intro u1 u2)
                clear v1 v2 u1 u2
                have hgk := GK.out
                have hkm := HK.out
                have hyE := HLY.out
                have hp9 := HL.out.2.2.1
                obtain ⟨T1, eT1⟩ : ∃ z, yy * wk = z := ⟨_, rfl⟩
                obtain ⟨T, eT⟩ : ∃ z, T1 + xx = z := ⟨_, rfl⟩
                have hT1 : T1 + wk ≤ wk * hh := by
                  have h9 : (yy + 1) * wk ≤ hh * wk := Nat.mul_le_mul_right _ (by have := HM.out; have := HYE.out; omega)
                  rw [Nat.add_mul, Nat.one_mul, Nat.mul_comm hh] at h9
                  omega
                have hW9 : wk * hh ≤ 4096 * 4096 := Nat.mul_le_mul hgk.2.2.1 HM.out.2.2
                have hT : T < ln k := by have := HXE.out; omega
                have y1 : (yy : Int) * (wk : Int) = (T1 : Int) := by rw [← Int.natCast_mul, eT1]
                have y2 : (T1 : Int) + (xx : Int) = (T : Int) := by omega
                have b1 : T1 ≤ 9000000000000000000 := by omega
                have b2 : T ≤ 9000000000000000000 := by omega
                have EA : Hid (T = yy * wd k + xx) := Hid.mk (by rw [EK.out.1, eT1, eT])
                have ik : (k : Int) < (m : Int) := by omega
                have iT : (T : Int) < (ln k : Int) := by omega
                have XS := Hid.mk (And.intro (And.intro (w64n y1 b1) (win y1 b1)) (And.intro (w64n y2 b2) (win y2 b2)))
                clear y1 y2 b1 b2
                obtain ⟨gq, off, eqo, fb, fo, fc, c3, c4, c5⟩ : ∃ gq off, qo = some ⟨gq, off, none⟩ ∧ ∃ fb fo fc, wr.cell? ⟨gq, off + k, none⟩ = some (.slice (some ⟨fb, fo, none⟩) (ln k) fc) ∧ ln k ≤ fc ∧ wr.cell? ⟨fb, fo + T, none⟩ = some (.int .u16 (F k T : Int)) := by
                  obtain ⟨g9, o9, pb, pf, c9, a1, a2, a3, a4⟩ := (HQ.out.keep hp9.kp).at HK.out hgk.2.2.2
                  exact ⟨g9, o9, a1, pb, pf, c9, a2, a3, a4 T hT⟩
                obtain ⟨⟨y0, y1, y2, y3, y4⟩, -⟩ := Tl.five hp9.ob
                obtain ⟨⟨q0, q1, q2, q3, q4⟩, -⟩ := Tl.five (hp9.kp.heap HC.out (by simp))
                subst eqo
                have zl := hp9.gz.own.cells (g := lg) rfl k _ (Tl.fl_at _ m k HK.out)
                rw [show (⟨lg, 0, none⟩ : Addr).add k = ⟨lg, k, none⟩ by unfold Addr.add; split <;> simp_all] at zl
                have hrw := (hp9.gz.row k HK.out).2.2
                have hfz4 := hrw.fz T
                have zt := hrw.at hT
                have HN := Hid.mk (hp9.set (T := T) HK.out (Nat.le_refl _))
                have KD : Hid (Kept [gs k] wr (wr.setCell ⟨gs k, T, none⟩ (.int .u16 (F k T : Int))).drew) := Hid.mk (((Kept.refl [gs k] wr).setCell (p := ⟨gs k, T, none⟩) (.inl (by simp)) _).drew)
                have HB4 := (hp9.gz.row k HK.out).2.1
                have hfb : ∀ (g o : Nat) (v : Value), wr.cell? ⟨g, o, none⟩ = some v → g < w4.heap.size → (wr.setCell ⟨gs k, T, none⟩ (.int .u16 (F k T : Int))).drew.cell? ⟨g, o, none⟩ = some v := fun g o v h1 h2 => Tl.cell_keep KD.out h1 (by simp; omega)
                have hb1 : gq < w4.heap.size := by
                  obtain ⟨g9, o9, pb, pf, c9, a1, a2, a3, a4⟩ := HQ.out.at HK.out hgk.2.2.2
                  cases a1
                  exact World.block_lt_of_cell? w4 _ a2
                have hb2 : fb < w4.heap.size := by
                  obtain ⟨g9, o9, pb, pf, c9, a1, a2, a3, a4⟩ := HQ.out.at HK.out hgk.2.2.2
                  cases a1
                  have h9 := Tl.cell_keep hp9.kp a2 (by simp)
                  rw [c3] at h9
                  cases h9
                  exact World.block_lt_of_cell? w4 _ (a4 T hT)
                have N4 := Tl.cell_keep KD.out y4 (wr_ne hrw hp9.ob (by decide))
                have Nl := Tl.cell_keep KD.out zl (fun h => by simp at h; exact Tl.own_wr hp9.gz.own hrw (by simp [Value.ownBlock, h]))
                have Nq := hfb _ _ _ q4 (by have := HZ4.out; omega)
                have Nc := hfb _ _ _ c3 hb1
                have Nf := hfb _ _ _ c5 hb2
                obtain ⟨vt, evt⟩ : ∃ vt : Nat, Hh k T = vt := ⟨_, rfl⟩
                rw [evt] at zt
                have HQn := Hid.mk (KD.out.heap HL.out.2.2.2.1 (wr_ne hrw HL.out.2.2.2.1 (by decide)))
                obtain ⟨⟨x1, x2⟩, x3, x4⟩ := XS.out
                obtain ⟨u1, u2⟩ := UU.out
                clear evt hp9 hrw hfb hb1 hb2 HB4 hgk hkm hyE hT1 hW9 hT eT1 eT y0 y1 y2 y3 q0 q1 q2 q3 t1 t3
                go_wp2
                go_region_held_law (fun u => u.cell? ⟨OB, 4, none⟩ = some (.slice (some ⟨lg, 0, none⟩) m gc) ∧ u.cell? ⟨lg, k, none⟩ = some (Tl.slv (gs k) (ln k) (cs k)) ∧ u.cell? ⟨B + 1, 4, none⟩ = some (.slice (some ⟨gq, off, none⟩) m d2) ∧ u.cell? ⟨gq, off + k, none⟩ = some (.slice (some ⟨fb, fo, none⟩) (ln k) fc) ∧ u.cell? ⟨fb, fo + T, none⟩ = some (.int .u16 (F k T : Int))) (first | exact ⟨y4, zl, q4, c3, c5⟩ | exact ⟨N4, Nl, Nq, Nc, Nf⟩) (fail)
                all_goals clear x1 x2 x3 x4 u1 u2 c3 c4 c5 y4 q4 zl hfz4 zt N4 Nl Nq Nc Nf t0 t2 iT ik
                all_goals (try go_wp2)
                all_goals exact ⟨⟨xx + 1, put1 F Hh k T, by go_num, Hid.mk ⟨by have := HL.out; omega, by omega, HN.out, HQn.out, fun q h => (HL.out.2.2.2.2.1 q h).put, HL.out.2.2.2.2.2.1.put, HL.out.2.2.2.2.2.2.put EA.out⟩⟩, by simp [intOf]; omega⟩
            · as_aux_lemma =>
                have ix : ¬ (xx : Int) < (XE : Int) := by omega
                have ex : xx = XE := by have := HL.out.2.1; omega
                have HXX := Hid.mk ex
                have HLY2 := HLY.out
                clear ex hlx
                go_wp2
                exact ⟨⟨yy + 1, Hh, by go_num, Hid.mk ⟨by have := HJ.out.1; omega, by have := HLY.out; omega, HL.out.2.2.1, HL.out.2.2.2.1, HL.out.2.2.2.2.1, HL.out.2.2.2.2.2.1.row (by have h9 := HL.out.2.2.2.2.2.2; rw [HXX.out, ← HXE.out] at h9; rw [EK.out.2.1, EK.out.2.2]; exact h9)⟩⟩, by simp [intOf]; omega⟩
        · as_aux_lemma =>
            have iy : ¬ (yy : Int) < (YE : Int) := by omega
            have HYY : Hid (yy = YE) := Hid.mk (by have := HJ.out.2.1; omega)
            have hkm := HK.out
            have hm4 := HM.out.1.2
            have hk1 := Hid.mk (w64n (x := (k : Int) + 1) (z := k + 1) (by clear v1 v2; omega) (by clear v1 v2; omega))
            clear hly hkm hm4
            go_wp2
            clear v1 v2
            rw [hk1.out]
            have hkm := HK.out
            have hm4 := HM.out.1.2
            exact ⟨⟨k + 1, Hg, by omega, rfl, Hid.mk ⟨HJ.out.2.2.1, fun q h => by
              by_cases e : q = k
              · subst e
                have h9 := HJ.out.2.2.2.2.2
                rw [HYY.out, ← HYE.out] at h9
                exact h9
              · exact HJ.out.2.2.2.2.1 q (by omega)⟩⟩, by simp [intOf]; omega⟩
    · as_aux_lemma =>
        obtain rfl : m = k := by omega
        have hR := HI.out.1.kp.heap HO.out (by simp)
        obtain ⟨⟨r0, r1, r2, r3, r4⟩, f0, f1, f2, f3, f4⟩ := Tl.five hR
        obtain ⟨⟨y0, y1, y2, y3, y4⟩, -⟩ := Tl.five HI.out.1.ob
        have q5 := Hid.mk (Tl.set5 (.int .i64 W) (.int .i64 H) (.int .i64 D) (.bool A) (.slice (some ⟨lg, 0, none⟩) m gc) hR)
        clear hR
        go_wp2
        have q5 := q5.out
        have hz := HZ4.out
        have hG5 := HI.out.1.gz.keep q5.2 (fun x hx => by simp at hx; omega)
        refine bodyPost_ret (v := Tl.frv W H D A (some ⟨lg, 0, none⟩) m gc) ?_ rfl ⟨lg, gc, gs, cs, Hf, rfl, gz_base hG5 (by omega), Hid.mk ⟨HI.out.1.mx, HI.out.2⟩, (K4.out.trans HI.out.1.kp).step q5.2 (fun x hx => by simp at hx; right; omega)⟩
        exact results_cell_row rfl _ _ (B + 1 + 1 + 1) 42 _ (0, 0) _ rfl q5.1 Tryz.underlying42 rfl Tl.Tryz.info42
end Go.Proofs.YthhegomjipbdbaaGreatDoor.Pc
