import Derived.Test.YtplpjpijmnglfaaA3
namespace Go.Proofs.Ytplpjpijmnglfaa
open Go.RowKit

/-- A thing in memory: what holds of it, and the blocks that it lies in. -/
structure Rsc where
  P : World → Prop
  F : List Nat
  lt : ∀ {w : World} {x : Nat}, P w → x ∈ F → x < w.heap.size
  keep : ∀ {w w' : World} {ks : List Nat}, P w → Kept ks w w' → (∀ x ∈ F, x ∉ ks) → P w'
theorem mem_own {V : Value} {x : Nat} : x ∈ V.ownBlock.toList ↔ V.ownBlock = some x := by simp
theorem ownsRow_lt {w : World} {e : TypeId} {v : Value} {n x : Nat} {xs : List Value} (h : w.ownsRow 0 e 1 v n xs) (hx : v.ownBlock = some x) : x < w.heap.size := (h.lt x hx).2
theorem row_form {w : World} {base : Nat} {e : TypeId} {size : Nat} {v : Value} {n : Nat} {xs : List Value} (h : w.ownsRow base e size v n xs) : ∃ ao cap, v = .slice ao n cap := by
  rcases h.2 with ⟨rfl, rfl⟩ | ⟨g, cap, cur, rfl, _⟩
  · exact ⟨_, _, rfl⟩
  · exact ⟨_, _, rfl⟩

/-- A function changed at one place. -/
def updI {ι α : Type} [DecidableEq ι] (f : ι → α) (i : ι) (a : α) : ι → α := fun j => if j = i then a else f j
theorem updI_at {ι α : Type} [DecidableEq ι] (f : ι → α) (i : ι) (a : α) : updI f i a i = a := by simp [updI]
theorem updI_far {ι α : Type} [DecidableEq ι] (f : ι → α) (i : ι) (a : α) (j : ι) (h : j ≠ i) : updI f i a j = f j := by simp [updI, h]

/-- Things that lie apart, each under a name, in memory that is new to W. -/
structure SepI (W w : World) (D : Nat × Nat → Prop) (R : Nat × Nat → Rsc) : Prop where
  old : Kept [] W w
  P : ∀ i, D i → (R i).P w
  new : ∀ i, D i → ∀ x ∈ (R i).F, W.heap.size ≤ x
  apart : ∀ i j, D i → D j → i ≠ j → ∀ x ∈ (R i).F, x ∉ (R j).F

section
variable {W w w' : World} {D : Nat × Nat → Prop} {R : Nat × Nat → Rsc}

theorem SepI.keep (h : SepI W w D R) (hk : Kept [] w w') : SepI W w' D R :=
  ⟨h.old.trans hk, fun i hi => (R i).keep (h.P i hi) hk (by simp), h.new, h.apart⟩

theorem SepI.step {ks : List Nat} {r : Rsc} (h : SepI W w D R) (i : Nat × Nat) (hi : D i) (hk : Kept ks w w') (hks : ∀ x ∈ ks, x ∈ (R i).F ∨ w.heap.size ≤ x) (hr : r.P w')
    (hF : ∀ x ∈ r.F, x ∈ (R i).F ∨ w.heap.size ≤ x) : SepI W w' D (updI R i r) := by
  have hs := h.old.size
  have hn : ∀ x, (x ∈ (R i).F ∨ w.heap.size ≤ x) → W.heap.size ≤ x := fun x hx => by
    rcases hx with hx | hx
    · exact h.new i hi x hx
    · omega
  have hfar : ∀ j, D j → j ≠ i → ∀ x ∈ (R j).F, ¬ (x ∈ (R i).F ∨ w.heap.size ≤ x) := fun j hj hji x hx hx2 => by
    rcases hx2 with hx2 | hx2
    · exact h.apart j i hj hi hji x hx hx2
    · have := (R j).lt (h.P j hj) hx; omega
  refine ⟨h.old.step hk (fun x hx => .inr (hn x (hks x hx))), fun j hj => ?_, fun j hj x hx => ?_, fun j k hj hk' hjk x hx hx2 => ?_⟩
  · by_cases e : j = i
    · subst e; rw [updI_at]; exact hr
    · rw [updI_far _ _ _ _ e]
      exact (R j).keep (h.P j hj) hk (fun x hx hx2 => hfar j hj e x hx (hks x hx2))
  · by_cases e : j = i
    · subst e; rw [updI_at] at hx; exact hn x (hF x hx)
    · rw [updI_far _ _ _ _ e] at hx; exact h.new j hj x hx
  · by_cases e : j = i
    · subst e
      rw [updI_at] at hx
      rw [updI_far _ _ _ _ (Ne.symm hjk)] at hx2
      exact hfar k hk' (Ne.symm hjk) x hx2 (hF x hx)
    · rw [updI_far _ _ _ _ e] at hx
      by_cases e2 : k = i
      · subst e2
        rw [updI_at] at hx2
        exact hfar j hj e x hx (hF x hx2)
      · rw [updI_far _ _ _ _ e2] at hx2
        exact h.apart j k hj hk' hjk x hx hx2

/-- Two are changed at once; the second stays where it lies. -/
theorem SepI.step2 {ks : List Nat} {r q : Rsc} (h : SepI W w D R) (i j : Nat × Nat) (hi : D i) (hj : D j) (hk : Kept ks w w') (hks : ∀ x ∈ ks, x ∈ (R i).F ∨ x ∈ (R j).F ∨ w.heap.size ≤ x) (hr : r.P w')
    (hF : ∀ x ∈ r.F, x ∈ (R i).F ∨ w.heap.size ≤ x) (hq : q.P w') (hG : q.F = (R j).F) : SepI W w' D (updI (updI R i r) j q) := by
  have hs := h.old.size
  have val : ∀ k, (k = j ∧ updI (updI R i r) j q k = q) ∨ (k = i ∧ k ≠ j ∧ updI (updI R i r) j q k = r) ∨ (k ≠ i ∧ k ≠ j ∧ updI (updI R i r) j q k = R k) := fun k => by
    by_cases e : k = j
    · exact .inl ⟨e, by rw [e, updI_at]⟩
    · by_cases e2 : k = i
      · exact .inr (.inl ⟨e2, e, by rw [updI_far _ _ _ _ e, e2, updI_at]⟩)
      · exact .inr (.inr ⟨e2, e, by rw [updI_far _ _ _ _ e, updI_far _ _ _ _ e2]⟩)
  have sub : ∀ k, D k → ∀ x ∈ (updI (updI R i r) j q k).F, x ∈ (R k).F ∨ (k = i ∧ w.heap.size ≤ x) := fun k _ x hx => by
    rcases val k with ⟨e, v⟩ | ⟨e, _, v⟩ | ⟨_, _, v⟩ <;> rw [v] at hx
    · rw [hG] at hx; rw [e]; exact .inl hx
    · rw [e]
      rcases hF x hx with h1 | h1
      · exact .inl h1
      · exact .inr ⟨rfl, h1⟩
    · exact .inl hx
  refine ⟨h.old.step hk (fun x hx => .inr ?_), fun k hk' => ?_, fun k hk' x hx => ?_, fun a b ha hb hab x hx hx2 => ?_⟩
  · rcases hks x hx with h1 | h1 | h1
    · exact h.new i hi x h1
    · exact h.new j hj x h1
    · omega
  · rcases val k with ⟨_, v⟩ | ⟨_, _, v⟩ | ⟨e1, e2, v⟩ <;> rw [v]
    · exact hq
    · exact hr
    · refine (R k).keep (h.P k hk') hk (fun x hx hx2 => ?_)
      rcases hks x hx2 with h1 | h1 | h1
      · exact h.apart k i hk' hi e1 x hx h1
      · exact h.apart k j hk' hj e2 x hx h1
      · have := (R k).lt (h.P k hk') hx; omega
  · rcases sub k hk' x hx with h1 | ⟨_, h1⟩
    · exact h.new k hk' x h1
    · omega
  · rcases sub a ha x hx with h1 | ⟨e1, h1⟩
    · rcases sub b hb x hx2 with h2 | ⟨_, h2⟩
      · exact h.apart a b ha hb hab x h1 h2
      · have := (R a).lt (h.P a ha) h1; omega
    · rcases sub b hb x hx2 with h2 | ⟨e2, h2⟩
      · have := (R b).lt (h.P b hb) h2; omega
      · exact hab (e1.trans e2.symm)

/-- One more, in new memory. -/
theorem SepI.push {r : Rsc} (h : SepI W w D R) (i : Nat × Nat) (hi : ¬ D i) (hk : Kept [] w w') (hr : r.P w') (hF : ∀ x ∈ r.F, w.heap.size ≤ x) : SepI W w' (fun j => D j ∨ j = i) (updI R i r) := by
  have hs := h.old.size
  have h' := h.keep hk
  have far : ∀ j, D j → j ≠ i := fun j hj e => hi (e ▸ hj)
  refine ⟨h'.old, fun j hj => ?_, fun j hj x hx => ?_, fun j k hj hk' hjk x hx hx2 => ?_⟩
  · rcases hj with hj | rfl
    · rw [updI_far _ _ _ _ (far j hj)]; exact h'.P j hj
    · rw [updI_at]; exact hr
  · rcases hj with hj | rfl
    · rw [updI_far _ _ _ _ (far j hj)] at hx; exact h.new j hj x hx
    · rw [updI_at] at hx; have := hF x hx; omega
  · rcases hj with hj | rfl
    · rw [updI_far _ _ _ _ (far j hj)] at hx
      rcases hk' with hk' | rfl
      · rw [updI_far _ _ _ _ (far k hk')] at hx2
        exact h.apart j k hj hk' hjk x hx hx2
      · rw [updI_at] at hx2
        have := hF x hx2
        have := (R j).lt (h.P j hj) hx
        omega
    · rw [updI_at] at hx
      rcases hk' with hk' | rfl
      · rw [updI_far _ _ _ _ (far k hk')] at hx2
        have := hF x hx
        have := (R k).lt (h.P k hk') hx2
        omega
      · exact absurd rfl hjk

theorem SepI.congr {D' : Nat × Nat → Prop} {R' : Nat × Nat → Rsc} (h : SepI W w D R) (hD : ∀ i, D' i → D i) (he : ∀ i, D' i → R' i = R i) : SepI W w D' R' :=
  ⟨h.old, fun i hi => by rw [he i hi]; exact h.P i (hD i hi), fun i hi => by rw [he i hi]; exact h.new i (hD i hi), fun i j hi hj => by rw [he i hi, he j hj]; exact h.apart i j (hD i hi) (hD j hj)⟩
end

/-- A block that is known whole. -/
def obj (O : Nat) (o : Obj) : Rsc where
  P := fun w => w.heap[O]? = some o
  F := [O]
  lt := fun {w x} h hx => by simp at hx; subst hx; exact (Array.getElem?_eq_some_iff.1 h).1
  keep := fun {w w' ks} h hk hF => hk.heap h (hF _ (by simp))


def upd2 {α : Type} (f : Nat → Nat → α) (k i : Nat) (a : α) : Nat → Nat → α := fun k' i' => if k' = k ∧ i' = i then a else f k' i'
theorem upd2_at {α : Type} (f : Nat → Nat → α) (k i : Nat) (a : α) : upd2 f k i a k i = a := by simp [upd2]
theorem upd2_far {α : Type} (f : Nat → Nat → α) (k i : Nat) (a : α) (k' i' : Nat) (h : ¬ (k' = k ∧ i' = i)) : upd2 f k i a k' i' = f k' i' := by simp [upd2, h]

/-- The values of a row. -/
def vals (V : Nat → Value) (n : Nat) : List Value := (List.range n).map V
theorem vals_length (V : Nat → Value) (n : Nat) : (vals V n).length = n := by simp [vals]
theorem vals_at (V : Nat → Value) (n i : Nat) (h : i < n) : (vals V n)[i]? = some (V i) := by simp [vals, h]
theorem vals_congr {V V' : Nat → Value} {n : Nat} (h : ∀ i, i < n → V i = V' i) : vals V n = vals V' n := by
  unfold vals
  apply List.map_congr_left
  intro i hi
  exact h i (List.mem_range.1 hi)
theorem vals_snoc (V : Nat → Nat → Value) (k n : Nat) (v : Value) : vals (V k) n ++ [v] = vals (upd2 V k n v k) (n + 1) := by
  unfold vals
  rw [List.range_succ, List.map_append, List.map_singleton, upd2_at]
  congr 1
  apply List.map_congr_left
  intro j hj
  have := List.mem_range.1 hj
  rw [upd2_far _ _ _ _ _ _ (by omega)]
theorem vals_set (V : Nat → Nat → Value) (k n i : Nat) (v : Value) (hi : i < n) : (vals (V k) n).set i v = vals (upd2 V k i v k) n := by
  apply List.ext_getElem?
  intro j
  rw [List.getElem?_set]
  by_cases e : i = j
  · subst e
    simp [vals, hi, upd2]
  · rw [if_neg e]
    by_cases hj : j < n
    · rw [vals_at _ _ _ hj, vals_at _ _ _ hj, upd2_far _ _ _ _ _ _ (by omega)]
    · simp [vals, hj]
/-- A row of values of its own. -/
def vrw (e : TypeId) (S : Value) (n : Nat) (V : Nat → Value) : Rsc where
  P := fun w => w.ownsRow 0 e 1 S n (vals V n)
  F := S.ownBlock.toList
  lt := fun h hx => ownsRow_lt h (mem_own.1 hx)
  keep := fun h hk hF => hk.row h (fun _ hg => hF _ (mem_own.2 hg))
theorem vrw_congr {e : TypeId} {S : Value} {n : Nat} {V V' : Nat → Value} (h : ∀ i, i < n → V i = V' i) : vrw e S n V = vrw e S n V' := by
  unfold vrw
  simp only [vals_congr h]

/-- What stands in a World, by kind (0: arenas, 1: the document's, 2: marks, 3: lists of bytes, 4: lists of samples). -/
structure Wo where
  c : Nat → Nat
  r : Nat → Nat
  V : Nat → Nat → Value
  X : Nat → Nat → Rsc
  S : Nat → Value
/-- The element types of the five rows. -/
def ety (k : Nat) : TypeId := [37, 55, 53, 45, 41].getD k 0
def Wo.D (s : Wo) (i : Nat × Nat) : Prop := (i.1 < 5 ∧ i.2 < s.c i.1) ∨ (i.1 = 5 ∧ i.2 < 5) ∨ (i.1 = 6 ∧ i.2 = 0)
def Wo.R (s : Wo) (A : Nat) (i : Nat × Nat) : Rsc :=
  if i.1 < 5 then s.X i.1 i.2 else if i.1 = 5 then vrw (ety i.2) (s.S i.2) (s.r i.2) (s.V i.2) else obj A (.cells #[s.S 0, s.S 1, s.S 2, s.S 3, s.S 4] 31 (0, 0))
/-- The World at block A. -/
def At (W w : World) (A : Nat) (s : Wo) : Prop := SepI W w s.D (s.R A)

section
variable {W w w' : World} {A : Nat} {s : Wo}
theorem Wo.R_thing (s : Wo) (A k i : Nat) (hk : k < 5) : s.R A (k, i) = s.X k i := if_pos hk
theorem Wo.R_row (s : Wo) (A k : Nat) : s.R A (5, k) = vrw (ety k) (s.S k) (s.r k) (s.V k) := rfl
theorem Wo.R_box (s : Wo) (A : Nat) : s.R A (6, 0) = obj A (.cells #[s.S 0, s.S 1, s.S 2, s.S 3, s.S 4] 31 (0, 0)) := rfl
theorem Wo.D_thing (s : Wo) (k i : Nat) (hk : k < 5) (hi : i < s.c k) : s.D (k, i) := .inl ⟨hk, hi⟩
theorem Wo.D_row (s : Wo) (k : Nat) (hk : k < 5) : s.D (5, k) := .inr (.inl ⟨rfl, hk⟩)
theorem Wo.D_box (s : Wo) : s.D (6, 0) := .inr (.inr ⟨rfl, rfl⟩)
theorem At.keep (h : At W w A s) (hk : Kept [] w w') : At W w' A s := SepI.keep h hk
theorem At.drewN (h : At W w A s) (n : Nat) : At W (w.drewN n) A s := h.keep ((Kept.refl [] w).drewN n)
theorem At.box (h : At W w A s) : w.heap[A]? = some (.cells #[s.S 0, s.S 1, s.S 2, s.S 3, s.S 4] 31 (0, 0)) := h.P (6, 0) s.D_box
theorem At.row (h : At W w A s) (k : Nat) (hk : k < 5) : w.ownsRow 0 (ety k) 1 (s.S k) (s.r k) (vals (s.V k) (s.r k)) := h.P (5, k) (s.D_row k hk)
theorem At.thing (h : At W w A s) (k i : Nat) (hk : k < 5) (hi : i < s.c k) : (s.X k i).P w := by
  have := h.P (k, i) (s.D_thing k i hk hi)
  rw [s.R_thing A k i hk] at this
  exact this
theorem At.cells (h : At W w A s) : (∀ k, k < 5 → w.cell? ⟨A, k, none⟩ = some (s.S k)) ∧ ∀ k, w.frozen? ⟨A, k, none⟩ = false := by
  have hb := h.box
  refine ⟨fun k hk => ?_, fun k => by simp [World.frozen?, hb]⟩
  rcases (by omega : k = 0 ∨ k = 1 ∨ k = 2 ∨ k = 3 ∨ k = 4) with rfl | rfl | rfl | rfl | rfl <;> simp [World.cell?, hb]
/-- The value at a place of a row. -/
theorem At.val (h : At W w A s) (k i : Nat) (hk : k < 5) (hi : i < s.r k) : ∃ G cp, s.S k = .slice (some ⟨G, 0, none⟩) (s.r k) cp ∧ w.cell? ⟨G, i, none⟩ = some (s.V k i) ∧ w.frozen? ⟨G, i, none⟩ = false := by
  have hr := h.row k hk
  rcases hr.2 with ⟨_, h0⟩ | ⟨G, cp, cur, hv, _⟩
  · omega
  · refine ⟨G, cp, hv, ?_, ?_⟩
    · rw [hv] at hr
      rw [hr.cellAt i (by omega), vals_at _ _ _ hi]
    · rw [hv] at hr
      exact hr.frozenAt i
theorem At.form (h : At W w A s) (k : Nat) (hk : k < 5) : ∃ ao cp, s.S k = .slice ao (s.r k) cp := row_form (h.row k hk)
theorem Wo.R_ne (s s' : Wo) (A : Nat) (j : Nat × Nat) (hD : s.D j) (h1 : ∀ k i, j = (k, i) → k < 5 → s'.X k i = s.X k i) (h2 : ∀ k, j = (5, k) → vrw (ety k) (s'.S k) (s'.r k) (s'.V k) = vrw (ety k) (s.S k) (s.r k) (s.V k)) (h3 : j = (6, 0) → s'.S = s.S) : s'.R A j = s.R A j := by
  obtain ⟨a, b⟩ := j
  rcases hD with ⟨e1, e2⟩ | ⟨e1, e2⟩ | ⟨e1, e2⟩
  · have e1' : a < 5 := e1
    rw [s.R_thing A a b e1', s'.R_thing A a b e1', h1 a b rfl e1']
  · simp at e1; subst e1
    rw [s.R_row, s'.R_row, h2 b rfl]
  · simp at e1 e2; subst e1; subst e2
    rw [s.R_box, s'.R_box, h3 rfl]

/-- One more that lies there already. -/
theorem SepI.push2 {W w : World} {D : Nat × Nat → Prop} {R : Nat × Nat → Rsc} {r : Rsc} (h : SepI W w D R) (i : Nat × Nat) (hi : ¬ D i) (hr : r.P w) (hF : ∀ x ∈ r.F, W.heap.size ≤ x) (ha : ∀ j, D j → ∀ x ∈ r.F, x ∉ (R j).F) : SepI W w (fun j => D j ∨ j = i) (updI R i r) := by
  have far : ∀ j, D j → j ≠ i := fun j hj e => hi (e ▸ hj)
  refine ⟨h.old, fun j hj => ?_, fun j hj x hx => ?_, fun j k hj hk' hjk x hx hx2 => ?_⟩
  · rcases hj with hj | rfl
    · rw [updI_far _ _ _ _ (far j hj)]; exact h.P j hj
    · rw [updI_at]; exact hr
  · rcases hj with hj | rfl
    · rw [updI_far _ _ _ _ (far j hj)] at hx; exact h.new j hj x hx
    · rw [updI_at] at hx; exact hF x hx
  · rcases hj with hj | rfl
    · rw [updI_far _ _ _ _ (far j hj)] at hx
      rcases hk' with hk' | rfl
      · rw [updI_far _ _ _ _ (far k hk')] at hx2
        exact h.apart j k hj hk' hjk x hx hx2
      · rw [updI_at] at hx2
        exact ha j hj x hx2 hx
    · rw [updI_at] at hx
      rcases hk' with hk' | rfl
      · rw [updI_far _ _ _ _ (far k hk')] at hx2
        exact ha k hk' x hx hx2
      · exact absurd rfl hjk
/-- What lies beyond what there was is apart from all. -/
theorem At.lt (h : At W w A s) (j : Nat × Nat) (hj : s.D j) : ∀ x ∈ (s.R A j).F, x < w.heap.size := fun _ hx => (s.R A j).lt (h.P j hj) hx

/-- One thing is changed. -/
def Wo.one (s : Wo) (k i : Nat) (r : Rsc) : Wo := { s with X := upd2 s.X k i r }
theorem At.one {ks : List Nat} (h : At W w A s) (k i : Nat) (hk5 : k < 5) (hi : i < s.c k) (r : Rsc) (hk : Kept ks w w') (hks : ∀ x ∈ ks, x ∈ (s.X k i).F ∨ w.heap.size ≤ x) (hr : r.P w') (hF : ∀ x ∈ r.F, x ∈ (s.X k i).F ∨ w.heap.size ≤ x) : At W w' A (s.one k i r) := by
  have e := s.R_thing A k i hk5
  refine (SepI.step (r := r) h (k, i) (s.D_thing k i hk5 hi) hk (by rw [e]; exact hks) hr (by rw [e]; exact hF)).congr (fun j hj => hj) (fun j hj => ?_)
  by_cases ej : j = (k, i)
  · subst ej
    rw [updI_at, (s.one k i r).R_thing A k i hk5]
    exact upd2_at _ _ _ _
  · rw [updI_far _ _ _ _ ej]
    exact s.R_ne (s.one k i r) A j hj (fun k' i' e1 _ => upd2_far _ _ _ _ _ _ (fun ⟨e2, e3⟩ => ej (by rw [e1, e2, e3]))) (fun _ _ => rfl) (fun _ => rfl)

theorem Wo.one_F (s : Wo) (A k i : Nat) (r : Rsc) (hk5 : k < 5) (hr : r.F = (s.X k i).F) (j : Nat × Nat) (hj : s.D j) : ((s.one k i r).R A j).F = (s.R A j).F := by
  by_cases ej : j = (k, i)
  · subst ej
    rw [(s.one k i r).R_thing A k i hk5, s.R_thing A k i hk5, ← hr]
    show (upd2 s.X k i r k i).F = r.F
    rw [upd2_at]
  · rw [s.R_ne (s.one k i r) A j hj (fun k' i' e1 _ => upd2_far _ _ _ _ _ _ (fun ⟨e2, e3⟩ => ej (by rw [e1, e2, e3]))) (fun _ _ => rfl) (fun _ => rfl)]

/-- A value of a row is changed. -/
def Wo.setv (s : Wo) (k i : Nat) (v : Value) : Wo := { s with V := upd2 s.V k i v }
theorem At.setv (h : At W w A s) (k i : Nat) (hk5 : k < 5) (hi : i < s.r k) (v : Value) (G cp : Nat) (hS : s.S k = .slice (some ⟨G, 0, none⟩) (s.r k) cp) : At W (w.setCell ⟨G, i, none⟩ v) A (s.setv k i v) := by
  have hr := h.row k hk5
  rw [hS] at hr
  obtain ⟨h1, h2⟩ := hr.stored i v
  have e := s.R_row A k
  have eF : (s.R A (5, k)).F = [G] := by rw [e]; show (s.S k).ownBlock.toList = [G]; rw [hS]; rfl
  have hP : ((s.setv k i v).R A (5, k)).P (w.setCell ⟨G, i, none⟩ v) := by
    show (w.setCell ⟨G, i, none⟩ v).ownsRow 0 (ety k) 1 (s.S k) (s.r k) (vals (upd2 s.V k i v k) (s.r k))
    rw [hS, ← vals_set _ _ _ _ _ hi]
    exact h1
  refine (SepI.step (ks := [G]) (r := (s.setv k i v).R A (5, k)) h (5, k) (s.D_row k hk5) ((Kept.refl _ _).setCell (p := ⟨G, i, none⟩) (.inl (by simp)) _) (by rw [eF]; exact fun x hx => .inl hx) hP (fun x hx => .inl hx)).congr (fun j hj => hj) (fun j hj => ?_)
  by_cases ej : j = (5, k)
  · subst ej
    rw [updI_at]
  · rw [updI_far _ _ _ _ ej]
    refine s.R_ne (s.setv k i v) A j hj (fun _ _ _ _ => rfl) (fun k' e1 => ?_) (fun _ => rfl)
    have hne : k' ≠ k := fun e2 => ej (by rw [e1, e2])
    exact vrw_congr (fun i' _ => upd2_far _ _ _ _ _ _ (fun ⟨e2, _⟩ => hne e2))

/-- A thing more. -/
def Wo.push (s : Wo) (k : Nat) (x : Rsc) : Wo := { s with c := fun j => if j = k then s.c k + 1 else s.c j, X := upd2 s.X k (s.c k) x }
theorem Wo.push_D (s : Wo) (k : Nat) (x : Rsc) (j : Nat × Nat) (hj : (s.push k x).D j) : s.D j ∨ j = (k, s.c k) := by
  rcases hj with ⟨h1, h2⟩ | h1 | h1
  · by_cases e : j.1 = k
    · simp only [Wo.push, e, if_true] at h2
      by_cases e2 : j.2 = s.c k
      · exact .inr (Prod.ext e e2)
      · exact .inl (.inl ⟨h1, by rw [e]; omega⟩)
    · simp only [Wo.push, e, if_false] at h2
      exact .inl (.inl ⟨h1, h2⟩)
  · exact .inl (.inr (.inl h1))
  · exact .inl (.inr (.inr h1))
theorem Wo.push_R (s : Wo) (A k : Nat) (hk5 : k < 5) (x : Rsc) (j : Nat × Nat) (hj : (s.push k x).D j) : (s.push k x).R A j = updI (s.R A) (k, s.c k) x j := by
  by_cases ak : j = (k, s.c k)
  · rw [ak, updI_at, (s.push k x).R_thing A k _ hk5]
    exact upd2_at _ _ _ _
  · rw [updI_far _ _ _ _ ak]
    rcases s.push_D k x j hj with hjD | e
    · exact s.R_ne (s.push k x) A j hjD (fun k' i' e1 _ => upd2_far _ _ _ _ _ _ (fun ⟨e2, e3⟩ => ak (by rw [e1, e2, e3]))) (fun _ _ => rfl) (fun _ => rfl)
    · exact absurd e ak
theorem Wo.not_D (s : Wo) (k : Nat) (hk5 : k < 5) : ¬ s.D (k, s.c k) := by
  rintro (⟨_, h⟩ | ⟨h, _⟩ | ⟨h, _⟩)
  · simp at h
  · simp at h; omega
  · simp at h; omega
theorem At.push (h : At W w A s) (k : Nat) (hk5 : k < 5) (x : Rsc) (hk : Kept [] w w') (hr : x.P w') (hF : ∀ y ∈ x.F, w.heap.size ≤ y) : At W w' A (s.push k x) :=
  (SepI.push (r := x) h (k, s.c k) (s.not_D k hk5) hk hr hF).congr (s.push_D k x) (s.push_R A k hk5 x)
theorem At.push2 (h : At W w A s) (k : Nat) (hk5 : k < 5) (x : Rsc) (hr : x.P w) (hF : ∀ y ∈ x.F, W.heap.size ≤ y) (ha : ∀ j, s.D j → ∀ y ∈ x.F, y ∉ (s.R A j).F) : At W w A (s.push k x) :=
  (SepI.push2 (r := x) h (k, s.c k) (s.not_D k hk5) hr hF ha).congr (s.push_D k x) (s.push_R A k hk5 x)

/-- A value is put behind a row, the row laid into the box. -/
def Wo.app (s : Wo) (k : Nat) (v : Value) (Sn : Value) : Wo :=
  { s with
    r := fun j => if j = k then s.r k + 1 else s.r j
    V := upd2 s.V k (s.r k) v
    S := fun j => if j = k then Sn else s.S j }
theorem At.app {w2 : World} (h : At W w A s) (k : Nat) (hk5 : k < 5) (v : Value) (Sn : Value)
    (hk2 : Kept (s.S k).ownBlock.toList w w2) (hL : Lies w (s.S k) Sn) (hrow : w2.ownsRow 0 (ety k) 1 Sn (s.r k + 1) (vals (s.V k) (s.r k) ++ [v])) :
    At W (w2.setCell ⟨A, k, none⟩ Sn) A (s.app k v Sn) := by
  have ne3 : ((6, 0) : Nat × Nat) ≠ (5, k) := fun e => by simp at e
  have eF : (s.R A (5, k)).F = (s.S k).ownBlock.toList := rfl
  have eS : (s.app k v Sn).S k = Sn := by simp [Wo.app]
  have ec : (s.app k v Sn).r k = s.r k + 1 := by simp [Wo.app]
  have hrw : ((s.app k v Sn).R A (5, k)).P w2 := by
    show w2.ownsRow 0 (ety k) 1 ((s.app k v Sn).S k) ((s.app k v Sn).r k) (vals (upd2 s.V k (s.r k) v k) ((s.app k v Sn).r k))
    rw [eS, ec, ← vals_snoc]
    exact hrow
  have eF2 : ((s.app k v Sn).R A (5, k)).F = Sn.ownBlock.toList := by show ((s.app k v Sn).S k).ownBlock.toList = _; rw [eS]
  have p2 := SepI.step (r := (s.app k v Sn).R A (5, k)) h (5, k) (s.D_row k hk5) hk2 (by rw [eF]; exact fun x hx => .inl hx) hrw (by rw [eF, eF2]; exact hL.mem)
  have e7 : (updI (s.R A) (5, k) ((s.app k v Sn).R A (5, k))) (6, 0) = s.R A (6, 0) := by rw [updI_far _ _ _ _ ne3]
  have hb := p2.P (6, 0) s.D_box
  rw [e7] at hb
  have hbox : ((s.app k v Sn).R A (6, 0)).P (w2.setCell ⟨A, k, none⟩ Sn) := by
    show (w2.setCell ⟨A, k, none⟩ Sn).heap[A]? = some (.cells #[(s.app k v Sn).S 0, (s.app k v Sn).S 1, (s.app k v Sn).S 2, (s.app k v Sn).S 3, (s.app k v Sn).S 4] 31 (0, 0))
    have hb2 : w2.heap[A]? = some (.cells #[s.S 0, s.S 1, s.S 2, s.S 3, s.S 4] 31 (0, 0)) := hb
    rw [heap_setCell_at hb2]
    rcases (by omega : k = 0 ∨ k = 1 ∨ k = 2 ∨ k = 3 ∨ k = 4) with rfl | rfl | rfl | rfl | rfl <;> simp [Wo.app]
  have p3 := SepI.step (ks := [A]) (r := (s.app k v Sn).R A (6, 0)) p2 (6, 0) s.D_box ((Kept.refl _ _).setCell (p := ⟨A, k, none⟩) (by simp) _) (by rw [e7]; exact fun x hx => .inl hx) hbox (by rw [e7]; exact fun x hx => .inl hx)
  refine p3.congr (fun j hj => hj) (fun j hj => ?_)
  by_cases a7 : j = (6, 0)
  · rw [a7, updI_at]
  · rw [updI_far _ _ _ _ a7]
    by_cases a6 : j = (5, k)
    · rw [a6, updI_at]
    · rw [updI_far _ _ _ _ a6]
      refine s.R_ne (s.app k v Sn) A j hj (fun k' i' e1 _ => rfl) (fun k' e1 => ?_) (fun e1 => absurd e1 a7)
      have hne : k' ≠ k := fun e2 => a6 (by rw [e1, e2])
      have q1 : (s.app k v Sn).S k' = s.S k' := by simp [Wo.app, hne]
      have q2 : (s.app k v Sn).r k' = s.r k' := by simp [Wo.app, hne]
      rw [q1, q2]
      exact vrw_congr (fun i' _ => upd2_far _ _ _ _ _ _ (fun ⟨e2, _⟩ => hne e2))
end
end Go.Proofs.Ytplpjpijmnglfaa
