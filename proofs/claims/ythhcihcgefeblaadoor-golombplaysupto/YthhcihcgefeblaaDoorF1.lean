import Derived.Test.YthhcihcgefeblaaDoorE6
namespace Go.Proofs.YthhcihcgefeblaaDoor
open Go.RowKit

/-- A function changed at one place. -/
def updI {ι α : Type} [DecidableEq ι] (f : ι → α) (i : ι) (a : α) : ι → α := fun j => if j = i then a else f j
theorem updI_at {ι α : Type} [DecidableEq ι] (f : ι → α) (i : ι) (a : α) : updI f i a i = a := by simp [updI]
theorem updI_far {ι α : Type} [DecidableEq ι] (f : ι → α) (i : ι) (a : α) (j : ι) (h : j ≠ i) : updI f i a j = f j := by simp [updI, h]

/-- Things that lie apart, each under a name, in memory that is new to W. -/
structure SepI (W w : World) (D : Nat × Nat → Prop) (R : Nat × Nat → Rsc) : Prop where
  old : Kept [] W w
  P : ∀ i, D i → (R i).P w
  new : ∀ i, D i → ∀ x ∈ (R i).F, W.heap.size ≤ x
  apart : ∀ i j, D i → D j → i ≠ j → ∀ x ∈ (R i).F, x ∉ (R j).F

section
variable {W w w' : World} {D : Nat × Nat → Prop} {R : Nat × Nat → Rsc}

theorem SepI.keep (h : SepI W w D R) (hk : Kept [] w w') : SepI W w' D R :=
  ⟨h.old.trans hk, fun i hi => (R i).keep (h.P i hi) hk (by simp), h.new, h.apart⟩

theorem SepI.step {ks : List Nat} {r : Rsc} (h : SepI W w D R) (i : Nat × Nat) (hi : D i) (hk : Kept ks w w') (hks : ∀ x ∈ ks, x ∈ (R i).F ∨ w.heap.size ≤ x) (hr : r.P w')
    (hF : ∀ x ∈ r.F, x ∈ (R i).F ∨ w.heap.size ≤ x) : SepI W w' D (updI R i r) := by
  have hs := h.old.size
  have hn : ∀ x, (x ∈ (R i).F ∨ w.heap.size ≤ x) → W.heap.size ≤ x := fun x hx => by
    rcases hx with hx | hx
    · exact h.new i hi x hx
    · omega
  have hfar : ∀ j, D j → j ≠ i → ∀ x ∈ (R j).F, ¬ (x ∈ (R i).F ∨ w.heap.size ≤ x) := fun j hj hji x hx hx2 => by
    rcases hx2 with hx2 | hx2
    · exact h.apart j i hj hi hji x hx hx2
    · have := (R j).lt (h.P j hj) hx; omega
  refine ⟨h.old.step hk (fun x hx => .inr (hn x (hks x hx))), fun j hj => ?_, fun j hj x hx => ?_, fun j k hj hk' hjk x hx hx2 => ?_⟩
  · by_cases e : j = i
    · subst e; rw [updI_at]; exact hr
    · rw [updI_far _ _ _ _ e]
      exact (R j).keep (h.P j hj) hk (fun x hx hx2 => hfar j hj e x hx (hks x hx2))
  · by_cases e : j = i
    · subst e; rw [updI_at] at hx; exact hn x (hF x hx)
    · rw [updI_far _ _ _ _ e] at hx; exact h.new j hj x hx
  · by_cases e : j = i
    · subst e
      rw [updI_at] at hx
      rw [updI_far _ _ _ _ (Ne.symm hjk)] at hx2
      exact hfar k hk' (Ne.symm hjk) x hx2 (hF x hx)
    · rw [updI_far _ _ _ _ e] at hx
      by_cases e2 : k = i
      · subst e2
        rw [updI_at] at hx2
        exact hfar j hj e x hx (hF x hx2)
      · rw [updI_far _ _ _ _ e2] at hx2
        exact h.apart j k hj hk' hjk x hx hx2

/-- Two are changed at once; the second stays where it lies. -/
theorem SepI.step2 {ks : List Nat} {r q : Rsc} (h : SepI W w D R) (i j : Nat × Nat) (hi : D i) (hj : D j) (hk : Kept ks w w') (hks : ∀ x ∈ ks, x ∈ (R i).F ∨ x ∈ (R j).F ∨ w.heap.size ≤ x) (hr : r.P w')
    (hF : ∀ x ∈ r.F, x ∈ (R i).F ∨ w.heap.size ≤ x) (hq : q.P w') (hG : q.F = (R j).F) : SepI W w' D (updI (updI R i r) j q) := by
  have hs := h.old.size
  have val : ∀ k, (k = j ∧ updI (updI R i r) j q k = q) ∨ (k = i ∧ k ≠ j ∧ updI (updI R i r) j q k = r) ∨ (k ≠ i ∧ k ≠ j ∧ updI (updI R i r) j q k = R k) := fun k => by
    by_cases e : k = j
    · exact .inl ⟨e, by rw [e, updI_at]⟩
    · by_cases e2 : k = i
      · exact .inr (.inl ⟨e2, e, by rw [updI_far _ _ _ _ e, e2, updI_at]⟩)
      · exact .inr (.inr ⟨e2, e, by rw [updI_far _ _ _ _ e, updI_far _ _ _ _ e2]⟩)
  have sub : ∀ k, D k → ∀ x ∈ (updI (updI R i r) j q k).F, x ∈ (R k).F ∨ (k = i ∧ w.heap.size ≤ x) := fun k _ x hx => by
    rcases val k with ⟨e, v⟩ | ⟨e, _, v⟩ | ⟨_, _, v⟩ <;> rw [v] at hx
    · rw [hG] at hx; rw [e]; exact .inl hx
    · rw [e]
      rcases hF x hx with h1 | h1
      · exact .inl h1
      · exact .inr ⟨rfl, h1⟩
    · exact .inl hx
  refine ⟨h.old.step hk (fun x hx => .inr ?_), fun k hk' => ?_, fun k hk' x hx => ?_, fun a b ha hb hab x hx hx2 => ?_⟩
  · rcases hks x hx with h1 | h1 | h1
    · exact h.new i hi x h1
    · exact h.new j hj x h1
    · omega
  · rcases val k with ⟨_, v⟩ | ⟨_, _, v⟩ | ⟨e1, e2, v⟩ <;> rw [v]
    · exact hq
    · exact hr
    · refine (R k).keep (h.P k hk') hk (fun x hx hx2 => ?_)
      rcases hks x hx2 with h1 | h1 | h1
      · exact h.apart k i hk' hi e1 x hx h1
      · exact h.apart k j hk' hj e2 x hx h1
      · have := (R k).lt (h.P k hk') hx; omega
  · rcases sub k hk' x hx with h1 | ⟨_, h1⟩
    · exact h.new k hk' x h1
    · omega
  · rcases sub a ha x hx with h1 | ⟨e1, h1⟩
    · rcases sub b hb x hx2 with h2 | ⟨_, h2⟩
      · exact h.apart a b ha hb hab x h1 h2
      · have := (R a).lt (h.P a ha) h1; omega
    · rcases sub b hb x hx2 with h2 | ⟨e2, h2⟩
      · have := (R b).lt (h.P b hb) h2; omega
      · exact hab (e1.trans e2.symm)

/-- One more, in new memory. -/
theorem SepI.push {r : Rsc} (h : SepI W w D R) (i : Nat × Nat) (hi : ¬ D i) (hk : Kept [] w w') (hr : r.P w') (hF : ∀ x ∈ r.F, w.heap.size ≤ x) : SepI W w' (fun j => D j ∨ j = i) (updI R i r) := by
  have hs := h.old.size
  have h' := h.keep hk
  have far : ∀ j, D j → j ≠ i := fun j hj e => hi (e ▸ hj)
  refine ⟨h'.old, fun j hj => ?_, fun j hj x hx => ?_, fun j k hj hk' hjk x hx hx2 => ?_⟩
  · rcases hj with hj | rfl
    · rw [updI_far _ _ _ _ (far j hj)]; exact h'.P j hj
    · rw [updI_at]; exact hr
  · rcases hj with hj | rfl
    · rw [updI_far _ _ _ _ (far j hj)] at hx; exact h.new j hj x hx
    · rw [updI_at] at hx; have := hF x hx; omega
  · rcases hj with hj | rfl
    · rw [updI_far _ _ _ _ (far j hj)] at hx
      rcases hk' with hk' | rfl
      · rw [updI_far _ _ _ _ (far k hk')] at hx2
        exact h.apart j k hj hk' hjk x hx hx2
      · rw [updI_at] at hx2
        have := hF x hx2
        have := (R j).lt (h.P j hj) hx
        omega
    · rw [updI_at] at hx
      rcases hk' with hk' | rfl
      · rw [updI_far _ _ _ _ (far k hk')] at hx2
        have := hF x hx
        have := (R k).lt (h.P k hk') hx2
        omega
      · exact absurd rfl hjk

theorem SepI.congr {D' : Nat × Nat → Prop} {R' : Nat × Nat → Rsc} (h : SepI W w D R) (hD : ∀ i, D' i → D i) (he : ∀ i, D' i → R' i = R i) : SepI W w D' R' :=
  ⟨h.old, fun i hi => by rw [he i hi]; exact h.P i (hD i hi), fun i hi => by rw [he i hi]; exact h.new i (hD i hi), fun i j hi hj => by rw [he i hi, he j hj]; exact h.apart i j (hD i hi) (hD j hj)⟩
end

def rfw (B : Nat) (V : Value) (bs : List Nat) : Rsc where
  P := fun w => RefW w B V bs
  F := B :: V.ownBlock.toList
  lt := fun {w x} h hx => by
    simp only [List.mem_cons, mem_own] at hx
    rcases hx with rfl | hx
    · exact lt_of_block h.1
    · exact ownsRow_lt h.2 hx
  keep := fun {w w' ks} h hk hF => ⟨hk.heap h.1 (hF _ (by simp)), hk.row h.2 (fun g hg => hF _ (List.mem_cons_of_mem _ (mem_own.2 hg)))⟩

def rfr (B : Nat) (V : Value) (l : List Nat) (t : Nat) : Rsc where
  P := fun w => RefR w B V l t ∧ t ≤ 8 * l.length
  F := B :: V.ownBlock.toList
  lt := fun {w x} h hx => by
    simp only [List.mem_cons, mem_own] at hx
    rcases hx with rfl | hx
    · exact lt_of_block h.1.1
    · exact ownsRow_lt h.1.2 hx
  keep := fun {w w' ks} h hk hF => ⟨refr_kept h.1 hk (hF _ (by simp)) (fun g hg => hF _ (List.mem_cons_of_mem _ (mem_own.2 hg))), h.2⟩

def rcx (X r : Nat) : Rsc where
  P := fun w => RefX w X r
  F := [X]
  lt := fun {w x} h hx => by simp at hx; subst hx; exact lt_of_block h.1
  keep := fun {w w' ks} h hk hF => h.kept hk (hF _ (by simp))

/-- A block that is known whole. -/
def obj (O : Nat) (o : Obj) : Rsc where
  P := fun w => w.heap[O]? = some o
  F := [O]
  lt := fun {w x} h hx => by simp at hx; subst hx; exact (Array.getElem?_eq_some_iff.1 h).1
  keep := fun {w w' ks} h hk hF => hk.heap h (hF _ (by simp))

/-- A row of pointers. -/
def ptrs (B : Nat → Nat) (n : Nat) : List Value := (List.range n).map fun j => .pointer (some ⟨B j, 0, none⟩)
def prw (e : TypeId) (S : Value) (n : Nat) (B : Nat → Nat) : Rsc where
  P := fun w => w.ownsRow 0 e 1 S n (ptrs B n)
  F := S.ownBlock.toList
  lt := fun h hx => ownsRow_lt h (mem_own.1 hx)
  keep := fun h hk hF => hk.row h (fun _ hg => hF _ (mem_own.2 hg))

/-- What stands in a World, by kind (0: writers, 1: the document's, 2: readers, 3: the document's, 4: coders, 5: the document's), and m things besides. -/
structure Wo where
  c : Nat → Nat
  B : Nat → Nat → Nat
  V : Nat → Nat → Value
  N : Nat → Nat → Nat
  len : Nat → Nat → Nat
  g : Nat → Nat
  l : Nat → Nat → List Nat
  t : Nat → Nat → Nat
  r : Nat → Nat → Nat
  S : Nat → Value
  m : Nat
  X : Nat → Rsc

/-- The element types of the six rows. -/
def ety (k : Nat) : TypeId := [45, 75, 54, 77, 64, 79].getD k 0

def Wo.D (s : Wo) (i : Nat × Nat) : Prop := (i.1 < 6 ∧ i.2 < s.c i.1) ∨ (i.1 = 6 ∧ i.2 < 6) ∨ (i.1 = 7 ∧ i.2 = 0) ∨ (i.1 = 8 ∧ i.2 < s.m)

def Wo.R (s : Wo) (A : Nat) (i : Nat × Nat) : Rsc :=
  match i.1 with
  | 0 => wtr (s.B 0 i.2) (s.V 0 i.2) (s.N 0 i.2) (s.len 0 i.2)
  | 1 => rfw (s.B 1 i.2) (s.V 1 i.2) (bin (s.len 1 i.2) (s.N 1 i.2))
  | 2 => rdr (s.B 2 i.2) (s.g i.2) (s.l 2 i.2) (s.t 2 i.2)
  | 3 => rfr (s.B 3 i.2) (s.V 3 i.2) (s.l 3 i.2) (s.t 3 i.2)
  | 4 => cdr (s.B 4 i.2) (s.r 4 i.2)
  | 5 => rcx (s.B 5 i.2) (s.r 5 i.2)
  | 6 => prw (ety i.2) (s.S i.2) (s.c i.2) (s.B i.2)
  | 7 => obj A (.cells #[s.S 0, s.S 1, s.S 2, s.S 3, s.S 4, s.S 5] 32 (0, 0))
  | _ => s.X i.2

/-- The World at block A. -/
def At (W w : World) (A : Nat) (s : Wo) : Prop := SepI W w s.D (s.R A)

section
variable {W w w' : World} {A : Nat} {s : Wo}
theorem At.keep (h : At W w A s) (hk : Kept [] w w') : At W w' A s := SepI.keep h hk
theorem Wo.D_thing (s : Wo) (k i : Nat) (hk : k < 6) (hi : i < s.c k) : s.D (k, i) := .inl ⟨hk, hi⟩
theorem Wo.D_row (s : Wo) (k : Nat) (hk : k < 6) : s.D (6, k) := .inr (.inl ⟨rfl, hk⟩)
theorem Wo.D_box (s : Wo) : s.D (7, 0) := .inr (.inr (.inl ⟨rfl, rfl⟩))
theorem Wo.D_more (s : Wo) (j : Nat) (hj : j < s.m) : s.D (8, j) := .inr (.inr (.inr ⟨rfl, hj⟩))

theorem At.box (h : At W w A s) : w.heap[A]? = some (.cells #[s.S 0, s.S 1, s.S 2, s.S 3, s.S 4, s.S 5] 32 (0, 0)) := h.P (7, 0) s.D_box
theorem At.row (h : At W w A s) (k : Nat) (hk : k < 6) : w.ownsRow 0 (ety k) 1 (s.S k) (s.c k) (ptrs (s.B k) (s.c k)) := h.P (6, k) (s.D_row k hk)
theorem At.wr (h : At W w A s) (i : Nat) (hi : i < s.c 0) : WriterAt w (s.B 0 i) (s.V 0 i) (s.N 0 i) (s.len 0 i) := h.P (0, i) (s.D_thing 0 i (by omega) hi)
theorem At.rw_ (h : At W w A s) (i : Nat) (hi : i < s.c 1) : RefW w (s.B 1 i) (s.V 1 i) (bin (s.len 1 i) (s.N 1 i)) := h.P (1, i) (s.D_thing 1 i (by omega) hi)
theorem At.rd (h : At W w A s) (i : Nat) (hi : i < s.c 2) : ReaderAt w (s.B 2 i) (s.g i) (s.l 2 i) (s.t 2 i) := h.P (2, i) (s.D_thing 2 i (by omega) hi)
theorem At.rr (h : At W w A s) (i : Nat) (hi : i < s.c 3) : RefR w (s.B 3 i) (s.V 3 i) (s.l 3 i) (s.t 3 i) ∧ s.t 3 i ≤ 8 * (s.l 3 i).length := h.P (3, i) (s.D_thing 3 i (by omega) hi)
theorem At.cd (h : At W w A s) (i : Nat) (hi : i < s.c 4) : CoderAt w (s.B 4 i) (s.r 4 i) := h.P (4, i) (s.D_thing 4 i (by omega) hi)
theorem At.rc (h : At W w A s) (i : Nat) (hi : i < s.c 5) : RefX w (s.B 5 i) (s.r 5 i) := h.P (5, i) (s.D_thing 5 i (by omega) hi)
theorem At.more (h : At W w A s) (j : Nat) (hj : j < s.m) : (s.X j).P w := h.P (8, j) (s.D_more j hj)

theorem At.cells (h : At W w A s) : (∀ k, k < 6 → w.cell? ⟨A, k, none⟩ = some (s.S k)) ∧ ∀ k, w.frozen? ⟨A, k, none⟩ = false := by
  have hb := h.box
  refine ⟨fun k hk => ?_, fun k => by simp [World.frozen?, hb]⟩
  rcases (by omega : k = 0 ∨ k = 1 ∨ k = 2 ∨ k = 3 ∨ k = 4 ∨ k = 5) with rfl | rfl | rfl | rfl | rfl | rfl <;> simp [World.cell?, hb]

/-- The pointer at a place of a row. -/
theorem At.ptr (h : At W w A s) (k i : Nat) (hk : k < 6) (hi : i < s.c k) : ∃ G cp, s.S k = .slice (some ⟨G, 0, none⟩) (s.c k) cp ∧ w.cell? ⟨G, i, none⟩ = some (.pointer (some ⟨s.B k i, 0, none⟩)) := by
  have hr := h.row k hk
  rcases hr.2 with ⟨_, h0⟩ | ⟨G, cp, cur, hv, _⟩
  · omega
  · refine ⟨G, cp, hv, ?_⟩
    rw [hv] at hr
    rw [hr.cellAt i (by omega)]
    simp [ptrs, hi]
theorem At.form (h : At W w A s) (k : Nat) (hk : k < 6) : ∃ ao cp, s.S k = .slice ao (s.c k) cp := row_form (h.row k hk)

def upd2 {α : Type} (f : Nat → Nat → α) (k i : Nat) (a : α) : Nat → Nat → α := fun k' i' => if k' = k ∧ i' = i then a else f k' i'
theorem upd2_at {α : Type} (f : Nat → Nat → α) (k i : Nat) (a : α) : upd2 f k i a k i = a := by simp [upd2]
theorem upd2_far {α : Type} (f : Nat → Nat → α) (k i : Nat) (a : α) (k' i' : Nat) (h : ¬ (k' = k ∧ i' = i)) : upd2 f k i a k' i' = f k' i' := by simp [upd2, h]

/-- One thing is changed. -/
theorem At.step {ks : List Nat} {s' : Wo} (h : At W w A s) (i : Nat × Nat) (hi : s.D i) (hk : Kept ks w w') (hks : ∀ x ∈ ks, x ∈ (s.R A i).F ∨ w.heap.size ≤ x) (hr : (s'.R A i).P w')
    (hF : ∀ x ∈ (s'.R A i).F, x ∈ (s.R A i).F ∨ w.heap.size ≤ x) (hD : ∀ j, s'.D j → s.D j) (he : ∀ j, s'.D j → j ≠ i → s'.R A j = s.R A j) : At W w' A s' :=
  (SepI.step (r := s'.R A i) h i hi hk hks hr hF).congr hD (fun j hj => by
    by_cases e : j = i
    · rw [e, updI_at]
    · rw [updI_far _ _ _ _ e]; exact he j hj e)

theorem At.step2 {ks : List Nat} {s' : Wo} (h : At W w A s) (i j : Nat × Nat) (hi : s.D i) (hj : s.D j) (hk : Kept ks w w') (hks : ∀ x ∈ ks, x ∈ (s.R A i).F ∨ x ∈ (s.R A j).F ∨ w.heap.size ≤ x) (hr : (s'.R A i).P w')
    (hF : ∀ x ∈ (s'.R A i).F, x ∈ (s.R A i).F ∨ w.heap.size ≤ x) (hq : (s'.R A j).P w') (hG : (s'.R A j).F = (s.R A j).F) (hD : ∀ j, s'.D j → s.D j) (he : ∀ k, s'.D k → k ≠ i → k ≠ j → s'.R A k = s.R A k) : At W w' A s' :=
  (SepI.step2 (r := s'.R A i) (q := s'.R A j) h i j hi hj hk hks hr hF hq hG).congr hD (fun k hk' => by
    by_cases e : k = j
    · rw [e, updI_at]
    · rw [updI_far _ _ _ _ e]
      by_cases e2 : k = i
      · rw [e2, updI_at]
      · rw [updI_far _ _ _ _ e2]; exact he k hk' e2 e)

/-- A thing more: made, its pointer put behind its row, the row laid into the box. -/
theorem At.grow {w1 w2 : World} {s' : Wo} (h : At W w A s) (k : Nat) (hk6 : k < 6) (hk1 : Kept [] w w1) (hr : (s'.R A (k, s.c k)).P w1) (hF : ∀ x ∈ (s'.R A (k, s.c k)).F, w.heap.size ≤ x)
    (hk2 : Kept (s.S k).ownBlock.toList w1 w2) (hL : Lies w1 (s.S k) (s'.S k)) (hrow : (s'.R A (6, k)).P w2)
    (hc : s'.c = fun j => if j = k then s.c k + 1 else s.c j) (hS : ∀ j, j ≠ k → s'.S j = s.S j) (hm : s'.m = s.m)
    (he : ∀ j, s.D j → j ≠ (6, k) → j ≠ (7, 0) → s'.R A j = s.R A j) : At W (w2.setCell ⟨A, k, none⟩ (s'.S k)) A s' := by
  have hn : ¬ s.D (k, s.c k) := by
    rintro (⟨_, h⟩ | ⟨h, _⟩ | ⟨h, _⟩ | ⟨h, _⟩)
    · simp at h
    · simp at h; omega
    · simp at h; omega
    · simp at h; omega
  have p1 := SepI.push (r := s'.R A (k, s.c k)) h (k, s.c k) hn hk1 hr hF
  have ne1 : ((6, k) : Nat × Nat) ≠ (k, s.c k) := fun e => by simp at e; omega
  have ne2 : ((7, 0) : Nat × Nat) ≠ (k, s.c k) := fun e => by simp at e; omega
  have ne3 : ((7, 0) : Nat × Nat) ≠ (6, k) := fun e => by simp at e
  have e6 : (updI (s.R A) (k, s.c k) (s'.R A (k, s.c k))) (6, k) = s.R A (6, k) := updI_far _ _ _ _ ne1
  have p2 := SepI.step (r := s'.R A (6, k)) p1 (6, k) (.inl (s.D_row k hk6)) hk2 (by rw [e6]; exact fun x hx => .inl hx) hrow (by rw [e6]; exact hL.mem)
  have e7 : (updI (updI (s.R A) (k, s.c k) (s'.R A (k, s.c k))) (6, k) (s'.R A (6, k))) (7, 0) = s.R A (7, 0) := by rw [updI_far _ _ _ _ ne3, updI_far _ _ _ _ ne2]
  have hb := p2.P (7, 0) (.inl s.D_box)
  rw [e7] at hb
  have hbox : (s'.R A (7, 0)).P (w2.setCell ⟨A, k, none⟩ (s'.S k)) := by
    show (w2.setCell ⟨A, k, none⟩ (s'.S k)).heap[A]? = some (.cells #[s'.S 0, s'.S 1, s'.S 2, s'.S 3, s'.S 4, s'.S 5] 32 (0, 0))
    have hb2 : w2.heap[A]? = some (.cells #[s.S 0, s.S 1, s.S 2, s.S 3, s.S 4, s.S 5] 32 (0, 0)) := hb
    rw [heap_setCell_at hb2]
    rcases (by omega : k = 0 ∨ k = 1 ∨ k = 2 ∨ k = 3 ∨ k = 4 ∨ k = 5) with rfl | rfl | rfl | rfl | rfl | rfl <;> simp [hS]
  have p3 := SepI.step (ks := [A]) (r := s'.R A (7, 0)) p2 (7, 0) (.inl s.D_box) ((Kept.refl _ _).setCell (p := ⟨A, k, none⟩) (by simp) _) (by rw [e7]; exact fun x hx => .inl hx) hbox (by rw [e7]; exact fun x hx => .inl hx)
  refine p3.congr (fun j hj => ?_) (fun j hj => ?_)
  · rcases hj with ⟨h1, h2⟩ | h1 | h1 | h1
    · rw [hc] at h2
      by_cases e : j.1 = k
      · simp only [e, if_true] at h2
        by_cases e2 : j.2 = s.c k
        · exact .inr (Prod.ext e e2)
        · exact .inl (.inl ⟨h1, by rw [e]; omega⟩)
      · simp only [e, if_false] at h2
        exact .inl (.inl ⟨h1, h2⟩)
    · exact .inl (.inr (.inl h1))
    · exact .inl (.inr (.inr (.inl h1)))
    · exact .inl (.inr (.inr (.inr ⟨h1.1, by rw [← hm]; exact h1.2⟩)))
  · by_cases a7 : j = (7, 0)
    · rw [a7, updI_at]
    · rw [updI_far _ _ _ _ a7]
      by_cases a6 : j = (6, k)
      · rw [a6, updI_at]
      · rw [updI_far _ _ _ _ a6]
        by_cases ak : j = (k, s.c k)
        · rw [ak, updI_at]
        · rw [updI_far _ _ _ _ ak]
          refine he j ?_ a6 a7
          rcases hj with ⟨h1, h2⟩ | h1 | h1 | h1
          · rw [hc] at h2
            by_cases e : j.1 = k
            · simp only [e, if_true] at h2
              have e2 : j.2 ≠ s.c k := fun e2 => ak (Prod.ext e e2)
              exact .inl ⟨h1, by rw [e]; omega⟩
            · simp only [e, if_false] at h2
              exact .inl ⟨h1, h2⟩
          · exact .inr (.inl h1)
          · exact .inr (.inr (.inl h1))
          · exact .inr (.inr (.inr ⟨h1.1, by rw [← hm]; exact h1.2⟩))

/-- A thing besides. -/
theorem At.hold {r : Rsc} (h : At W w A s) (hk : Kept [] w w') (hr : r.P w') (hF : ∀ x ∈ r.F, w.heap.size ≤ x) : At W w' A { s with m := s.m + 1, X := fun j => if j = s.m then r else s.X j } := by
  have hn : ¬ s.D (8, s.m) := by
    rintro (⟨h, _⟩ | ⟨h, _⟩ | ⟨h, _⟩ | ⟨_, h⟩)
    · simp at h
    · simp at h
    · simp at h
    · simp at h
  refine (SepI.push (r := r) h (8, s.m) hn hk hr hF).congr (fun j hj => ?_) (fun j hj => ?_)
  · rcases hj with h1 | h1 | h1 | ⟨h1, h2⟩
    · exact .inl (.inl h1)
    · exact .inl (.inr (.inl h1))
    · exact .inl (.inr (.inr (.inl h1)))
    · by_cases e : j.2 = s.m
      · exact .inr (Prod.ext h1 e)
      · exact .inl (.inr (.inr (.inr ⟨h1, by simp at h2; omega⟩)))
  · obtain ⟨a, b⟩ := j
    by_cases e : (a, b) = (8, s.m)
    · rw [e, updI_at]; simp [Wo.R]
    · rw [updI_far _ _ _ _ e]
      rcases hj with ⟨h1, _⟩ | ⟨h1, _⟩ | ⟨h1, _⟩ | ⟨h1, h2⟩
      · simp at h1
        rcases (by omega : a = 0 ∨ a = 1 ∨ a = 2 ∨ a = 3 ∨ a = 4 ∨ a = 5) with rfl | rfl | rfl | rfl | rfl | rfl <;> rfl
      · simp at h1; subst h1; rfl
      · simp at h1; subst h1; rfl
      · simp at h1
        subst h1
        have : b ≠ s.m := fun e2 => e (by rw [e2])
        simp [Wo.R, this]

/-- The things besides are let go. -/
theorem At.drop (h : At W w A s) (m' : Nat) (X' : Nat → Rsc) (hm : m' ≤ s.m) (hX : ∀ j, j < m' → X' j = s.X j) : At W w A { s with m := m', X := X' } := by
  refine SepI.congr h (fun j hj => ?_) (fun j hj => ?_)
  · rcases hj with h1 | h1 | h1 | ⟨h1, h2⟩
    · exact .inl h1
    · exact .inr (.inl h1)
    · exact .inr (.inr (.inl h1))
    · exact .inr (.inr (.inr ⟨h1, by simp at h2; omega⟩))
  · obtain ⟨a, b⟩ := j
    rcases hj with ⟨h1, _⟩ | ⟨h1, _⟩ | ⟨h1, _⟩ | ⟨h1, h2⟩
    · simp at h1
      rcases (by omega : a = 0 ∨ a = 1 ∨ a = 2 ∨ a = 3 ∨ a = 4 ∨ a = 5) with rfl | rfl | rfl | rfl | rfl | rfl <;> rfl
    · simp at h1; subst h1; rfl
    · simp at h1; subst h1; rfl
    · simp at h1
      subst h1
      exact hX b (by simpa using h2)
end
end Go.Proofs.YthhcihcgefeblaaDoor
