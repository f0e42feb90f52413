import Derived.Test.YthihennifigchaaK0
import Derived.ArgAppend
namespace Go.Proofs.Ythihennifigchaa.Bk
open Go.RowKit

theorem alloc_kept (w : World) (o : Obj) : Kept [] w (w.alloc o) := (Kept.refl [] w).alloc o
theorem lt_of_cell {w : World} {b i : Nat} {v : Value} (h : w.cell? ⟨b, i, none⟩ = some v) : b < w.heap.size := by
  by_cases hb : b < w.heap.size
  · exact hb
  · have : w.heap[b]? = none := by simp; omega
    simp [World.cell?, this] at h
theorem cell_keep {w w' : World} {l : List Nat} {b i : Nat} {v : Value} (hk : Kept l w w') (h : w.cell? ⟨b, i, none⟩ = some v) (hn : b ∉ l) : w'.cell? ⟨b, i, none⟩ = some v := by
  have hb := hk.block b (lt_of_cell h) hn
  simp only [World.cell?, hb] at h ⊢
  exact h

/-- A thing in memory: what holds of it, and the blocks that it lies in. -/
structure Rsc where
  P : World → Prop
  F : List Nat
  lt : ∀ {w : World} {x : Nat}, P w → x ∈ F → x < w.heap.size
  keep : ∀ {w w' : World} {ks : List Nat}, P w → Kept ks w w' → (∀ x ∈ F, x ∉ ks) → P w'
theorem mem_own {V : Value} {x : Nat} : x ∈ V.ownBlock.toList ↔ V.ownBlock = some x := by simp
theorem ownsRow_lt {w : World} {e : TypeId} {v : Value} {n x : Nat} {xs : List Value} (h : w.ownsRow 0 e 1 v n xs) (hx : v.ownBlock = some x) : x < w.heap.size := (h.lt x hx).2
theorem row_form {w : World} {base : Nat} {e : TypeId} {size : Nat} {v : Value} {n : Nat} {xs : List Value} (h : w.ownsRow base e size v n xs) : ∃ ao cap, v = .slice ao n cap := by
  rcases h.2 with ⟨rfl, rfl⟩ | ⟨g, cap, cur, rfl, _⟩
  · exact ⟨_, _, rfl⟩
  · exact ⟨_, _, rfl⟩

/-- A function changed at one place. -/
def updI {ι α : Type} [DecidableEq ι] (f : ι → α) (i : ι) (a : α) : ι → α := fun j => if j = i then a else f j
theorem updI_at {ι α : Type} [DecidableEq ι] (f : ι → α) (i : ι) (a : α) : updI f i a i = a := by simp [updI]
theorem updI_far {ι α : Type} [DecidableEq ι] (f : ι → α) (i : ι) (a : α) (j : ι) (h : j ≠ i) : updI f i a j = f j := by simp [updI, h]

/-- Things that lie apart, each under a name, in memory that is new to W. -/
structure SepI (W w : World) (D : Nat × Nat → Prop) (R : Nat × Nat → Rsc) : Prop where
  old : Kept [] W w
  P : ∀ i, D i → (R i).P w
  new : ∀ i, D i → ∀ x ∈ (R i).F, W.heap.size ≤ x
  apart : ∀ i j, D i → D j → i ≠ j → ∀ x ∈ (R i).F, x ∉ (R j).F

section
variable {W w w' : World} {D : Nat × Nat → Prop} {R : Nat × Nat → Rsc}

theorem SepI.keep (h : SepI W w D R) (hk : Kept [] w w') : SepI W w' D R :=
  ⟨h.old.trans hk, fun i hi => (R i).keep (h.P i hi) hk (by simp), h.new, h.apart⟩

theorem SepI.step {ks : List Nat} {r : Rsc} (h : SepI W w D R) (i : Nat × Nat) (hi : D i) (hk : Kept ks w w') (hks : ∀ x ∈ ks, x ∈ (R i).F ∨ w.heap.size ≤ x) (hr : r.P w')
    (hF : ∀ x ∈ r.F, x ∈ (R i).F ∨ w.heap.size ≤ x) : SepI W w' D (updI R i r) := by
  have hs := h.old.size
  have hn : ∀ x, (x ∈ (R i).F ∨ w.heap.size ≤ x) → W.heap.size ≤ x := fun x hx => by
    rcases hx with hx | hx
    · exact h.new i hi x hx
    · omega
  have hfar : ∀ j, D j → j ≠ i → ∀ x ∈ (R j).F, ¬ (x ∈ (R i).F ∨ w.heap.size ≤ x) := fun j hj hji x hx hx2 => by
    rcases hx2 with hx2 | hx2
    · exact h.apart j i hj hi hji x hx hx2
    · have := (R j).lt (h.P j hj) hx; omega
  refine ⟨h.old.step hk (fun x hx => .inr (hn x (hks x hx))), fun j hj => ?_, fun j hj x hx => ?_, fun j k hj hk' hjk x hx hx2 => ?_⟩
  · by_cases e : j = i
    · subst e; rw [updI_at]; exact hr
    · rw [updI_far _ _ _ _ e]
      exact (R j).keep (h.P j hj) hk (fun x hx hx2 => hfar j hj e x hx (hks x hx2))
  · by_cases e : j = i
    · subst e; rw [updI_at] at hx; exact hn x (hF x hx)
    · rw [updI_far _ _ _ _ e] at hx; exact h.new j hj x hx
  · by_cases e : j = i
    · subst e
      rw [updI_at] at hx
      rw [updI_far _ _ _ _ (Ne.symm hjk)] at hx2
      exact hfar k hk' (Ne.symm hjk) x hx2 (hF x hx)
    · rw [updI_far _ _ _ _ e] at hx
      by_cases e2 : k = i
      · subst e2
        rw [updI_at] at hx2
        exact hfar j hj e x hx (hF x hx2)
      · rw [updI_far _ _ _ _ e2] at hx2
        exact h.apart j k hj hk' hjk x hx hx2

/-- Two are changed at once; the second stays where it lies. -/
theorem SepI.step2 {ks : List Nat} {r q : Rsc} (h : SepI W w D R) (i j : Nat × Nat) (hi : D i) (hj : D j) (hk : Kept ks w w') (hks : ∀ x ∈ ks, x ∈ (R i).F ∨ x ∈ (R j).F ∨ w.heap.size ≤ x) (hr : r.P w')
    (hF : ∀ x ∈ r.F, x ∈ (R i).F ∨ w.heap.size ≤ x) (hq : q.P w') (hG : q.F = (R j).F) : SepI W w' D (updI (updI R i r) j q) := by
  have hs := h.old.size
  have val : ∀ k, (k = j ∧ updI (updI R i r) j q k = q) ∨ (k = i ∧ k ≠ j ∧ updI (updI R i r) j q k = r) ∨ (k ≠ i ∧ k ≠ j ∧ updI (updI R i r) j q k = R k) := fun k => by
    by_cases e : k = j
    · exact .inl ⟨e, by rw [e, updI_at]⟩
    · by_cases e2 : k = i
      · exact .inr (.inl ⟨e2, e, by rw [updI_far _ _ _ _ e, e2, updI_at]⟩)
      · exact .inr (.inr ⟨e2, e, by rw [updI_far _ _ _ _ e, updI_far _ _ _ _ e2]⟩)
  have sub : ∀ k, D k → ∀ x ∈ (updI (updI R i r) j q k).F, x ∈ (R k).F ∨ (k = i ∧ w.heap.size ≤ x) := fun k _ x hx => by
    rcases val k with ⟨e, v⟩ | ⟨e, _, v⟩ | ⟨_, _, v⟩ <;> rw [v] at hx
    · rw [hG] at hx; rw [e]; exact .inl hx
    · rw [e]
      rcases hF x hx with h1 | h1
      · exact .inl h1
      · exact .inr ⟨rfl, h1⟩
    · exact .inl hx
  refine ⟨h.old.step hk (fun x hx => .inr ?_), fun k hk' => ?_, fun k hk' x hx => ?_, fun a b ha hb hab x hx hx2 => ?_⟩
  · rcases hks x hx with h1 | h1 | h1
    · exact h.new i hi x h1
    · exact h.new j hj x h1
    · omega
  · rcases val k with ⟨_, v⟩ | ⟨_, _, v⟩ | ⟨e1, e2, v⟩ <;> rw [v]
    · exact hq
    · exact hr
    · refine (R k).keep (h.P k hk') hk (fun x hx hx2 => ?_)
      rcases hks x hx2 with h1 | h1 | h1
      · exact h.apart k i hk' hi e1 x hx h1
      · exact h.apart k j hk' hj e2 x hx h1
      · have := (R k).lt (h.P k hk') hx; omega
  · rcases sub k hk' x hx with h1 | ⟨_, h1⟩
    · exact h.new k hk' x h1
    · omega
  · rcases sub a ha x hx with h1 | ⟨e1, h1⟩
    · rcases sub b hb x hx2 with h2 | ⟨_, h2⟩
      · exact h.apart a b ha hb hab x h1 h2
      · have := (R a).lt (h.P a ha) h1; omega
    · rcases sub b hb x hx2 with h2 | ⟨e2, h2⟩
      · have := (R b).lt (h.P b hb) h2; omega
      · exact hab (e1.trans e2.symm)

/-- One more, in new memory. -/
theorem SepI.push {r : Rsc} (h : SepI W w D R) (i : Nat × Nat) (hi : ¬ D i) (hk : Kept [] w w') (hr : r.P w') (hF : ∀ x ∈ r.F, w.heap.size ≤ x) : SepI W w' (fun j => D j ∨ j = i) (updI R i r) := by
  have hs := h.old.size
  have h' := h.keep hk
  have far : ∀ j, D j → j ≠ i := fun j hj e => hi (e ▸ hj)
  refine ⟨h'.old, fun j hj => ?_, fun j hj x hx => ?_, fun j k hj hk' hjk x hx hx2 => ?_⟩
  · rcases hj with hj | rfl
    · rw [updI_far _ _ _ _ (far j hj)]; exact h'.P j hj
    · rw [updI_at]; exact hr
  · rcases hj with hj | rfl
    · rw [updI_far _ _ _ _ (far j hj)] at hx; exact h.new j hj x hx
    · rw [updI_at] at hx; have := hF x hx; omega
  · rcases hj with hj | rfl
    · rw [updI_far _ _ _ _ (far j hj)] at hx
      rcases hk' with hk' | rfl
      · rw [updI_far _ _ _ _ (far k hk')] at hx2
        exact h.apart j k hj hk' hjk x hx hx2
      · rw [updI_at] at hx2
        have := hF x hx2
        have := (R j).lt (h.P j hj) hx
        omega
    · rw [updI_at] at hx
      rcases hk' with hk' | rfl
      · rw [updI_far _ _ _ _ (far k hk')] at hx2
        have := hF x hx
        have := (R k).lt (h.P k hk') hx2
        omega
      · exact absurd rfl hjk

theorem SepI.congr {D' : Nat × Nat → Prop} {R' : Nat × Nat → Rsc} (h : SepI W w D R) (hD : ∀ i, D' i → D i) (he : ∀ i, D' i → R' i = R i) : SepI W w D' R' :=
  ⟨h.old, fun i hi => by rw [he i hi]; exact h.P i (hD i hi), fun i hi => by rw [he i hi]; exact h.new i (hD i hi), fun i j hi hj => by rw [he i hi, he j hj]; exact h.apart i j (hD i hi) (hD j hj)⟩
end

/-- A block that is known whole. -/
def obj (O : Nat) (o : Obj) : Rsc where
  P := fun w => w.heap[O]? = some o
  F := [O]
  lt := fun {w x} h hx => by simp at hx; subst hx; exact (Array.getElem?_eq_some_iff.1 h).1
  keep := fun {w w' ks} h hk hF => hk.heap h (hF _ (by simp))


/-- One more that lies there already. -/
theorem SepI.push2 {W w : World} {D : Nat × Nat → Prop} {R : Nat × Nat → Rsc} {r : Rsc} (h : SepI W w D R) (i : Nat × Nat) (hi : ¬ D i) (hr : r.P w) (hF : ∀ x ∈ r.F, W.heap.size ≤ x) (ha : ∀ j, D j → ∀ x ∈ r.F, x ∉ (R j).F) : SepI W w (fun j => D j ∨ j = i) (updI R i r) := by
  have far : ∀ j, D j → j ≠ i := fun j hj e => hi (e ▸ hj)
  refine ⟨h.old, fun j hj => ?_, fun j hj x hx => ?_, fun j k hj hk' hjk x hx hx2 => ?_⟩
  · rcases hj with hj | rfl
    · rw [updI_far _ _ _ _ (far j hj)]; exact h.P j hj
    · rw [updI_at]; exact hr
  · rcases hj with hj | rfl
    · rw [updI_far _ _ _ _ (far j hj)] at hx; exact h.new j hj x hx
    · rw [updI_at] at hx; exact hF x hx
  · rcases hj with hj | rfl
    · rw [updI_far _ _ _ _ (far j hj)] at hx
      rcases hk' with hk' | rfl
      · rw [updI_far _ _ _ _ (far k hk')] at hx2
        exact h.apart j k hj hk' hjk x hx hx2
      · rw [updI_at] at hx2
        exact ha j hj x hx2 hx
    · rw [updI_at] at hx
      rcases hk' with hk' | rfl
      · rw [updI_far _ _ _ _ (far k hk')] at hx2
        exact ha k hk' x hx hx2
      · exact absurd rfl hjk
def upd2 {α : Type} (f : Nat → Nat → α) (k i : Nat) (a : α) : Nat → Nat → α := fun k' i' => if k' = k ∧ i' = i then a else f k' i'
theorem upd2_at {α : Type} (f : Nat → Nat → α) (k i : Nat) (a : α) : upd2 f k i a k i = a := by simp [upd2]
theorem upd2_far {α : Type} (f : Nat → Nat → α) (k i : Nat) (a : α) (k' i' : Nat) (h : ¬ (k' = k ∧ i' = i)) : upd2 f k i a k' i' = f k' i' := by simp [upd2, h]

/-- The values of a row. -/
def vals (V : Nat → Value) (n : Nat) : List Value := (List.range n).map V
theorem vals_length (V : Nat → Value) (n : Nat) : (vals V n).length = n := by simp [vals]
theorem vals_at (V : Nat → Value) (n i : Nat) (h : i < n) : (vals V n)[i]? = some (V i) := by simp [vals, h]
theorem vals_congr {V V' : Nat → Value} {n : Nat} (h : ∀ i, i < n → V i = V' i) : vals V n = vals V' n := by
  unfold vals
  apply List.map_congr_left
  intro i hi
  exact h i (List.mem_range.1 hi)
theorem vals_snoc (V : Nat → Nat → Value) (k n : Nat) (v : Value) : vals (V k) n ++ [v] = vals (upd2 V k n v k) (n + 1) := by
  unfold vals
  rw [List.range_succ, List.map_append, List.map_singleton, upd2_at]
  congr 1
  apply List.map_congr_left
  intro j hj
  have := List.mem_range.1 hj
  rw [upd2_far _ _ _ _ _ _ (by omega)]
theorem vals_set (V : Nat → Nat → Value) (k n i : Nat) (v : Value) (hi : i < n) : (vals (V k) n).set i v = vals (upd2 V k i v k) n := by
  apply List.ext_getElem?
  intro j
  rw [List.getElem?_set]
  by_cases e : i = j
  · subst e
    simp [vals, hi, upd2]
  · rw [if_neg e]
    by_cases hj : j < n
    · rw [vals_at _ _ _ hj, vals_at _ _ _ hj, upd2_far _ _ _ _ _ _ (by omega)]
    · simp [vals, hj]
theorem own_base {w : World} {B B' e n : Nat} {v : Value} {xs : List Value} (h : w.ownsRow B e 1 v n xs) (hB : B' ≤ B) : w.ownsRow B' e 1 v n xs := by
  refine ⟨h.1, ?_⟩
  rcases h.2 with h1 | ⟨g, cap, cur, h1, h2, h3⟩
  · exact .inl h1
  · exact .inr ⟨g, cap, cur, h1, by omega, h3⟩
theorem own_ne {w : World} {B B' e e' n n' : Nat} {V V' : Value} {xs xs' : List Value} (h : w.ownsRow B e 1 V n xs) (h' : w.ownsRow B' e' 1 V' n' xs') (hne : e ≠ e') : ∀ g, V'.ownBlock = some g → g ∉ V.ownBlock.toList := by
  intro g hg hm
  rw [mem_own] at hm
  rcases h.2 with ⟨rfl, _⟩ | ⟨g1, c1, cur1, rfl, _, hg1, _⟩
  · simp [Value.ownBlock] at hm
  · rcases h'.2 with ⟨rfl, _⟩ | ⟨g2, c2, cur2, rfl, _, hg2, _⟩
    · simp [Value.ownBlock] at hg
    · simp [Value.ownBlock] at hm hg
      subst hm; subst hg
      rw [hg1] at hg2
      simp at hg2
      exact hne hg2.2
theorem row_ty {w : World} {e G n cp : Nat} {xs : List Value} (h : w.ownsRow 0 e 1 (.slice (some ⟨G, 0, none⟩) n cp) n xs) : ∃ cur, w.heap[G]? = some (.cells cur e (0, 0)) := by
  rcases h.2 with ⟨h1, _⟩ | ⟨g', cap', cur, h1, _, hg, _⟩
  · simp at h1
  · simp at h1
    obtain ⟨rfl, rfl⟩ := h1
    exact ⟨cur, hg⟩
theorem ne_ty {w : World} {x y : Nat} {cs ds : Array Value} {t u : TypeId} {f f' : Nat × Nat} (h1 : w.heap[x]? = some (.cells cs t f)) (h2 : w.heap[y]? = some (.cells ds u f')) (h : t ≠ u) : x ≠ y := by
  rintro rfl
  rw [h1] at h2
  simp at h2
  exact h h2.2.1
/-- A slice all of whose elements are x. -/
def Al (k : IntKind) (w : World) (ao : Option Addr) (n : Nat) (x : Int) : Prop := n = 0 ∨ ∃ G off, ao = some ⟨G, off, none⟩ ∧ ∀ i, i < n → w.cell? ⟨G, off + i, none⟩ = some (.int k x)
theorem al_keep {k : IntKind} {w w' : World} {ao : Option Addr} {n : Nat} {x : Int} (h : Al k w ao n x) (hk : Kept [] w w') : Al k w' ao n x := by
  rcases h with h | ⟨G, off, h1, h2⟩
  · exact .inl h
  · exact .inr ⟨G, off, h1, fun i hi => cell_keep hk (h2 i hi) (by simp)⟩
theorem Al.alloc {k : IntKind} {w : World} {ao : Option Addr} {n : Nat} {x : Int} (h : Al k w ao n x) (o : Obj) : Al k (w.alloc o) ao n x := al_keep h (alloc_kept _ _)
theorem al_olds {k : IntKind} {w : World} {ao : Option Addr} {n : Nat} {x : Int} (h : Al k w ao n x) : ∀ b, ao = some b → ∀ j u, (List.replicate n (Value.int k x))[j]? = some u → w.cell? (b.add j) = some u := by
  intro b hb j u hu
  rw [List.getElem?_replicate] at hu
  split at hu
  · rename_i hj
    simp at hu
    subst hu
    rcases h with h | ⟨G, off, h1, h2⟩
    · omega
    · rw [hb] at h1
      simp at h1
      subst h1
      have hadd : (⟨G, off, none⟩ : Addr).add j = ⟨G, off + j, none⟩ := by unfold Addr.add; split <;> simp_all
      rw [hadd]
      exact h2 j hj
  · simp at hu
theorem own_al {k : IntKind} {w : World} {B e : Nat} {ao : Option Addr} {n cap : Nat} {x : Int} (h : w.ownsRow B e 1 (.slice ao n cap) n (List.replicate n (.int k x))) : Al k w ao n x := by
  rcases h.2 with ⟨_, h1⟩ | ⟨g, c1, cur, h1, _⟩
  · exact .inl h1
  · simp at h1
    obtain ⟨rfl, rfl⟩ := h1
    refine .inr ⟨g, 0, rfl, fun i hi => ?_⟩
    rw [Nat.zero_add, h.cellAt i (by omega)]
    simp [hi]
/-- Numbers by a function. -/
def ints (k : IntKind) (f : Nat → Int) (n : Nat) : List Value := (List.range n).map fun i => .int k (f i)
/-- A list that was given: nil, or a block of its own. -/
def ablk (ao : Option Addr) : List Nat := match ao with | none => [] | some a => [a.block]
def zlf (k : IntKind) (e : TypeId) (ao : Option Addr) (n : Nat) (f : Nat → Int) : Rsc where
  P := fun w => (ao = none ∧ n = 0) ∨ ∃ G, ao = some ⟨G, 0, none⟩ ∧ w.heap[G]? = some (.cells (ints k f n).toArray e (0, 0))
  F := ablk ao
  lt := fun h hx => by
    rcases h with ⟨rfl, _⟩ | ⟨G, rfl, h⟩
    · simp [ablk] at hx
    · simp [ablk] at hx; subst hx; exact lt_of_block h
  keep := fun h hk hF => by
    rcases h with h | ⟨G, rfl, h⟩
    · exact .inl h
    · exact .inr ⟨G, rfl, hk.heap h (hF _ (by simp [ablk]))⟩
theorem ints_const (k : IntKind) (v : Int) (n : Nat) : ints k (fun _ => v) n = List.replicate n (.int k v) := by
  apply List.ext_getElem?
  intro j
  by_cases h : j < n
  · simp [ints, h]
  · simp [ints, h]

/-- append of one value onto a row of one's own. -/
theorem wpList_app1 (w : World) {ops : Array Oper} {rest : List Oper} {o : Oper} {a : Act} {Q : Exit → Act → World → Prop} (hgd : o.guard = none) (s x : Operand) (t B e : Nat) (i0 : TypeInfo) (z : Value) (by_ : Nat)
    (hu : Try.prog.underlying t = some (.slice e)) (hi : Try.prog.info? e = some i0) (hz0 : i0.zero = some z) (hz1 : i0.size = 1) (hz2 : i0.bytes = by_) (hzz : z.cells.size = 1)
    (ho : o.op = .call { callee := .builtin .append, args := #[s, x], argTypes := #[t, t] })
    (v : Value) (n : Nat) (xs : List Value) (hs : a.eval s = v) (hown : w.ownsRow B e 1 v n xs) (y : Value) (hx : a.eval x = .slice (some ⟨w.heap.size, 0, none⟩) 1 1) (hone : y.oneCell' = true) (hB : B ≤ w.heap.size) (hn : n ≤ 100000000000000) (hb : (n + 1) * by_ ≤ 140737488355328)
    (h : ∀ v' w', w'.ownsRow B e 1 v' (n + 1) (xs ++ [y]) → Kept v.ownBlock.toList w w' → Lies w v v' → wpList Try.prog ops Q rest (a.put o.dst v') w') :
    wpList Try.prog ops Q (o :: rest) a (w.alloc (.cells #[y] e)) := by
  refine wpList_append_own_at _ hgd s x t ho B e i0 z 1 by_ hu hi hz0 hz1 hz2 hzz (by decide) v n xs hs (hown.alloc _) ⟨w.heap.size, 0, none⟩ 1 1 [y] hx rfl (cell_one_new _ _ _) (fun u hu => by simp at hu; subst hu; exact hone) (by unfold maxLen; omega) hb (by rw [World.size_alloc]; omega) ?_
  intro v' w' h2 h3 _ h5
  refine h v' w' h2 (((Kept.refl _ w).alloc _).step (Kept.of_grown h3) (fun x hx => .inl hx)) ?_
  rcases h5 with h | h
  · exact .inl h
  · exact .inr ⟨_, h, by rw [World.size_alloc]; omega⟩

end Go.Proofs.Ythihennifigchaa.Bk
