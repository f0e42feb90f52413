import Derived.Test.YtiojcfffhcipnaaRe
import Derived.Test.YtiojcfffhcipnaaSp
namespace Go.Proofs.Ytiojcfffhcipnaa
open Go.RowKit

/-- A thing in memory: what holds of it, and the blocks that it lies in. -/
structure Rsc where
  P : World → Prop
  F : List Nat
  lt : ∀ {w : World} {x : Nat}, P w → x ∈ F → x < w.heap.size
  keep : ∀ {w w' : World} {ks : List Nat}, P w → Kept ks w w' → (∀ x ∈ F, x ∉ ks) → P w'
theorem mem_own {V : Value} {x : Nat} : x ∈ V.ownBlock.toList ↔ V.ownBlock = some x := by simp
theorem ownsRow_lt {w : World} {e : TypeId} {v : Value} {n x : Nat} {xs : List Value} (h : w.ownsRow 0 e 1 v n xs) (hx : v.ownBlock = some x) : x < w.heap.size := (h.lt x hx).2
/-- A function changed at one place. -/
def updI {ι α : Type} [DecidableEq ι] (f : ι → α) (i : ι) (a : α) : ι → α := fun j => if j = i then a else f j
theorem updI_at {ι α : Type} [DecidableEq ι] (f : ι → α) (i : ι) (a : α) : updI f i a i = a := by simp [updI]
theorem updI_far {ι α : Type} [DecidableEq ι] (f : ι → α) (i : ι) (a : α) (j : ι) (h : j ≠ i) : updI f i a j = f j := by simp [updI, h]

/-- Things that lie apart, each under a name, in memory that is new to W. -/
structure SepI (W w : World) (D : Nat × Nat → Prop) (R : Nat × Nat → Rsc) : Prop where
  old : Kept [] W w
  P : ∀ i, D i → (R i).P w
  new : ∀ i, D i → ∀ x ∈ (R i).F, W.heap.size ≤ x
  apart : ∀ i j, D i → D j → i ≠ j → ∀ x ∈ (R i).F, x ∉ (R j).F

section
variable {W w w' : World} {D : Nat × Nat → Prop} {R : Nat × Nat → Rsc}

theorem SepI.keep (h : SepI W w D R) (hk : Kept [] w w') : SepI W w' D R :=
  ⟨h.old.trans hk, fun i hi => (R i).keep (h.P i hi) hk (by simp), h.new, h.apart⟩

theorem SepI.step {ks : List Nat} {r : Rsc} (h : SepI W w D R) (i : Nat × Nat) (hi : D i) (hk : Kept ks w w') (hks : ∀ x ∈ ks, x ∈ (R i).F ∨ w.heap.size ≤ x) (hr : r.P w')
    (hF : ∀ x ∈ r.F, x ∈ (R i).F ∨ w.heap.size ≤ x) : SepI W w' D (updI R i r) := by
  have hs := h.old.size
  have hn : ∀ x, (x ∈ (R i).F ∨ w.heap.size ≤ x) → W.heap.size ≤ x := fun x hx => by
    rcases hx with hx | hx
    · exact h.new i hi x hx
    · omega
  have hfar : ∀ j, D j → j ≠ i → ∀ x ∈ (R j).F, ¬ (x ∈ (R i).F ∨ w.heap.size ≤ x) := fun j hj hji x hx hx2 => by
    rcases hx2 with hx2 | hx2
    · exact h.apart j i hj hi hji x hx hx2
    · have := (R j).lt (h.P j hj) hx; omega
  refine ⟨h.old.step hk (fun x hx => .inr (hn x (hks x hx))), fun j hj => ?_, fun j hj x hx => ?_, fun j k hj hk' hjk x hx hx2 => ?_⟩
  · by_cases e : j = i
    · subst e; rw [updI_at]; exact hr
    · rw [updI_far _ _ _ _ e]
      exact (R j).keep (h.P j hj) hk (fun x hx hx2 => hfar j hj e x hx (hks x hx2))
  · by_cases e : j = i
    · subst e; rw [updI_at] at hx; exact hn x (hF x hx)
    · rw [updI_far _ _ _ _ e] at hx; exact h.new j hj x hx
  · by_cases e : j = i
    · subst e
      rw [updI_at] at hx
      rw [updI_far _ _ _ _ (Ne.symm hjk)] at hx2
      exact hfar k hk' (Ne.symm hjk) x hx2 (hF x hx)
    · rw [updI_far _ _ _ _ e] at hx
      by_cases e2 : k = i
      · subst e2
        rw [updI_at] at hx2
        exact hfar j hj e x hx (hF x hx2)
      · rw [updI_far _ _ _ _ e2] at hx2
        exact h.apart j k hj hk' hjk x hx hx2

/-- Two are changed at once; the second stays where it lies. -/
theorem SepI.step2 {ks : List Nat} {r q : Rsc} (h : SepI W w D R) (i j : Nat × Nat) (hi : D i) (hj : D j) (hk : Kept ks w w') (hks : ∀ x ∈ ks, x ∈ (R i).F ∨ x ∈ (R j).F ∨ w.heap.size ≤ x) (hr : r.P w')
    (hF : ∀ x ∈ r.F, x ∈ (R i).F ∨ w.heap.size ≤ x) (hq : q.P w') (hG : q.F = (R j).F) : SepI W w' D (updI (updI R i r) j q) := by
  have hs := h.old.size
  have val : ∀ k, (k = j ∧ updI (updI R i r) j q k = q) ∨ (k = i ∧ k ≠ j ∧ updI (updI R i r) j q k = r) ∨ (k ≠ i ∧ k ≠ j ∧ updI (updI R i r) j q k = R k) := fun k => by
    by_cases e : k = j
    · exact .inl ⟨e, by rw [e, updI_at]⟩
    · by_cases e2 : k = i
      · exact .inr (.inl ⟨e2, e, by rw [updI_far _ _ _ _ e, e2, updI_at]⟩)
      · exact .inr (.inr ⟨e2, e, by rw [updI_far _ _ _ _ e, updI_far _ _ _ _ e2]⟩)
  have sub : ∀ k, D k → ∀ x ∈ (updI (updI R i r) j q k).F, x ∈ (R k).F ∨ (k = i ∧ w.heap.size ≤ x) := fun k _ x hx => by
    rcases val k with ⟨e, v⟩ | ⟨e, _, v⟩ | ⟨_, _, v⟩ <;> rw [v] at hx
    · rw [hG] at hx; rw [e]; exact .inl hx
    · rw [e]
      rcases hF x hx with h1 | h1
      · exact .inl h1
      · exact .inr ⟨rfl, h1⟩
    · exact .inl hx
  refine ⟨h.old.step hk (fun x hx => .inr ?_), fun k hk' => ?_, fun k hk' x hx => ?_, fun a b ha hb hab x hx hx2 => ?_⟩
  · rcases hks x hx with h1 | h1 | h1
    · exact h.new i hi x h1
    · exact h.new j hj x h1
    · omega
  · rcases val k with ⟨_, v⟩ | ⟨_, _, v⟩ | ⟨e1, e2, v⟩ <;> rw [v]
    · exact hq
    · exact hr
    · refine (R k).keep (h.P k hk') hk (fun x hx hx2 => ?_)
      rcases hks x hx2 with h1 | h1 | h1
      · exact h.apart k i hk' hi e1 x hx h1
      · exact h.apart k j hk' hj e2 x hx h1
      · have := (R k).lt (h.P k hk') hx; omega
  · rcases sub k hk' x hx with h1 | ⟨_, h1⟩
    · exact h.new k hk' x h1
    · omega
  · rcases sub a ha x hx with h1 | ⟨e1, h1⟩
    · rcases sub b hb x hx2 with h2 | ⟨_, h2⟩
      · exact h.apart a b ha hb hab x h1 h2
      · have := (R a).lt (h.P a ha) h1; omega
    · rcases sub b hb x hx2 with h2 | ⟨e2, h2⟩
      · have := (R b).lt (h.P b hb) h2; omega
      · exact hab (e1.trans e2.symm)

/-- One more, in new memory. -/
theorem SepI.push {r : Rsc} (h : SepI W w D R) (i : Nat × Nat) (hi : ¬ D i) (hk : Kept [] w w') (hr : r.P w') (hF : ∀ x ∈ r.F, w.heap.size ≤ x) : SepI W w' (fun j => D j ∨ j = i) (updI R i r) := by
  have hs := h.old.size
  have h' := h.keep hk
  have far : ∀ j, D j → j ≠ i := fun j hj e => hi (e ▸ hj)
  refine ⟨h'.old, fun j hj => ?_, fun j hj x hx => ?_, fun j k hj hk' hjk x hx hx2 => ?_⟩
  · rcases hj with hj | rfl
    · rw [updI_far _ _ _ _ (far j hj)]; exact h'.P j hj
    · rw [updI_at]; exact hr
  · rcases hj with hj | rfl
    · rw [updI_far _ _ _ _ (far j hj)] at hx; exact h.new j hj x hx
    · rw [updI_at] at hx; have := hF x hx; omega
  · rcases hj with hj | rfl
    · rw [updI_far _ _ _ _ (far j hj)] at hx
      rcases hk' with hk' | rfl
      · rw [updI_far _ _ _ _ (far k hk')] at hx2
        exact h.apart j k hj hk' hjk x hx hx2
      · rw [updI_at] at hx2
        have := hF x hx2
        have := (R j).lt (h.P j hj) hx
        omega
    · rw [updI_at] at hx
      rcases hk' with hk' | rfl
      · rw [updI_far _ _ _ _ (far k hk')] at hx2
        have := hF x hx
        have := (R k).lt (h.P k hk') hx2
        omega
      · exact absurd rfl hjk

theorem SepI.congr {D' : Nat × Nat → Prop} {R' : Nat × Nat → Rsc} (h : SepI W w D R) (hD : ∀ i, D' i → D i) (he : ∀ i, D' i → R' i = R i) : SepI W w D' R' :=
  ⟨h.old, fun i hi => by rw [he i hi]; exact h.P i (hD i hi), fun i hi => by rw [he i hi]; exact h.new i (hD i hi), fun i j hi hj => by rw [he i hi, he j hj]; exact h.apart i j (hD i hi) (hD j hj)⟩
end

/-- A block that is known whole. -/
def obj (O : Nat) (o : Obj) : Rsc where
  P := fun w => w.heap[O]? = some o
  F := [O]
  lt := fun {w x} h hx => by simp at hx; subst hx; exact (Array.getElem?_eq_some_iff.1 h).1
  keep := fun {w w' ks} h hk hF => hk.heap h (hF _ (by simp))



/-- A medium, the document's, rows of bytes and of spans, as things. -/
def medR (P : Nat) (V L : Value) (s : Md) : Rsc where
  P := fun w => Med w P V L s 0
  F := foot P V L
  lt := fun {w x} h hx => by
    simp only [foot, List.mem_cons, List.mem_append] at hx
    rcases hx with rfl | hx | hx
    · exact (Array.getElem?_eq_some_iff.1 h.box).1
    · exact own_lt h.row x hx
    · exact own_lt h.log x hx
  keep := fun {_ _ _} h hk hF => h.kept hk hF
def docR (P : Nat) (V L : Value) (s : Md) : Rsc where
  P := fun w => Rmd w P V L s
  F := foot P V L
  lt := fun {w x} h hx => by
    simp only [foot, List.mem_cons, List.mem_append] at hx
    rcases hx with rfl | hx | hx
    · exact (Array.getElem?_eq_some_iff.1 h.box).1
    · exact own_lt h.row x hx
    · exact own_lt h.log x hx
  keep := fun {_ _ _} h hk hF => h.kept hk hF
def rowR (V : Value) (l : List Nat) : Rsc where
  P := fun w => w.ownsRow 0 5 1 V l.length (l.map byt)
  F := V.ownBlock.toList
  lt := fun {w x} h hx => own_lt h x hx
  keep := fun {_ _ _} h hk hF => hk.row h (fun g hg => hF g (by simp [hg]))
def spnR (V : Value) (g : List (Int × Int)) : Rsc where
  P := fun w => w.ownsRow 0 63 2 V g.length (spc g)
  F := V.ownBlock.toList
  lt := fun {w x} h hx => own_lt h x hx
  keep := fun {_ _ _} h hk hF => hk.row h (fun g hg => hF g (by simp [hg]))
/-- A list of values, in a row of its own: e the elements' type, z their cells. -/
def lstR (e z : Nat) (V : Value) (n : Nat) (xs : List Value) : Rsc where
  P := fun w => w.ownsRow 0 e z V n xs
  F := V.ownBlock.toList
  lt := fun {w x} h hx => own_lt h x hx
  keep := fun {_ _ _} h hk hF => hk.row h (fun g hg => hF g (by simp [hg]))

/-- The document's medium is the program's: but for how many bytes are to stay, where it is not armed. -/
structure Alk (s t : Md) : Prop where
  b : t.b = s.b
  g : t.g = s.g
  dead : t.dead = s.dead
  left : t.left = s.left
  keep : s.left ≠ 0 → t.keep = s.keep
theorem Alk.refl (s : Md) : Alk s s := ⟨rfl, rfl, rfl, rfl, fun _ => rfl⟩
theorem Alk.app {s t : Md} (h : Alk s t) (l : List Nat) : apE t l = apE s l ∧ apA t l = apA s l ∧ Alk (apS s l) (rapS t l) := by
  obtain ⟨sb, sg, sd, sl, sk⟩ := s
  obtain ⟨tb, tg, td, tl, tk⟩ := t
  obtain ⟨h1, h2, h3, h4, h5⟩ := h
  simp only at h1 h2 h3 h4 h5
  subst h1 h2 h3 h4
  refine ⟨by simp [apE], by simp [apA], ?_⟩
  unfold apS rapS
  simp only
  by_cases a1 : td = true
  · rw [if_pos a1, if_pos a1]; exact ⟨rfl, rfl, rfl, rfl, h5⟩
  · rw [if_neg a1, if_neg a1]
    by_cases a2 : 268435456 < tb.length + l.length
    · rw [if_pos a2, if_pos a2]; exact ⟨rfl, rfl, rfl, rfl, h5⟩
    · rw [if_neg a2, if_neg a2]
      by_cases a3 : tl = 1
      · rw [if_pos a3, if_pos a3]
        have := h5 (by omega)
        subst this
        exact ⟨rfl, rfl, rfl, rfl, fun h => absurd rfl h⟩
      · rw [if_neg a3, if_neg a3]
        refine ⟨rfl, rfl, rfl, rfl, fun h => ?_⟩
        exact h5 (fun e => by have h' : (if tl = 0 then (0 : Int) else tl - 1) ≠ 0 := h; rw [if_pos e] at h'; exact h' rfl)
theorem Alk.arm {s t : Md} (h : Alk s t) (n k : Int) : arE t n k = arE s n k ∧ Alk (arS s n k) (arS t n k) := by
  obtain ⟨sb, sg, sd, sl, sk⟩ := s
  obtain ⟨tb, tg, td, tl, tk⟩ := t
  obtain ⟨h1, h2, h3, h4, h5⟩ := h
  simp only at h1 h2 h3 h4 h5
  subst h1 h2 h3 h4
  refine ⟨by simp [arE], ?_⟩
  unfold arS
  simp only
  by_cases a1 : td = true
  · rw [if_pos a1, if_pos a1]; exact ⟨rfl, rfl, rfl, rfl, h5⟩
  · rw [if_neg a1, if_neg a1]
    by_cases a2 : n < 0 ∨ k < 0
    · rw [if_pos a2, if_pos a2]; exact ⟨rfl, rfl, rfl, rfl, h5⟩
    · rw [if_neg a2, if_neg a2]; exact ⟨rfl, rfl, rfl, rfl, fun _ => rfl⟩
theorem Alk.revive {s t : Md} (h : Alk s t) : Alk ⟨s.b, s.g, false, 0, 0⟩ ⟨t.b, t.g, false, 0, t.keep⟩ := ⟨h.b, h.g, rfl, rfl, fun h => absurd rfl h⟩
theorem Alk.over {s t : Md} (h : Alk s t) (a : Int) (l : List Nat) : owE t a l = owE s a l ∧ Alk (owS s a l) (owS t a l) := by
  refine ⟨by simp [owE, h.b], ?_⟩
  unfold owS
  rw [h.b]
  split
  · exact ⟨rfl, h.g, h.dead, h.left, h.keep⟩
  · exact h
theorem Alk.trunc {s t : Md} (h : Alk s t) (n : Int) : trE t n = trE s n ∧ Alk (trS s n) (trS t n) := by
  refine ⟨by simp [trE, h.b], ?_⟩
  unfold trS
  rw [h.b]
  split
  · exact h
  · exact ⟨rfl, h.g, h.dead, h.left, h.keep⟩
theorem Alk.forget {s t : Md} (h : Alk s t) : Alk { s with g := [] } { t with g := [] } := ⟨h.b, rfl, h.dead, h.left, h.keep⟩
theorem Alk.read {s t : Md} (h : Alk s t) (pa pl a n : Int) : rdE t pa pl a n = rdE s pa pl a n ∧ rdB t pa pl a n = rdB s pa pl a n ∧ Alk (rdS s pa pl a n) (rdS t pa pl a n) := by
  refine ⟨by simp [rdE, h.b, h.dead], by simp [rdB, h.b, h.dead], ?_⟩
  unfold rdS
  rw [h.b, h.dead]
  split
  · exact h
  · split
    · exact ⟨rfl, by simp only [h.g], rfl, h.left, h.keep⟩
    · exact h
end Go.Proofs.Ytiojcfffhcipnaa
