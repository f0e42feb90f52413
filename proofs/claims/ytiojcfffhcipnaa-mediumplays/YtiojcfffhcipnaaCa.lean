import Derived.Test.YtiojcfffhcipnaaBh
namespace Go.Proofs.Ytiojcfffhcipnaa
open Go.RowKit

/-- What a Book has. -/
structure Bk where
  A : Nat
  l : Value
  s : Value
  o : Value
  t : Value
  k : Value
  u : Value
  ks : Value
  us : Value
  n : Nat
  p : Nat
  q : Nat
  r : Nat
  f : Nat → Hd
  g : Nat → Hd
  fo : Nat → Hd
  ft : Nat → Hd
  kb : List Nat
  kl : List (Int × Int)

def vb (v : Value) : List Nat := v.ownBlock.toList
/-- Its blocks. -/
def Bk.F (b : Bk) : List Nat := b.A :: (vb b.l ++ vb b.s ++ vb b.o ++ vb b.t ++ vb b.k ++ vb b.u ++ vb b.ks ++ vb b.us ++ blks b.f b.n ++ blks b.g b.q ++ blks b.fo b.p ++ blks b.ft b.r)

/-- Its lists of bytes, or of spans, lie apart: the holds f, what came out fo, and the two that are kept. -/
structure Apt (n p : Nat) (f fo : Nat → Hd) (k u : Value) : Prop where
  d1 : ∀ i j, i < p → j < n → ∀ x ∈ blk (fo i), x ∉ blk (f j)
  d2 : ∀ i j, i < p → j < p → i ≠ j → ∀ x ∈ blk (fo i), x ∉ blk (fo j)
  e1 : ∀ i, i < p → ∀ x ∈ blk (fo i), x ∉ vb k ∧ x ∉ vb u
  e2 : ∀ j, j < n → ∀ x ∈ blk (f j), x ∉ vb k ∧ x ∉ vb u
  e3 : ∀ x ∈ vb k, x ∉ vb u

structure BkAt (w : World) (b : Bk) : Prop where
  bx : Bx w b.A b.l b.s b.o b.t b.k b.u b.ks b.us
  hH : Hs w b.l b.n b.f
  hS : Ss w b.s b.q b.g
  hO : w.ownsRow 0 29 1 b.o b.p (ocs b.fo b.p)
  hOr : ∀ i, i < b.p → ∃ xs, w.ownsRow 0 5 1 (sl (b.fo i)) (b.fo i).l xs
  hT : w.ownsRow 0 30 1 b.t b.r (ocs b.ft b.r)
  hTr : ∀ i, i < b.r → ∃ xs, w.ownsRow 0 63 2 (sl (b.ft i)) (b.ft i).l xs
  hk : w.ownsRow 0 5 1 b.k b.kb.length (b.kb.map byt)
  hu : w.ownsRow 0 5 1 b.u b.kb.length (b.kb.map byt)
  hks : w.ownsRow 0 63 2 b.ks b.kl.length (spc b.kl)
  hus : w.ownsRow 0 63 2 b.us b.kl.length (spc b.kl)
  ap : Apt b.n b.p b.f b.fo b.k b.u
  as_ : Apt b.q b.r b.g b.ft b.ks b.us

/-- Its numbers may be. -/
structure BkOk (b : Bk) : Prop where
  hn : b.n ≤ 6000000000000
  hp : b.p ≤ 8
  hq : b.q ≤ 6000000000000
  hr : b.r ≤ 8
  lf : ∀ i, i < b.n → (b.f i).l ≤ 1000000000
  lg : ∀ i, i < b.q → (b.g i).l ≤ 6100000000000
  lo : ∀ i, i < b.p → (b.fo i).l ≤ 999999000
  lt : ∀ i, i < b.r → (b.ft i).l ≤ 6000000000000
  kb : b.kb.length ≤ 268435456
  kl : b.kl.length ≤ 6000000000000

theorem blks_mem {f : Nat → Hd} {n x : Nat} : x ∈ blks f n ↔ ∃ i, i < n ∧ x ∈ blk (f i) := by
  unfold blks
  rw [List.mem_flatMap]
  exact ⟨fun ⟨i, hi, hx⟩ => ⟨i, List.mem_range.1 hi, hx⟩, fun ⟨i, hi, hx⟩ => ⟨i, List.mem_range.2 hi, hx⟩⟩

theorem BkAt.lt {w : World} {b : Bk} (h : BkAt w b) : ∀ x ∈ b.F, x < w.heap.size := by
  intro x hx
  simp only [Bk.F, List.mem_cons, List.mem_append, vb, blks_mem] at hx
  rcases hx with rfl | ((((((((((( hx | hx ) | hx ) | hx ) | hx ) | hx ) | hx ) | hx ) | ⟨i, hi, hx⟩ ) | ⟨i, hi, hx⟩ ) | ⟨i, hi, hx⟩ ) | ⟨i, hi, hx⟩ )
  · exact (Array.getElem?_eq_some_iff.1 h.bx).1
  · exact own_lt h.hH.own x hx
  · exact own_lt h.hS.own x hx
  · exact own_lt h.hO x hx
  · exact own_lt h.hT x hx
  · exact own_lt h.hk x hx
  · exact own_lt h.hu x hx
  · exact own_lt h.hks x hx
  · exact own_lt h.hus x hx
  · exact own_lt (h.hH.each i hi) x hx
  · exact own_lt (h.hS.each i hi) x hx
  · obtain ⟨xs, h1⟩ := h.hOr i hi; exact own_lt h1 x hx
  · obtain ⟨xs, h1⟩ := h.hTr i hi; exact own_lt h1 x hx

theorem BkAt.keep {w w' : World} {b : Bk} {ks : List Nat} (h : BkAt w b) (hk : Kept ks w w') (hn : ∀ x ∈ b.F, x ∉ ks) : BkAt w' b := by
  have hn2 : ∀ x, (x = b.A ∨ x ∈ vb b.l ∨ x ∈ vb b.s ∨ x ∈ vb b.o ∨ x ∈ vb b.t ∨ x ∈ vb b.k ∨ x ∈ vb b.u ∨ x ∈ vb b.ks ∨ x ∈ vb b.us ∨ x ∈ blks b.f b.n ∨ x ∈ blks b.g b.q ∨ x ∈ blks b.fo b.p ∨ x ∈ blks b.ft b.r) → x ∉ ks := fun x hx => hn x (by
    simp only [Bk.F, List.mem_cons, List.mem_append]
    rcases hx with h | h | h | h | h | h | h | h | h | h | h | h | h <;> simp [h])
  have m : ∀ {v : Value} {g : Nat}, v.ownBlock = some g → g ∈ vb v := fun h => by simp [vb, h]
  refine ⟨h.bx.kept hk (hn2 _ (by simp)), ⟨hk.row h.hH.own (fun g hg => hn2 g (by simp [m hg])), fun i hi => hk.row (h.hH.each i hi) (fun g hg => hn2 g (by have := mem_blks hi (m hg : g ∈ blk (b.f i)); simp [this]))⟩, ⟨hk.row h.hS.own (fun g hg => hn2 g (by simp [m hg])), fun i hi => hk.row (h.hS.each i hi) (fun g hg => hn2 g (by have := mem_blks hi (m hg : g ∈ blk (b.g i)); simp [this]))⟩,
    hk.row h.hO (fun g hg => hn2 g (by simp [m hg])), fun i hi => ?_, hk.row h.hT (fun g hg => hn2 g (by simp [m hg])), fun i hi => ?_, hk.row h.hk (fun g hg => hn2 g (by simp [m hg])), hk.row h.hu (fun g hg => hn2 g (by simp [m hg])), hk.row h.hks (fun g hg => hn2 g (by simp [m hg])), hk.row h.hus (fun g hg => hn2 g (by simp [m hg])), h.ap, h.as_⟩
  · obtain ⟨xs, h1⟩ := h.hOr i hi
    exact ⟨xs, hk.row h1 (fun g hg => hn2 g (by have := mem_blks hi (m hg : g ∈ blk (b.fo i)); simp [this]))⟩
  · obtain ⟨xs, h1⟩ := h.hTr i hi
    exact ⟨xs, hk.row h1 (fun g hg => hn2 g (by have := mem_blks hi (m hg : g ∈ blk (b.ft i)); simp [this]))⟩

/-- The Book as a thing. -/
def bkR (b : Bk) : Rsc where
  P := fun w => BkAt w b
  F := b.F
  lt := fun {_ x} h hx => h.lt x hx
  keep := fun {_ _ _} h hk hF => h.keep hk hF
end Go.Proofs.Ytiojcfffhcipnaa
