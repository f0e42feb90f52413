import Derived.Test.YtodlkpcbkilglaaDoorRows
import Derived.WalkKit
import Derived.WalkSpells
import Derived.WalkLawsBesides
import Derived.Maps.AppendAt
namespace Go.Proofs.YtodlkpcbkilglaaDoor.Bt
open Go.RowKit

/-- A byte as a value. -/
def byt (b : Nat) : Value := .int .u8 (b : Int)

/-- The world w' is w with new blocks and with writes to the blocks of l alone. -/
structure Kept (l : List Nat) (w w' : World) : Prop where
  os : w'.os = w.os
  tape : w'.tape = w.tape
  output : w'.output = w.output
  size : w.heap.size ≤ w'.heap.size
  block : ∀ k, k < w.heap.size → k ∉ l → w'.heap[k]? = w.heap[k]?

theorem Kept.refl (l : List Nat) (w : World) : Kept l w w := ⟨rfl, rfl, rfl, Nat.le_refl _, fun _ _ _ => rfl⟩

theorem Kept.trans {l : List Nat} {a b c : World} (h : Kept l a b) (k : Kept l b c) : Kept l a c :=
  ⟨k.os.trans h.os, k.tape.trans h.tape, k.output.trans h.output, Nat.le_trans h.size k.size,
    fun i hi hl => (k.block i (Nat.lt_of_lt_of_le hi h.size) hl).trans (h.block i hi hl)⟩

/-- What a second step writes must lie in l, or be new to the first world. -/
theorem Kept.step {l l2 : List Nat} {a b c : World} (h : Kept l a b) (k : Kept l2 b c) (hs : ∀ x, x ∈ l2 → x ∈ l ∨ a.heap.size ≤ x) : Kept l a c :=
  ⟨k.os.trans h.os, k.tape.trans h.tape, k.output.trans h.output, Nat.le_trans h.size k.size,
    fun i hi hl => (k.block i (Nat.lt_of_lt_of_le hi h.size) (fun hm => by rcases hs i hm with h1 | h1; exact hl h1; omega)).trans (h.block i hi hl)⟩

theorem Kept.mono {l l2 : List Nat} {a b : World} (h : Kept l a b) (hs : ∀ x, x ∈ l → x ∈ l2 ∨ a.heap.size ≤ x) : Kept l2 a b :=
  ⟨h.os, h.tape, h.output, h.size, fun i hi hl => h.block i hi (fun hm => by rcases hs i hm with h1 | h1; exact hl h1; omega)⟩

theorem Kept.drew {l : List Nat} {a w : World} (h : Kept l a w) : Kept l a w.drew := ⟨h.os, h.tape, h.output, h.size, h.block⟩
theorem Kept.undrew {l : List Nat} {a w : World} (h : Kept l a.drew w) : Kept l a w := ⟨h.os, h.tape, h.output, h.size, h.block⟩
theorem Kept.drewN {l : List Nat} {a w : World} (h : Kept l a w) (n : Nat) : Kept l a (w.drewN n) := by
  induction n with
  | zero => exact h
  | succ n ih => exact ih.drew

theorem Kept.alloc {l : List Nat} {a w : World} (h : Kept l a w) (o : Obj) : Kept l a (w.alloc o) :=
  h.step (l2 := []) ⟨rfl, rfl, rfl, by simp, fun k hk _ => Below.heap_alloc _ _ _ hk⟩ (fun x hx => by simp at hx)

theorem Kept.setCell {l : List Nat} {a w : World} (h : Kept l a w) {p : Addr} (hp : p.block ∈ l ∨ a.heap.size ≤ p.block) (u : Value) : Kept l a (w.setCell p u) :=
  h.step (l2 := [p.block]) ⟨rfl, rfl, rfl, by simp [World.setCell], fun k _ hm => Below.heap_setCell _ _ _ _ (by simpa using hm)⟩ (fun x hx => by simp at hx; subst hx; exact hp)

theorem Kept.of_grown {w w' : World} {row : Option Nat} (h : w.grownBy w' row) : Kept row.toList w w' :=
  ⟨h.os, h.tape, h.output, h.size, fun k hk hl => h.block k hk (fun e => hl (by rw [← e]; simp))⟩

theorem Kept.below {l : List Nat} {w w' : World} {B : Nat} (h : Kept l w w') (hB : B ≤ w.heap.size) (hl : ∀ x ∈ l, B ≤ x) : Below B w w' :=
  ⟨h.os, h.tape, h.output, h.size, fun k hk => h.block k (by omega) (fun hm => by have := hl k hm; omega)⟩

theorem Kept.of_below {w w' : World} (h : Below w.heap.size w w') : Kept [] w w' := ⟨h.os, h.tape, h.output, h.size, fun k hk _ => h.block k hk⟩

theorem Kept.heap {l : List Nat} {w w' : World} (h : Kept l w w') {k : Nat} {o : Obj} (hk : w.heap[k]? = some o) (hl : k ∉ l) : w'.heap[k]? = some o := by
  rw [h.block k (Array.getElem?_eq_some_iff.1 hk).1 hl]; exact hk

theorem Kept.row {l : List Nat} {w w' : World} (h : Kept l w w') {base : Nat} {e : TypeId} {size : Nat} {v : Value} {n : Nat} {xs : List Value}
    (ho : w.ownsRow base e size v n xs) (hne : ∀ g, v.ownBlock = some g → g ∉ l) : w'.ownsRow base e size v n xs := by
  refine ⟨ho.1, ?_⟩
  rcases ho.2 with hn | ⟨g, cap, cur, rfl, hb, hgg, rest⟩
  · exact .inl hn
  · exact .inr ⟨g, cap, cur, rfl, hb, h.heap hgg (hne g rfl), rest⟩

/-- Where a slice that was appended to lies: as before, or in new memory. -/
def Lies (w : World) (v v' : Value) : Prop := v'.ownBlock = v.ownBlock ∨ ∃ g, v'.ownBlock = some g ∧ w.heap.size ≤ g

theorem Lies.refl (w : World) (v : Value) : Lies w v v := .inl rfl
theorem Lies.trans {w w1 : World} {v v1 v2 : Value} (h : Lies w v v1) (h2 : Lies w1 v1 v2) (hs : w.heap.size ≤ w1.heap.size) : Lies w v v2 := by
  rcases h2 with h2 | ⟨g, hg, hl⟩
  · rcases h with h | ⟨g, hg, hl⟩
    · exact .inl (h2.trans h)
    · exact .inr ⟨g, h2.trans hg, hl⟩
  · exact .inr ⟨g, hg, by omega⟩
theorem Lies.mem {w : World} {v v' : Value} (h : Lies w v v') : ∀ x, x ∈ v'.ownBlock.toList → x ∈ v.ownBlock.toList ∨ w.heap.size ≤ x := by
  intro x hx
  rcases h with h | ⟨g, hg, hl⟩
  · rw [h] at hx; exact .inl hx
  · rw [hg] at hx; simp at hx; subst hx; exact .inr hl

theorem Tryd.info5 : (Tryd.prog.info? 5).map (fun i => (i.zero, i.size, i.bytes)) = some (some (.int .u8 0), 1, 1) := by kernel_rfl

end Go.Proofs.YtodlkpcbkilglaaDoor.Bt
