import Derived.Test.YtoghkbajdljheaaX6
namespace Go.Proofs.Ytoghkbajdljheaa
open Go.RowKit

/-- A thing in memory: what holds of it, and the blocks that it lies in. -/
structure Rsc where
  P : World → Prop
  F : List Nat
  lt : ∀ {w : World} {x : Nat}, P w → x ∈ F → x < w.heap.size
  keep : ∀ {w w' : World} {ks : List Nat}, P w → Kept ks w w' → (∀ x ∈ F, x ∉ ks) → P w'

/-- m things that lie apart, in memory that is new to W. -/
structure Sep (W w : World) (m : Nat) (R : Nat → Rsc) : Prop where
  old : Kept [] W w
  P : ∀ i, i < m → (R i).P w
  new : ∀ i, i < m → ∀ x ∈ (R i).F, W.heap.size ≤ x
  apart : ∀ i j, i < m → j < m → i ≠ j → ∀ x ∈ (R i).F, x ∉ (R j).F

theorem Sep.keep {W w w' : World} {m : Nat} {R : Nat → Rsc} (h : Sep W w m R) (hk : Kept [] w w') : Sep W w' m R :=
  ⟨h.old.trans hk, fun i hi => (R i).keep (h.P i hi) hk (by simp), h.new, h.apart⟩

/-- One of them is changed. -/
theorem Sep.step {W w w' : World} {m : Nat} {R : Nat → Rsc} {ks : List Nat} {r : Rsc} (h : Sep W w m R) (i : Nat) (hi : i < m) (hk : Kept ks w w') (hks : ∀ x ∈ ks, x ∈ (R i).F ∨ w.heap.size ≤ x) (hr : r.P w')
    (hF : ∀ x ∈ r.F, x ∈ (R i).F ∨ w.heap.size ≤ x) : Sep W w' m (upd R i r) := by
  have hs := h.old.size
  have hn : ∀ x, (x ∈ (R i).F ∨ w.heap.size ≤ x) → W.heap.size ≤ x := fun x hx => by
    rcases hx with hx | hx
    · exact h.new i hi x hx
    · omega
  have hfar : ∀ j, j < m → j ≠ i → ∀ x ∈ (R j).F, ¬ (x ∈ (R i).F ∨ w.heap.size ≤ x) := fun j hj hji x hx hx2 => by
    rcases hx2 with hx2 | hx2
    · exact h.apart j i hj hi hji x hx hx2
    · have := (R j).lt (h.P j hj) hx; omega
  refine ⟨h.old.step hk (fun x hx => .inr (hn x (hks x hx))), fun j hj => ?_, fun j hj x hx => ?_, fun j k hj hk' hjk x hx hx2 => ?_⟩
  · by_cases e : j = i
    · subst e; rw [upd_at]; exact hr
    · rw [upd_far _ _ _ _ e]
      exact (R j).keep (h.P j hj) hk (fun x hx hx2 => hfar j hj e x hx (hks x hx2))
  · by_cases e : j = i
    · subst e; rw [upd_at] at hx; exact hn x (hF x hx)
    · rw [upd_far _ _ _ _ e] at hx; exact h.new j hj x hx
  · by_cases e : j = i
    · subst e
      rw [upd_at] at hx
      rw [upd_far _ _ _ _ (Ne.symm hjk)] at hx2
      exact hfar k hk' (Ne.symm hjk) x hx2 (hF x hx)
    · rw [upd_far _ _ _ _ e] at hx
      by_cases e2 : k = i
      · subst e2
        rw [upd_at] at hx2
        exact hfar j hj e x hx (hF x hx2)
      · rw [upd_far _ _ _ _ e2] at hx2
        exact h.apart j k hj hk' hjk x hx hx2

/-- One more, in new memory. -/
theorem Sep.push {W w w' : World} {m : Nat} {R : Nat → Rsc} {r : Rsc} (h : Sep W w m R) (hk : Kept [] w w') (hr : r.P w') (hF : ∀ x ∈ r.F, w.heap.size ≤ x) : Sep W w' (m + 1) (upd R m r) := by
  have hs := h.old.size
  have h' := h.keep hk
  refine ⟨h'.old, fun j hj => ?_, fun j hj x hx => ?_, fun j k hj hk' hjk x hx hx2 => ?_⟩
  · by_cases e : j = m
    · subst e; rw [upd_at]; exact hr
    · rw [upd_far _ _ _ _ e]; exact h'.P j (by omega)
  · by_cases e : j = m
    · subst e; rw [upd_at] at hx; have := hF x hx; omega
    · rw [upd_far _ _ _ _ e] at hx; exact h.new j (by omega) x hx
  · by_cases e : j = m
    · subst e
      rw [upd_at] at hx
      rw [upd_far _ _ _ _ (Ne.symm hjk)] at hx2
      have := hF x hx
      have := (R k).lt (h.P k (by omega)) hx2
      omega
    · rw [upd_far _ _ _ _ e] at hx
      by_cases e2 : k = m
      · subst e2
        rw [upd_at] at hx2
        have := hF x hx2
        have := (R j).lt (h.P j (by omega)) hx
        omega
      · rw [upd_far _ _ _ _ e2] at hx2
        exact h.apart j k (by omega) (by omega) hjk x hx hx2

theorem Sep.less {W w : World} {m k : Nat} {R : Nat → Rsc} (h : Sep W w m R) (hk : k ≤ m) : Sep W w k R :=
  ⟨h.old, fun i hi => h.P i (by omega), fun i hi => h.new i (by omega), fun i j hi hj => h.apart i j (by omega) (by omega)⟩

theorem Sep.congr {W w : World} {m : Nat} {R R' : Nat → Rsc} (h : Sep W w m R) (he : ∀ i, i < m → R' i = R i) : Sep W w m R' :=
  ⟨h.old, fun i hi => by rw [he i hi]; exact h.P i hi, fun i hi => by rw [he i hi]; exact h.new i hi, fun i j hi hj => by rw [he i hi, he j hj]; exact h.apart i j hi hj⟩

/-- A row is an old one, or new. -/
theorem ownsRow_lt {w : World} {e : TypeId} {v : Value} {n x : Nat} {xs : List Value} (h : w.ownsRow 0 e 1 v n xs) (hx : v.ownBlock = some x) : x < w.heap.size := (h.lt x hx).2

def wtr (B : Nat) (V : Value) (N len : Nat) : Rsc where
  P := fun w => WriterAt w B V N len
  F := B :: V.ownBlock.toList
  lt := fun {w x} h hx => by
    simp only [List.mem_cons, mem_own] at hx
    rcases hx with rfl | hx
    · exact lt_of_block h.1
    · exact ownsRow_lt h.2 hx
  keep := fun {w w' ks} h hk hF => ⟨hk.heap h.1 (hF _ (by simp)), hk.row h.2 (fun g hg => hF _ (List.mem_cons_of_mem _ (mem_own.2 hg)))⟩

def rfw (B : Nat) (V : Value) (bs : List Nat) : Rsc where
  P := fun w => RefW w B V bs
  F := B :: V.ownBlock.toList
  lt := fun {w x} h hx => by
    simp only [List.mem_cons, mem_own] at hx
    rcases hx with rfl | hx
    · exact lt_of_block h.1
    · exact ownsRow_lt h.2 hx
  keep := fun {w w' ks} h hk hF => refw_kept h hk (hF _ (by simp)) (fun g hg => hF _ (List.mem_cons_of_mem _ (mem_own.2 hg)))

def rdr (B g : Nat) (l : List Nat) (t : Nat) : Rsc where
  P := fun w => ReaderAt w B g l t
  F := [B, g]
  lt := fun {w x} h hx => by
    simp only [List.mem_cons, List.not_mem_nil, or_false] at hx
    rcases hx with rfl | rfl
    · exact lt_of_block h.1
    · exact lt_of_block h.2.1
  keep := fun {w w' ks} h hk hF => reader_kept h hk (hF _ (by simp)) (hF _ (by simp))

def rfr (B : Nat) (V : Value) (l : List Nat) (t : Nat) : Rsc where
  P := fun w => RefR w B V l t
  F := B :: V.ownBlock.toList
  lt := fun {w x} h hx => by
    simp only [List.mem_cons, mem_own] at hx
    rcases hx with rfl | hx
    · exact lt_of_block h.1
    · exact ownsRow_lt h.2 hx
  keep := fun {w w' ks} h hk hF => refr_kept h hk (hF _ (by simp)) (fun g hg => hF _ (List.mem_cons_of_mem _ (mem_own.2 hg)))

/-- A block that is known whole. -/
def obj (O : Nat) (o : Obj) : Rsc where
  P := fun w => w.heap[O]? = some o
  F := [O]
  lt := fun {w x} h hx => by simp at hx; subst hx; exact (Array.getElem?_eq_some_iff.1 h).1
  keep := fun {w w' ks} h hk hF => hk.heap h (hF _ (by simp))

def bookF (A n : Nat) (vl vw : Value) (V U : Nat → Value) : List Nat := A :: (vl.ownBlock.toList ++ vw.ownBlock.toList ++ blk V n ++ blk U n)

theorem mem_bookF {A n x : Nat} {vl vw : Value} {V U : Nat → Value} : x ∈ bookF A n vl vw V U ↔ x = A ∨ vl.ownBlock = some x ∨ vw.ownBlock = some x ∨ (∃ i, i < n ∧ (V i).ownBlock = some x) ∨ ∃ i, i < n ∧ (U i).ownBlock = some x := by
  simp only [bookF, List.mem_cons, List.mem_append, mem_own, mem_blk, or_assoc]

def bok (A : Nat) (p : Nat → Value) (n : Nat) (vl vw : Value) (V U : Nat → Value) (ls : Nat → List Nat) : Rsc where
  P := fun w => Wd.Bks w A p n vl vw V U ls
  F := bookF A n vl vw V U
  lt := fun {w x} h hx => by
    rw [mem_bookF] at hx
    rcases hx with rfl | hx | hx | ⟨i, hi, hx⟩ | ⟨i, hi, hx⟩
    · exact lt_of_block h.box
    · exact ownsRow_lt h.l hx
    · exact ownsRow_lt h.was hx
    · exact (h.v i hi).lt x hx
    · exact ownsRow_lt (h.u i hi) hx
  keep := fun {w w' ks} h hk hF => by
    simp only [mem_bookF] at hF
    exact ⟨hk.heap h.box (hF _ (.inl rfl)), hk.row h.l (fun g hg => hF _ (.inr (.inl hg))), hk.row h.was (fun g hg => hF _ (.inr (.inr (.inl hg)))), h.zero, h.sep,
      fun i hi => (h.v i hi).kept hk (fun g hg => hF _ (.inr (.inr (.inr (.inl ⟨i, hi, hg⟩))))), fun i hi => hk.row (h.u i hi) (fun g hg => hF _ (.inr (.inr (.inr (.inr ⟨i, hi, hg⟩))))), h.apart⟩

theorem lies_F {w : World} {B : Nat} {V V' : Value} (h : Lies w V V') : ∀ x ∈ B :: V'.ownBlock.toList, x ∈ B :: V.ownBlock.toList ∨ w.heap.size ≤ x := by
  intro x hx
  rcases List.mem_cons.1 hx with rfl | hx
  · exact .inl (by simp)
  · rcases h.mem x hx with h | h
    · exact .inl (List.mem_cons_of_mem _ h)
    · exact .inr h

end Go.Proofs.Ytoghkbajdljheaa
