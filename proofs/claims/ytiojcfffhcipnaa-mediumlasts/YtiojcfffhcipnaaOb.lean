import Derived.Test.YtiojcfffhcipnaaMj
namespace Go.Proofs.Ytiojcfffhcipnaa
open Go.RowKit
open Go.MuLone

/-- A medium that is new to W. -/
structure Ow (W w : World) (P : Nat) (V L : Value) (s : Md) : Prop where
  med : Med w P V L s 0
  fr : Fr W.heap.size P V L
  old : Kept [] W w
section
variable {W w w' : World} {P : Nat} {V V' L L' : Value} {s s' : Md}
theorem Ow.p (h : Ow W w P V L s) (hm : Med w' P V L s' 0) (hk : Kept [P] w w') : Ow W w' P V L s' := ⟨hm, h.fr, h.fr.step h.old hk (inP _ _ _)⟩
theorem Ow.v (h : Ow W w P V L s) (hm : Med w' P V' L s' 0) (hk : Kept (P :: V.ownBlock.toList) w w') (hl : Lies w V V') : Ow W w' P V' L s' := ⟨hm, h.fr.v hl h.old.size, h.fr.step h.old hk (inV _ _ _)⟩
theorem Ow.l (h : Ow W w P V L s) (hm : Med w' P V L' s' 0) (hk : Kept (P :: L.ownBlock.toList) w w') (hl : Lies w L L') : Ow W w' P V L' s' := ⟨hm, h.fr.l hl h.old.size, h.fr.step h.old hk (inL _ _ _)⟩
theorem Ow.keep (h : Ow W w P V L s) (hk : Kept [] w w') : Ow W w' P V L s := ⟨h.med.keep hk, h.fr, h.old.trans hk⟩
end

theorem reads_zero {w : World} {T M : Nat} (k : Nat) (h : w.heap[T]? = some (.cells (List.replicate M (byt 0)).toArray 5 (0, 0))) (hk : k ≤ M) : Reads w (some ⟨T, 0, none⟩) (List.replicate k 0) := by
  refine .inr ⟨T, 0, rfl, fun i hi => ?_⟩
  have hi' : i < k := by simpa using hi
  have hm : i < M := by omega
  simp [World.cell?, h, hm, hi']
theorem byts_zero (k : Nat) : Byts (List.replicate k 0) := fun b hb => by
  have := List.eq_of_mem_replicate hb
  omega
theorem make_at (w : World) (M : Nat) (hM : (M : Int) = 268435457) : ∃ w', Sem.run Try.prog (Instr.makeSlice 29 (.int .i64 268435457) (.int .i64 268435457)) w = .ok (.slice (some ⟨w.heap.size, 0, none⟩) M M) w' ∧ w'.heap[w.heap.size]? = some (.cells (List.replicate M (byt 0)).toArray 5 (0, 0)) ∧ Kept [] w w' := by
  have := make_bytes M w (by omega)
  rw [hM] at this
  exact this
theorem reads_take {w : World} {so : Option Addr} {l : List Nat} (k : Nat) (h : Reads w so l) : Reads w so (l.take k) := by
  rcases h with h | ⟨g, off, h, hc⟩
  · exact .inl (by simp [h])
  · exact .inr ⟨g, off, h, fun i hi => by
      have hi' : i < k ∧ i < l.length := by simp at hi; omega
      rw [hc i hi'.2]
      simp [List.getElem?_take_of_lt hi'.1]⟩

/-- What is known of the bytes that the law goes by. -/
structure Small (w : World) (so : Option Addr) (m c : Nat) (l : List Nat) : Prop where
  rd : Reads w so l
  by_ : Byts l
  len : l.length = m
  cap : m ≤ c
  low : m ≤ 1000
  non : so = none → c = 0
  lt : l = [] ∨ ∀ g off, so = some ⟨g, off, none⟩ → g < w.heap.size
theorem Small.ne {w W : World} {so : Option Addr} {m c : Nat} {l : List Nat} (h : Small w so m c l) {P : Nat} (hP : W.heap.size ≤ P) (hW : w.heap.size ≤ W.heap.size) : l = [] ∨ ∀ g off, so = some ⟨g, off, none⟩ → g ≠ P := by
  rcases h.lt with h | h
  · exact .inl h
  · exact .inr (fun g off e => by have := h g off e; omega)
theorem reads_lt {w : World} {so : Option Addr} {l : List Nat} (hr : Reads w so l) : l = [] ∨ ∀ g off, so = some ⟨g, off, none⟩ → g < w.heap.size := by
  rcases hr with h | ⟨g, off, h, hc⟩
  · exact .inl h
  · by_cases h0 : l = []
    · exact .inl h0
    · refine .inr (fun g' off' e => ?_)
      rw [h] at e
      cases e
      exact World.block_lt_of_cell? w _ (hc 0 (by cases l <;> simp_all))

end Go.Proofs.Ytiojcfffhcipnaa
