import Derived.Test.YtodlkpcbkilglaaDoorbB
namespace Go.Proofs.YtodlkpcbkilglaaDoor.Bt
open Go.RowKit

theorem Reads.kept {w w' : World} {ao : Option Addr} {l : List Nat} {ks : List Nat} (h : Reads w ao l) (hk : Kept ks w w') (hn : ∀ g off, ao = some ⟨g, off, none⟩ → g ∉ ks) : Reads w' ao l := by
  rcases h with h | ⟨g, off, rfl, hc⟩
  · exact .inl h
  · refine .inr ⟨g, off, rfl, fun i hi => ?_⟩
    have h1 := hc i hi
    have hlt := World.block_lt_of_cell? w _ h1
    exact (World.cell?_of_block (a := ⟨g, off + i, none⟩) (hk.block g hlt (hn g off rfl))).trans h1

theorem Reads.keep {w w' : World} {ao : Option Addr} {l : List Nat} (h : Reads w ao l) (hk : Kept [] w w') : Reads w' ao l := h.kept hk (by simp)

theorem reads_row {w : World} {ao : Option Addr} {base n cap : Nat} {l : List Nat} (h : w.ownsRow base 5 1 (.slice ao n cap) n (l.map byt)) : Reads w ao l := by
  rcases h.2 with ⟨h1, hn⟩ | ⟨g, cap', cur, h1, _⟩
  · left
    have := h.1
    simp at this
    apply List.eq_nil_of_length_eq_zero
    omega
  · right
    simp at h1
    obtain ⟨rfl, rfl⟩ := h1
    refine ⟨g, 0, rfl, fun i hi => ?_⟩
    have hc := h.cells (g := g) rfl i (byt (l.getD i 0)) (by simp [hi])
    have hadd : (⟨g, 0, none⟩ : Addr).add i = ⟨g, 0 + i, none⟩ := by unfold Addr.add; split <;> simp_all
    rw [hadd] at hc
    exact hc

theorem reads_str {w : World} {ao : Option Addr} {l : List Nat} (h : Reads w ao l) (cap : Nat) : Sem.run Tryd.prog (convert 37 9 (.slice ao l.length cap)) w = .ok (.string (bstr l)) w := by
  rcases h with rfl | ⟨g, off, rfl, hc⟩
  · rcases ao with _ | a
    · exact run_convert_bytes_nil w 37 5 Tryd.underlying37 Tryd.underlying5 0 cap 9 Tryd.underlying9
    · have hl : (loadCells a 0).run Tryd.prog w = .ok #[] w := by simpa using run_loadCells_list (P := Tryd.prog) w a [] (by simp)
      have h1 := run_convert_bytes_string (P := Tryd.prog) w 37 9 5 (some a) 0 cap Tryd.underlying37 Tryd.underlying5 Tryd.underlying9
      have h2 := run_bytesToString (P := Tryd.prog) w a 0 cap [] hl
      rw [h2] at h1
      exact h1
  · exact run_convert_bytes_arg w 37 5 Tryd.underlying37 Tryd.underlying5 g off l.length cap (l.map fun b : Nat => (b : Int)) (by simp) (fun i hi => by rw [hc i hi]; simp [byt, hi]) 9 Tryd.underlying9


end Go.Proofs.YtodlkpcbkilglaaDoor.Bt
