import Derived.Test.YtmgfapooanpgfaaH1
namespace Go.Proofs.Ytmgfapooanpgfaa
open Go.RowKit

theorem Reads.take {w : World} {ao : Option Addr} {l : List Nat} (h : Reads w ao l) (n : Nat) : Reads w ao (l.take n) := by
  rcases h with rfl | ⟨g, off, rfl, hc⟩
  · exact .inl (by simp)
  · refine .inr ⟨g, off, rfl, fun i hi => ?_⟩
    have hi2 : i < n ∧ i < l.length := by simp at hi; omega
    rw [hc i hi2.2]
    simp [hi2.1, hi2.2]
theorem Byts.take {l : List Nat} (h : Byts l) (n : Nat) : Byts (l.take n) := fun b hb => h b (List.mem_of_mem_take hb)
theorem Byts.app {l k : List Nat} (h : Byts l) (h2 : Byts k) : Byts (l ++ k) := fun b hb => (List.mem_append.1 hb).elim (h b) (h2 b)
theorem Byts.left {l k : List Nat} (h : Byts (l ++ k)) : Byts l := fun b hb => h b (List.mem_append.2 (.inl hb))
theorem heap_row {w : World} {N : Nat} {l : List Nat} (h : w.heap[N]? = some (.cells (l.map byt).toArray 5 (0, 0))) : Reads w (some ⟨N, 0, none⟩) l := by
  refine .inr ⟨N, 0, rfl, fun i hi => ?_⟩
  rw [cell_of_row _ _ _ _ _ _ h]
  simp [hi]
theorem heap_left {w : World} {N : Nat} {l k : List Nat} (h : w.heap[N]? = some (.cells ((l ++ k).map byt).toArray 5 (0, 0))) : Reads w (some ⟨N, 0, none⟩) l := by
  have h1 := (heap_row h).take l.length
  rwa [List.take_left'] at h1
  rfl
theorem Reads.lt {w : World} {ao : Option Addr} {l : List Nat} (h : Reads w ao l) (hp : 0 < l.length) : ∀ b off, ao = some ⟨b, off, none⟩ → b < w.heap.size := by
  rcases h with rfl | ⟨g, off, rfl, hc⟩
  · simp at hp
  · intro b off2 e
    cases e
    exact World.block_lt_of_cell? w _ (hc 0 hp)
theorem Reads.stay {w w' : World} {ao : Option Addr} {l ks : List Nat} (h : Reads w ao l) (hk : Kept ks w w') (hn : 0 < l.length → ∀ g off, ao = some ⟨g, off, none⟩ → g ∉ ks) : Reads w' ao l := by
  by_cases h0 : 0 < l.length
  · exact h.kept hk (hn h0)
  · exact .inl (List.eq_nil_of_length_eq_zero (by omega))
/-- What the owner writes over a list. -/
def x90 (l : List Nat) : List Nat := l.map (· ^^^ 90)
theorem x90_length (l : List Nat) : (x90 l).length = l.length := by simp [x90]
theorem x90_app (l k : List Nat) : (l ++ k).map (· ^^^ 90) = x90 l ++ x90 k := by simp [x90]
theorem x90_byts {l : List Nat} (h : Byts l) : Byts (x90 l) := by
  intro b hb
  simp only [x90, List.mem_map] at hb
  obtain ⟨y, hy, rfl⟩ := hb
  exact xor_lt (h y hy) (by decide)
end Go.Proofs.Ytmgfapooanpgfaa
