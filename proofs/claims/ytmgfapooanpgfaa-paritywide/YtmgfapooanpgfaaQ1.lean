import Derived.Test.YtmgfapooanpgfaaG4
import Derived.Test.YtmgfapooanpgfaaN2b
import Derived.ArgAppend
namespace Go.Proofs.Ytmgfapooanpgfaa
open Go.RowKit

/-- Rows' values. -/
def sl (bs : Nat → Nat) (wd k : Nat) : List Value := (List.range k).map fun i => .slice (some ⟨bs i, 0, none⟩) wd wd
theorem sl_length (bs : Nat → Nat) (wd k : Nat) : (sl bs wd k).length = k := by simp [sl]
theorem sl_at (bs : Nat → Nat) (wd k i : Nat) (h : i < k) : (sl bs wd k)[i]? = some (.slice (some ⟨bs i, 0, none⟩) wd wd) := by simp [sl, h]
theorem sl_next (bs : Nat → Nat) (wd k b : Nat) : sl bs wd k ++ [.slice (some ⟨b, 0, none⟩) wd wd] = sl (nx bs k b) wd (k + 1) := by
  unfold sl
  rw [List.range_succ, List.map_append]
  congr 1
  · apply List.map_congr_left
    intro i hi
    have : i < k := by simpa using hi
    rw [show nx bs k b i = bs i from if_neg (by omega)]
  · simp [nx]

/-- A list of rows that grows, from the block B on. -/
structure Gl (B : Nat) (w : World) (V : Value) (k : Nat) (bs : Nat → Nat) (wd : Nat) (F : Nat → Nat → Nat) : Prop where
  own : w.ownsRow B 40 1 V k (sl bs wd k)
  row : ∀ i, i < k → Row w (bs i) (rg (F i) wd)
  mon : ∀ i j, i < j → j < k → bs i < bs j
  lo : ∀ i, i < k → B ≤ bs i

theorem Gl.start (B : Nat) (w : World) (bs : Nat → Nat) (wd : Nat) (F : Nat → Nat → Nat) : Gl B w (.slice none 0 0) 0 bs wd F :=
  ⟨⟨rfl, .inl ⟨rfl, rfl⟩⟩, fun i h => by omega, fun i j h1 h2 => by omega, fun i h => by omega⟩

theorem own_row {w : World} {B n b : Nat} {V : Value} {xs : List Value} {l : List Nat} (h : w.ownsRow B 40 1 V n xs) (hr : Row w b l) : V.ownBlock ≠ some b := by
  intro e
  rcases h.2 with ⟨rfl, _⟩ | ⟨g, cap, cur, rfl, _, hg, _⟩
  · simp [Value.ownBlock] at e
  · simp [Value.ownBlock] at e
    subst e
    unfold Row at hr
    rw [hg] at hr
    simp at hr

theorem mem_own {v : Value} {x : Nat} : x ∈ v.ownBlock.toList ↔ v.ownBlock = some x := by
  cases h : v.ownBlock <;> simp
  exact ⟨fun e => e.symm, fun e => e.symm⟩

theorem own_lo {w : World} {B n : Nat} {V : Value} {xs : List Value} (h : w.ownsRow B 40 1 V n xs) : ∀ x ∈ V.ownBlock.toList, B ≤ x := by
  intro x hx
  rw [mem_own] at hx
  rcases h.2 with ⟨rfl, _⟩ | ⟨g, cap, cur, rfl, hb, _⟩
  · simp [Value.ownBlock] at hx
  · simp [Value.ownBlock] at hx
    subst hx; exact hb

theorem Gl.keep {B : Nat} {w w' : World} {V : Value} {k : Nat} {bs : Nat → Nat} {wd : Nat} {F : Nat → Nat → Nat} {ks : List Nat} (h : Gl B w V k bs wd F) (hk : Kept ks w w') (h1 : ∀ g, V.ownBlock = some g → g ∉ ks) (h2 : ∀ i, i < k → bs i ∉ ks) : Gl B w' V k bs wd F :=
  ⟨hk.row h.own h1, fun i hi => (h.row i hi).keep hk (h2 i hi), h.mon, h.lo⟩
theorem Gl.keep0 {B : Nat} {w w' : World} {V : Value} {k : Nat} {bs : Nat → Nat} {wd : Nat} {F : Nat → Nat → Nat} (h : Gl B w V k bs wd F) (hk : Kept [] w w') : Gl B w' V k bs wd F := h.keep hk (by simp) (by simp)

/-- One row more. -/
theorem Gl.step {B : Nat} {w w' : World} {V V' : Value} {k b : Nat} {bs : Nat → Nat} {wd : Nat} {F : Nat → Nat → Nat} (h : Gl B w V k bs wd F) (hr : Row w b (rg (F k) wd)) (hb : ∀ i, i < k → bs i < b) (hB : B ≤ b)
    (ho : w'.ownsRow B 40 1 V' (k + 1) (sl bs wd k ++ [.slice (some ⟨b, 0, none⟩) wd wd])) (hk : Kept V.ownBlock.toList w w') : Gl B w' V' (k + 1) (nx bs k b) wd F := by
  refine ⟨by rw [← sl_next]; exact ho, fun i hi => ?_, fun i j h1 h2 => ?_, fun i hi => ?_⟩
  · by_cases e : i = k
    · subst e
      rw [show nx bs i b i = b from if_pos rfl]
      exact hr.keep hk (by rw [mem_own]; exact own_row h.own hr)
    · rw [show nx bs k b i = bs i from if_neg e]
      have := h.row i (by omega)
      exact this.keep hk (by rw [mem_own]; exact own_row h.own this)
  · rw [show nx bs k b i = bs i from if_neg (by omega)]
    by_cases e : j = k
    · subst e; rw [show nx bs j b j = b from if_pos rfl]; exact hb i h1
    · rw [show nx bs k b j = bs j from if_neg e]; exact h.mon i j h1 (by omega)
  · by_cases e : i = k
    · subst e; rw [show nx bs i b i = b from if_pos rfl]; exact hB
    · rw [show nx bs k b i = bs i from if_neg e]; exact h.lo i (by omega)

theorem Gl.congr {B : Nat} {w : World} {V : Value} {k : Nat} {bs : Nat → Nat} {wd : Nat} {F G : Nat → Nat → Nat} (h : Gl B w V k bs wd F) (hF : ∀ i, i < k → ∀ j, j < wd → G i j = F i j) : Gl B w V k bs wd G :=
  ⟨h.own, fun i hi => by rw [rg_congr (hF i hi)]; exact h.row i hi, h.mon, h.lo⟩

/-- It is a matrix in memory of its own. -/
theorem Gl.mt {B : Nat} {w : World} {V : Value} {k : Nat} {bs : Nat → Nat} {wd : Nat} {F : Nat → Nat → Nat} (h : Gl B w V k bs wd F) (hk : 0 < k) : ∃ g cap, V = .slice (some ⟨g, 0, none⟩) k cap ∧ Mt w g k bs wd F ∧ B ≤ g := by
  rcases h.own.2 with ⟨_, h0⟩ | ⟨g, cap, cur, rfl, hb, hg, _⟩
  · omega
  · refine ⟨g, cap, rfl, ⟨fun i hi => ?_, fun i _ => ?_, h.row, fun i hi e => ?_, fun i j hi hj e => ?_⟩, hb⟩
    · have hc := h.own.cells (g := g) rfl i _ (sl_at bs wd k i hi)
      have hadd : (⟨g, 0, none⟩ : Addr).add i = ⟨g, 0 + i, none⟩ := by unfold Addr.add; split <;> simp_all
      rw [hadd, Nat.zero_add] at hc
      exact hc
    · simp [World.frozen?, hg]
    · exact own_row h.own (h.row i hi) (by simp [Value.ownBlock, e])
    · rcases Nat.lt_trichotomy i j with h1 | h1 | h1
      · have := h.mon i j h1 hj; omega
      · exact h1
      · have := h.mon j i h1 hi; omega
theorem Gl.val {B : Nat} {w : World} {V : Value} {k : Nat} {bs : Nat → Nat} {wd : Nat} {F : Nat → Nat → Nat} (h : Gl B w V k bs wd F) : ∃ ao cap, V = .slice ao k cap ∧ MR w ao (mf F k wd) := by
  by_cases hk : 0 < k
  · obtain ⟨g, cap, hV, hm, _⟩ := h.mt hk
    exact ⟨_, cap, hV, hm.reads⟩
  · have hk0 : k = 0 := by omega
    subst hk0
    rcases h.own.2 with ⟨h1, _⟩ | ⟨g, cap, cur, h1, _⟩
    · exact ⟨none, 0, h1, .inl rfl⟩
    · exact ⟨_, cap, h1, .inl rfl⟩
theorem Gl.below {B : Nat} {w w' : World} {V : Value} {k : Nat} {bs : Nat → Nat} {wd : Nat} {F : Nat → Nat → Nat} (h : Gl B w V k bs wd F) (hB : B ≤ w.heap.size) (hk : Kept V.ownBlock.toList w w') : Below B w w' := hk.below hB (own_lo h.own)
end Go.Proofs.Ytmgfapooanpgfaa
