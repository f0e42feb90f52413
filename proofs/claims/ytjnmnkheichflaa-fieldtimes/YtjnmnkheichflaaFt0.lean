import Derived.Test.YtjnmnkheichflaaGv
import Derived.Test.YtjnmnkheichflaaRT2
import Derived.Test.YtjnmnkheichflaaM4
namespace Go.Proofs.Ytjnmnkheichflaa
open Go.RowKit

/-- How many rows, how long, which error. -/
def tsN (L K : List (List Nat)) : Nat := if tsh L K then L.length else 0
def tsW (L K : List (List Nat)) : Nat := if tsh L K then rl K else 0
def tsE (L K : List (List Nat)) : Int := if tsh L K then 0 else 42
theorem tsN_le (L K : List (List Nat)) : tsN L K ≤ 256 := by
  unfold tsN
  split
  · rename_i h
    unfold tsh at h
    simp only [Bool.and_eq_true, decide_eq_true_eq] at h
    exact h.1.1.1
  · decide
theorem rl_le {K : List (List Nat)} {M : Nat} (h : ∀ i, i < K.length → (K.getD i []).length ≤ M) : rl K ≤ M := by
  unfold rl
  by_cases h0 : 0 < K.length
  · exact h 0 h0
  · have : K = [] := List.eq_nil_of_length_eq_zero (by omega)
    subst this
    exact Nat.zero_le _
theorem tsW_le {L K : List (List Nat)} {M : Nat} (h : rl K ≤ M) : tsW L K ≤ M := by
  unfold tsW
  split
  · exact h
  · exact Nat.zero_le _
theorem map_rows {L : List (List Nat)} {M : Nat} (h : ∀ i, i < L.length → (L.getD i []).length ≤ M) : ∀ i, i < (L.map x90).length → ((L.map x90).getD i []).length ≤ M := by
  intro i hi
  rw [List.length_map] at hi
  have e : (L.map x90).getD i [] = x90 (L.getD i []) := by simp [hi]
  rw [e, x90_length]
  exact h i hi
theorem map_bm {L : List (List Nat)} (h : Bm L) : Bm (L.map x90) := by
  intro r hr
  simp only [List.mem_map] at hr
  obtain ⟨y, hy, rfl⟩ := hr
  exact x90_byts (h y hy)

theorem times_u (ao bo : Option Addr) (ca cb nL nK : Nat) (L K : List (List Nat)) (w : World) (hL : MR w ao L) (hK : MR w bo K) (bL : Bm L) (bK : Bm K) (hl : L.length = nL) (hk : K.length = nK) (h1 : nL ≤ 140737488355328) (h2 : nK ≤ 140737488355328) (hrl : rl K ≤ 140737488355328) :
    Calls Try.prog 24 #[.slice ao nL ca, .slice bo nK cb] w fun e w' => ∃ a bs, e = .returned (.tuple #[.slice a (tsN L K) (tsN L K), .int .i64 (tsE L K)]) ∧ Mo w' w.heap.size a (tsN L K) bs (tsW L K) (tm L K) ∧ Kept [] w w' := by
  unfold tsN tsW tsE
  by_cases h : tsh L K = true
  · rw [if_pos h, if_pos h, if_pos h, hl]
    exact (times_ok ao bo ca cb nL nK L K w hL hK bL bK hl hk hrl h).mono fun e w' ⟨g, bs, he, hm, hg, hb, hk⟩ => ⟨some ⟨g, 0, none⟩, bs, he, ⟨fun h => (nomatch h), .inr ⟨g, rfl, hm, hg⟩, hb⟩, hk⟩
  · rw [if_neg h, if_neg h, if_neg h]
    exact (times_no ao bo ca cb nL nK L K w hL hK hl hk h1 h2 (by simpa using h)).mono fun e w' ⟨he, hk⟩ => ⟨none, fun _ => 0, he, Mo.nix _ _ _ _ _, hk⟩
theorem refTimes_u (ao bo : Option Addr) (ca cb nL nK : Nat) (L K : List (List Nat)) (w : World) (hL : MR w ao L) (hK : MR w bo K) (bL : Bm L) (bK : Bm K) (hl : L.length = nL) (hk : K.length = nK) (hrl : rl K ≤ 140737488355328) :
    Calls Try.prog 25 #[.slice ao nL ca, .slice bo nK cb] w fun e w' => ∃ a cap, e = .returned (.tuple #[.slice a (tsN L K) cap, .int .i64 (tsE L K)]) ∧ MR w' a (mf (tm L K) (tsN L K) (tsW L K)) ∧ Kept [] w w' := by
  unfold tsN tsW tsE
  by_cases h : tsh L K = true
  · rw [if_pos h, if_pos h, if_pos h, hl]
    exact (refTimes_ok ao bo ca cb nL nK L K w hL hK bL bK hl hk hrl h).mono fun e w' ⟨V, bs, he, hg, hk⟩ => by
      obtain ⟨a, cap, rfl, hr⟩ := hg.val
      exact ⟨a, cap, he, hr, hk⟩
  · rw [if_neg h, if_neg h, if_neg h]
    exact (refTimes_no ao bo ca cb nL nK L K w hL hK hl hk (by simpa using h)).mono fun e w' ⟨he, hk⟩ => ⟨none, 0, he, .inl rfl, hk⟩

theorem Mo.low {w : World} {S S2 : Nat} {ao : Option Addr} {n : Nat} {bs : Nat → Nat} {wd : Nat} {F : Nat → Nat → Nat} (h : Mo w S ao n bs wd F) (hS : S2 ≤ S) : Mo w S2 ao n bs wd F :=
  ⟨h.nil, h.mt.imp id (fun ⟨g, h1, h2, h3⟩ => ⟨g, h1, h2, by omega⟩), fun i hi => by have := h.lo i hi; omega⟩

/-- The example's rows. -/
theorem ex_ok : tsh [[1, 2]] [[3], [4]] = true := by decide
theorem ex_tm : rg (tm [[1, 2]] [[3], [4]] 0) 1 = [11] := by decide +kernel

theorem ex_times (w : World) :
    Calls Try.prog 24 #[.slice (some ⟨w.heap.size + 1, 0, none⟩) 1 1, .slice (some ⟨w.heap.size + 1 + 1 + 1 + 1, 0, none⟩) 2 2]
      (((((w.alloc (.cells #[.int .u8 1, .int .u8 2] 5)).alloc (.cells #[.slice (some ⟨w.heap.size, 0, none⟩) 2 2] 34)).alloc (.cells #[.int .u8 3] 5)).alloc (.cells #[.int .u8 4] 5)).alloc (.cells #[.slice (some ⟨w.heap.size + 1 + 1, 0, none⟩) 1 1, .slice (some ⟨w.heap.size + 1 + 1 + 1, 0, none⟩) 1 1] 34))
      fun e w' => ∃ g bs FO, e = .returned (.tuple #[.slice (some ⟨g, 0, none⟩) 1 1, .int .i64 0]) ∧ Mo w' w.heap.size (some ⟨g, 0, none⟩) 1 bs 1 FO ∧ rg (FO 0) 1 = [11] ∧ Kept [] w w' := by
  obtain ⟨s, es⟩ : ∃ s, s = w.heap.size := ⟨_, rfl⟩
  rw [← es]
  obtain ⟨a1, e1⟩ : ∃ x, x = w.alloc (.cells #[.int .u8 1, .int .u8 2] 5) := ⟨_, rfl⟩
  rw [← e1]
  obtain ⟨a2, e2⟩ : ∃ x, x = a1.alloc (.cells #[.slice (some ⟨s, 0, none⟩) 2 2] 34) := ⟨_, rfl⟩
  rw [← e2]
  obtain ⟨a3, e3⟩ : ∃ x, x = a2.alloc (.cells #[.int .u8 3] 5) := ⟨_, rfl⟩
  rw [← e3]
  obtain ⟨a4, e4⟩ : ∃ x, x = a3.alloc (.cells #[.int .u8 4] 5) := ⟨_, rfl⟩
  rw [← e4]
  obtain ⟨a5, e5⟩ : ∃ x, x = a4.alloc (.cells #[.slice (some ⟨s + 1 + 1, 0, none⟩) 1 1, .slice (some ⟨s + 1 + 1 + 1, 0, none⟩) 1 1] 34) := ⟨_, rfl⟩
  rw [← e5]
  have z1 : a1.heap.size = s + 1 := by rw [e1, World.size_alloc, ← es]
  have z2 : a2.heap.size = s + 1 + 1 := by rw [e2, World.size_alloc, z1]
  have z3 : a3.heap.size = s + 1 + 1 + 1 := by rw [e3, World.size_alloc, z2]
  have z4 : a4.heap.size = s + 1 + 1 + 1 + 1 := by rw [e4, World.size_alloc, z3]
  have k0 : Kept [] w a1 := by rw [e1]; exact (Kept.refl [] w).alloc _
  have k1 : Kept [] a1 a2 := by rw [e2]; exact (Kept.refl [] a1).alloc _
  have k2 : Kept [] a2 a3 := by rw [e3]; exact (Kept.refl [] a2).alloc _
  have k3 : Kept [] a3 a4 := by rw [e4]; exact (Kept.refl [] a3).alloc _
  have k4 : Kept [] a4 a5 := by rw [e5]; exact (Kept.refl [] a4).alloc _
  have h1 : a1.heap[s]? = some (.cells (([1, 2] : List Nat).map byt).toArray 5 (0, 0)) := by rw [e1, es, heap_alloc_new]; rfl
  have h2 : a2.heap[s + 1]? = some (.cells #[.slice (some ⟨s, 0, none⟩) 2 2] 34 (0, 0)) := by rw [e2, ← z1, heap_alloc_new]
  have h3 : a3.heap[s + 1 + 1]? = some (.cells (([3] : List Nat).map byt).toArray 5 (0, 0)) := by rw [e3, ← z2, heap_alloc_new]; rfl
  have h4 : a4.heap[s + 1 + 1 + 1]? = some (.cells (([4] : List Nat).map byt).toArray 5 (0, 0)) := by rw [e4, ← z3, heap_alloc_new]; rfl
  have h5 : a5.heap[s + 1 + 1 + 1 + 1]? = some (.cells #[.slice (some ⟨s + 1 + 1, 0, none⟩) 1 1, .slice (some ⟨s + 1 + 1 + 1, 0, none⟩) 1 1] 34 (0, 0)) := by rw [e5, ← z4, heap_alloc_new]
  have m1 := heap_row ((((k1.trans k2).trans k3).trans k4).heap h1 (by simp))
  have m2 := (((k2.trans k3).trans k4)).heap h2 (by simp)
  have m3 := heap_row ((k3.trans k4).heap h3 (by simp))
  have m4 := heap_row (k4.heap h4 (by simp))
  have MA : MR a5 (some ⟨s + 1, 0, none⟩) [[1, 2]] := .inr ⟨s + 1, 0, rfl, fun i hi => by
    obtain rfl : i = 0 := by simpa using hi
    exact ⟨_, _, by rw [cell_of_row _ _ _ _ _ _ m2]; rfl, m1⟩⟩
  have MB : MR a5 (some ⟨s + 1 + 1 + 1 + 1, 0, none⟩) [[3], [4]] := .inr ⟨s + 1 + 1 + 1 + 1, 0, rfl, fun i hi => by
    have hi2 : i = 0 ∨ i = 1 := by simp at hi; omega
    rcases hi2 with rfl | rfl
    · exact ⟨_, _, by rw [cell_of_row _ _ _ _ _ _ h5]; rfl, m3⟩
    · exact ⟨_, _, by rw [cell_of_row _ _ _ _ _ _ h5]; rfl, m4⟩⟩
  have hk5 := ((((k0.trans k1).trans k2).trans k3).trans k4)
  refine (times_ok _ _ 1 2 1 2 [[1, 2]] [[3], [4]] a5 MA MB (by simp [Bm, Byts]) (by simp [Bm, Byts]) rfl rfl (by decide) ex_ok).mono fun e w' ⟨g, bs, he, hm, hg, hb, hk⟩ => ⟨g, bs, tm [[1, 2]] [[3], [4]], he, ⟨fun h => (nomatch h), .inr ⟨g, rfl, hm, ?_⟩, fun i hi => ?_⟩, ex_tm, hk5.trans hk⟩
  · have := hk5.size; omega
  · have := hk5.size; have := hb i hi; omega
end Go.Proofs.Ytjnmnkheichflaa
