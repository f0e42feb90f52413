import Derived.Test.YtjnmnkheichflabGv
import Derived.Test.YtjnmnkheichflabRS3
import Derived.Test.YtjnmnkheichflabM4
namespace Go.Proofs.Ytjnmnkheichflab
open Go.RowKit

/-- What Solve comes to: whether there is an answer, how many rows, how long, which error. -/
def soO (L K : List (List Nat)) : Option ((Nat → Nat → Nat) × (Nat → Nat → Nat)) := if ssh L K then gt L.length (fn L) (fn K) L.length else none
def soN (L K : List (List Nat)) : Nat := if (soO L K).isSome then L.length else 0
def soW (L K : List (List Nat)) : Nat := if (soO L K).isSome then rl K else 0
def soE (L K : List (List Nat)) : Int := if ssh L K then (if (soO L K).isSome then 0 else 43) else 42
def soF (L K : List (List Nat)) : Nat → Nat → Nat := ((soO L K).getD (fun _ _ => 0, fun _ _ => 0)).2
theorem soO_ok {L K : List (List Nat)} (h : ssh L K = true) : soO L K = gt L.length (fn L) (fn K) L.length := if_pos h
theorem soO_no {L K : List (List Nat)} (h : ssh L K = false) : soO L K = none := if_neg (by rw [h]; decide)
theorem soN_le (L K : List (List Nat)) : soN L K ≤ 256 := by
  unfold soN
  by_cases h : ssh L K = true
  · unfold ssh at h
    simp only [Bool.and_eq_true, decide_eq_true_eq] at h
    have := h.1.1.1
    split <;> omega
  · rw [soO_no (by simpa using h)]
    exact Nat.zero_le _
theorem rl_le {K : List (List Nat)} {M : Nat} (h : ∀ i, i < K.length → (K.getD i []).length ≤ M) : rl K ≤ M := by
  unfold rl
  by_cases h0 : 0 < K.length
  · exact h 0 h0
  · have : K = [] := List.eq_nil_of_length_eq_zero (by omega)
    subst this
    exact Nat.zero_le _
theorem soW_le {L K : List (List Nat)} {M : Nat} (h : rl K ≤ M) : soW L K ≤ M := by
  unfold soW
  split
  · exact h
  · exact Nat.zero_le _
theorem map_rows {L : List (List Nat)} {M : Nat} (h : ∀ i, i < L.length → (L.getD i []).length ≤ M) : ∀ i, i < (L.map x90).length → ((L.map x90).getD i []).length ≤ M := by
  intro i hi
  rw [List.length_map] at hi
  have e : (L.map x90).getD i [] = x90 (L.getD i []) := by simp [hi]
  rw [e, x90_length]
  exact h i hi
theorem map_bm {L : List (List Nat)} (h : Bm L) : Bm (L.map x90) := by
  intro r hr
  simp only [List.mem_map] at hr
  obtain ⟨y, hy, rfl⟩ := hr
  exact x90_byts (h y hy)
theorem ssh_len {L K : List (List Nat)} (h : ssh L K = true) : K.length = L.length := by
  unfold ssh at h
  simp only [Bool.and_eq_true, decide_eq_true_eq] at h
  exact h.1.2

theorem solve_u (ao bo : Option Addr) (ca cb nL nK : Nat) (L K : List (List Nat)) (w : World) (hL : MR w ao L) (hK : MR w bo K) (bL : Bm L) (bK : Bm K) (hl : L.length = nL) (hk : K.length = nK) (h1 : nL ≤ 140737488355328) (h2 : nK ≤ 140737488355328) (hrl : rl K ≤ 140737488355328) :
    Calls Try.prog 9 #[.slice ao nL ca, .slice bo nK cb] w fun e w' => ∃ a bs, e = .returned (.tuple #[.slice a (soN L K) (soN L K), .int .i64 (soE L K)]) ∧ Mo w' w.heap.size a (soN L K) bs (soW L K) (soF L K) ∧ Kept [] w w' := by
  by_cases h : ssh L K = true
  · obtain rfl : nK = nL := by rw [← hl, ← hk]; exact ssh_len h
    refine (solve_ok ao bo ca cb nK L K w hL hK bL bK hl hk hrl h).mono fun e w' hp => ?_
    unfold soN soW soE soF
    rw [if_pos h, soO_ok h, hl]
    unfold SolPost at hp
    cases hg : gt nK (fn L) (fn K) nK with
    | none =>
      rw [hg] at hp
      obtain ⟨he, hk⟩ := hp
      exact ⟨none, fun _ => 0, he, Mo.nix _ _ _ _ _, hk⟩
    | some XY =>
      rw [hg] at hp
      obtain ⟨X, Y⟩ := XY
      obtain ⟨g, bs, he, hm, hg, hb, hk⟩ := hp
      exact ⟨some ⟨g, 0, none⟩, bs, he, ⟨fun h => (nomatch h), .inr ⟨g, rfl, hm, hg⟩, hb⟩, hk⟩
  · have h0 : ssh L K = false := by simpa using h
    refine (solve_no ao bo ca cb nL nK L K w hL hK hl hk h1 h2 h0).mono fun e w' ⟨he, hk⟩ => ?_
    unfold soN soW soE soF
    rw [if_neg h, soO_no h0]
    exact ⟨none, fun _ => 0, he, Mo.nix _ _ _ _ _, hk⟩
theorem refSolve_u (ao bo : Option Addr) (ca cb nL nK : Nat) (L K : List (List Nat)) (w : World) (hL : MR w ao L) (hK : MR w bo K) (bL : Bm L) (bK : Bm K) (hl : L.length = nL) (hk : K.length = nK) (hrl : rl K ≤ 140737488355328) :
    Calls Try.prog 10 #[.slice ao nL ca, .slice bo nK cb] w fun e w' => ∃ a cap, e = .returned (.tuple #[.slice a (soN L K) cap, .int .i64 (soE L K)]) ∧ MR w' a (mf (soF L K) (soN L K) (soW L K)) ∧ Kept [] w w' := by
  by_cases h : ssh L K = true
  · obtain rfl : nK = nL := by rw [← hl, ← hk]; exact ssh_len h
    refine (refSolve_ok ao bo ca cb nK L K w hL hK bL bK hl hk hrl h).mono fun e w' hp => ?_
    unfold soN soW soE soF
    rw [if_pos h, soO_ok h, hl]
    unfold RSol at hp
    cases hg : gt nK (fn L) (fn K) nK with
    | none =>
      rw [hg] at hp
      obtain ⟨he, hk⟩ := hp
      exact ⟨none, 0, he, .inl rfl, hk⟩
    | some XY =>
      rw [hg] at hp
      obtain ⟨X, Y⟩ := XY
      obtain ⟨a, cap, he, hm, hk⟩ := hp
      exact ⟨a, cap, he, hm, hk⟩
  · have h0 : ssh L K = false := by simpa using h
    refine (refSolve_no ao bo ca cb nL nK L K w hL hK hl hk h0).mono fun e w' ⟨he, hk⟩ => ?_
    unfold soN soW soE soF
    rw [if_neg h, soO_no h0]
    exact ⟨none, 0, he, .inl rfl, hk⟩

theorem str_three (w : World) (b : Nat) (v x y : Nat) (s : ByteArray) (hs : bstr [v, x, y] = s) (h : Row w b [v, x, y]) : Sem.run Try.prog (convert 31 9 (.slice (some ⟨b, 0, none⟩) 3 3)) w = .ok (.string s) w := by
  subst hs
  exact reads_str h.reads 3

/-- The example's rows. -/
theorem ex_ok : ssh [[2]] [[1, 0, 101]] = true := by decide
theorem ex_gt : gt 1 (fn [[2]]) (fn [[1, 0, 101]]) 1 = some (st (fn [[2]]) 0 0 (fn [[2]]), st (fn [[2]]) 0 0 (fn [[1, 0, 101]])) := gt_step (c := 0) (r := 0) rfl (by decide)
theorem ex_row : rg (st (fn [[2]]) 0 0 (fn [[1, 0, 101]]) 0) 3 = [178, 0, 128] := by decide +kernel

theorem ex_solve (w : World) :
    Calls Try.prog 9 #[.slice (some ⟨w.heap.size + 1, 0, none⟩) 1 1, .slice (some ⟨w.heap.size + 1 + 1 + 1, 0, none⟩) 1 1]
      ((((w.alloc (.cells #[.int .u8 2] 5)).alloc (.cells #[.slice (some ⟨w.heap.size, 0, none⟩) 1 1] 31)).alloc (.cells #[.int .u8 1, .int .u8 0, .int .u8 101] 5)).alloc (.cells #[.slice (some ⟨w.heap.size + 1 + 1, 0, none⟩) 3 3] 31))
      fun e w' => ∃ g bs FO, e = .returned (.tuple #[.slice (some ⟨g, 0, none⟩) 1 1, .int .i64 0]) ∧ Mo w' w.heap.size (some ⟨g, 0, none⟩) 1 bs 3 FO ∧ rg (FO 0) 3 = [178, 0, 128] ∧ Kept [] w w' := by
  obtain ⟨s, es⟩ : ∃ s, s = w.heap.size := ⟨_, rfl⟩
  rw [← es]
  obtain ⟨a1, e1⟩ : ∃ x, x = w.alloc (.cells #[.int .u8 2] 5) := ⟨_, rfl⟩
  rw [← e1]
  obtain ⟨a2, e2⟩ : ∃ x, x = a1.alloc (.cells #[.slice (some ⟨s, 0, none⟩) 1 1] 31) := ⟨_, rfl⟩
  rw [← e2]
  obtain ⟨a3, e3⟩ : ∃ x, x = a2.alloc (.cells #[.int .u8 1, .int .u8 0, .int .u8 101] 5) := ⟨_, rfl⟩
  rw [← e3]
  obtain ⟨a4, e4⟩ : ∃ x, x = a3.alloc (.cells #[.slice (some ⟨s + 1 + 1, 0, none⟩) 3 3] 31) := ⟨_, rfl⟩
  rw [← e4]
  have z1 : a1.heap.size = s + 1 := by rw [e1, World.size_alloc, ← es]
  have z2 : a2.heap.size = s + 1 + 1 := by rw [e2, World.size_alloc, z1]
  have z3 : a3.heap.size = s + 1 + 1 + 1 := by rw [e3, World.size_alloc, z2]
  have k0 : Kept [] w a1 := by rw [e1]; exact (Kept.refl [] w).alloc _
  have k1 : Kept [] a1 a2 := by rw [e2]; exact (Kept.refl [] a1).alloc _
  have k2 : Kept [] a2 a3 := by rw [e3]; exact (Kept.refl [] a2).alloc _
  have k3 : Kept [] a3 a4 := by rw [e4]; exact (Kept.refl [] a3).alloc _
  have h1 : a1.heap[s]? = some (.cells (([2] : List Nat).map byt).toArray 5 (0, 0)) := by rw [e1, es, heap_alloc_new]; rfl
  have h2 : a2.heap[s + 1]? = some (.cells #[.slice (some ⟨s, 0, none⟩) 1 1] 31 (0, 0)) := by rw [e2, ← z1, heap_alloc_new]
  have h3 : a3.heap[s + 1 + 1]? = some (.cells (([1, 0, 101] : List Nat).map byt).toArray 5 (0, 0)) := by rw [e3, ← z2, heap_alloc_new]; rfl
  have h4 : a4.heap[s + 1 + 1 + 1]? = some (.cells #[.slice (some ⟨s + 1 + 1, 0, none⟩) 3 3] 31 (0, 0)) := by rw [e4, ← z3, heap_alloc_new]
  have m1 := heap_row (((k1.trans k2).trans k3).heap h1 (by simp))
  have m2 := (k2.trans k3).heap h2 (by simp)
  have m3 := heap_row (k3.heap h3 (by simp))
  have MA : MR a4 (some ⟨s + 1, 0, none⟩) [[2]] := .inr ⟨s + 1, 0, rfl, fun i hi => by
    obtain rfl : i = 0 := by simpa using hi
    exact ⟨_, _, by rw [cell_of_row _ _ _ _ _ _ m2]; rfl, m1⟩⟩
  have MB : MR a4 (some ⟨s + 1 + 1 + 1, 0, none⟩) [[1, 0, 101]] := .inr ⟨s + 1 + 1 + 1, 0, rfl, fun i hi => by
    obtain rfl : i = 0 := by simpa using hi
    exact ⟨_, _, by rw [cell_of_row _ _ _ _ _ _ h4]; rfl, m3⟩⟩
  have hk4 := (((k0.trans k1).trans k2).trans k3)
  refine (solve_ok _ _ 1 1 1 [[2]] [[1, 0, 101]] a4 MA MB (by simp [Bm, Byts]) (by simp [Bm, Byts]) rfl rfl (by decide) ex_ok).mono fun e w' hp => ?_
  rw [ex_gt] at hp
  obtain ⟨g, bs, he, hm, hg, hb, hk⟩ := hp
  refine ⟨g, bs, st (fn [[2]]) 0 0 (fn [[1, 0, 101]]), he, ⟨fun h => (nomatch h), .inr ⟨g, rfl, hm, ?_⟩, fun i hi => ?_⟩, ex_row, hk4.trans hk⟩
  · have := hk4.size; omega
  · have := hk4.size; have := hb i hi; omega
end Go.Proofs.Ytjnmnkheichflab
