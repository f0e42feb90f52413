import Derived.Test.YtmgfapooanpgfaaG3
import Derived.Test.YtmgfapooanpgfaaG4
namespace Go.Proofs.Ytmgfapooanpgfaa
open Go.RowKit

/-- Whether two may be multiplied; their product. -/
def tsh (L K : List (List Nat)) : Bool := decide (L.length ≤ 256) && decide (K.length ≤ 256) && al L K.length && al K (rl K)
def tm (L K : List (List Nat)) : Nat → Nat → Nat := fun i c => sm (fun j => mu (fn L i j) (fn K j c)) K.length
theorem tm_lt (L K : List (List Nat)) (i c : Nat) : tm L K i c < 256 := sm_lt _ _ (fun _ _ => mu_lt _ _)

/-- The rows of a product, as they come. -/
def tf (L K : List (List Nat)) (i j : Nat) : Nat → Nat → Nat := fun a c => if a < i then tm L K a c else if a = i then sm (fun j' => mu (fn L i j') (fn K j' c)) j else 0
theorem tf_lt (L K : List (List Nat)) (i j a c : Nat) : tf L K i j a c < 256 := by
  unfold tf
  split
  · exact tm_lt _ _ _ _
  · split
    · exact sm_lt _ _ (fun _ _ => mu_lt _ _)
    · decide
theorem tf_next (L K : List (List Nat)) (i : Nat) : tf L K i K.length = tf L K (i + 1) 0 := by
  funext a c
  unfold tf
  by_cases h : a < i
  · rw [if_pos h, if_pos (by omega)]
  · rw [if_neg h]
    by_cases e : a = i
    · subst e; rw [if_pos rfl, if_pos (by omega)]; rfl
    · rw [if_neg e, if_neg (by omega)]
      split <;> rfl
theorem tf_row (L K : List (List Nat)) (i j wd : Nat) : rg (am (fn L i j) (tf L K i j i) (fn K j)) wd = rg (tf L K i (j + 1) i) wd := by
  apply rg_congr
  intro c _
  unfold am tf
  rw [if_neg (by omega), if_pos rfl, if_neg (by omega), if_pos rfl, sm]
theorem tf_rest (L K : List (List Nat)) (i j a c : Nat) (h : a ≠ i) : tf L K i (j + 1) a c = tf L K i j a c := by
  unfold tf
  rw [if_neg h, if_neg h]

end Go.Proofs.Ytmgfapooanpgfaa
