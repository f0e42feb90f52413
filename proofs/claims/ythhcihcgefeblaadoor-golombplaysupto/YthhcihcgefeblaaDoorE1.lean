import Derived.Test.YthhcihcgefeblaaDoorD9
namespace Go.Proofs.YthhcihcgefeblaaDoor
open Go.RowKit

set_option maxHeartbeats 4000000 in
/-- The document's j. -/
theorem jD_any (r : Nat) (w : World) (hr : r ≤ 22) :
    Calls Tryd.prog 66 #[.int .i64 (r : Int)] w fun e w' => e = .returned (.int .i64 (J r : Int)) ∧ Kept [] w w' := by
  rcases (by omega : r = 0 ∨ r = 1 ∨ r = 2 ∨ r = 3 ∨ r = 4 ∨ r = 5 ∨ r = 6 ∨ r = 7 ∨ r = 8 ∨ r = 9 ∨ r = 10 ∨ r = 11 ∨ r = 12 ∨ r = 13 ∨ r = 14 ∨ r = 15 ∨ r = 16 ∨ r = 17 ∨ r = 18 ∨ r = 19 ∨ r = 20 ∨ r = 21 ∨ r = 22) with rfl | rfl | rfl | rfl | rfl | rfl | rfl | rfl | rfl | rfl | rfl | rfl | rfl | rfl | rfl | rfl | rfl | rfl | rfl | rfl | rfl | rfl | rfl
  all_goals
    go_enter Tryd.func66, Tryd.ntmps66
    go_wp2
    go_ret
    exact ⟨rfl, (Kept.refl _ _).alloc _⟩

/-- The document's stretch. -/
theorem RefX.kept {w w' : World} {X r : Nat} {ks : List Nat} (h : RefX w X r) (hk : Kept ks w w') (h0 : X ∉ ks) : RefX w' X r := ⟨hk.heap h.1 h0, h.2⟩
end Go.Proofs.YthhcihcgefeblaaDoor
