import Derived.Test.YtodlkpcbkilglaaDoorSf
import Derived.Test.YtodlkpcbkilglaaDoorAl
namespace Go.Proofs.YtodlkpcbkilglaaDoor
open Go.RowKit

/-- Which of n things a raw number speaks of. -/
def pick (c n : Int) : Int := if c < 0 then (-(c + 1)) % n else c % n
theorem pick_lo (c n : Int) (h : 0 < n) : 0 ≤ pick c n := by
  unfold pick; split <;> exact Int.emod_nonneg _ (by omega)
theorem pick_hi (c n : Int) (h : 0 < n) : pick c n < n := by
  unfold pick; split <;> exact Int.emod_lt_of_pos _ h
set_option maxHeartbeats 1000000 in
theorem pick_any (c n : Int) (w : World) (c0 : -9223372036854775808 ≤ c) (c1 : c ≤ 9223372036854775807) (h : 0 < n) (h1 : n ≤ 9223372036854775807) :
    Calls Tryd.prog 34 #[.int .i64 c, .int .i64 n] w fun e w' => e = .returned (.int .i64 (pick c n)) ∧ w' = w := by
  have hn : ¬ n = 0 := by omega
  by_cases hc : c < 0
  · go_enter Tryd.func34, Tryd.ntmps34
    go_wp2
    go_ret
    exact ⟨by congr 2; unfold pick; rw [if_pos hc, ← Int.neg_tmod, Int.tmod_eq_emod_of_nonneg (by omega)]; rfl, rfl⟩
  · go_enter Tryd.func34, Tryd.ntmps34
    go_wp2
    go_ret
    exact ⟨by congr 2; unfold pick; rw [if_neg (by omega)]; rfl, rfl⟩
set_option maxHeartbeats 8000000 in
set_option maxRecDepth 1000000 in
/-- No frame is the same as one that has a shape. -/
theorem rsame_ne (W H D : Int) (A : Bool) (po qo : Option Addr) (n c m d : Nat) (w : World) (hW : W ≠ 0) :
    Calls Tryd.prog 26 #[frv 0 0 0 false qo m d, frv W H D A po n c] w fun e w' => e = .returned (.bool false) ∧ Kept [] w w' := by
  have h1 := heap_alloc_new w (.cells #[.int .i64 0, .int .i64 0, .int .i64 0, .bool false, .slice qo m d] 31)
  have k1 := alloc_kept w (.cells #[.int .i64 0, .int .i64 0, .int .i64 0, .bool false, .slice qo m d] 31)
  have h2 := heap_alloc_new (w.alloc (.cells #[.int .i64 0, .int .i64 0, .int .i64 0, .bool false, .slice qo m d] 31)) (.cells #[.int .i64 W, .int .i64 H, .int .i64 D, .bool A, .slice po n c] 31)
  have k2 := alloc_kept (w.alloc (.cells #[.int .i64 0, .int .i64 0, .int .i64 0, .bool false, .slice qo m d] 31)) (.cells #[.int .i64 W, .int .i64 H, .int .i64 D, .bool A, .slice po n c] 31)
  have K1 := Hid.mk (k1.trans k2)
  have e1 : ((0 : Int) == W) = false := by simpa using fun e => hW e.symm
  have e2 : ¬ (0 : Int) = W := fun e => hW e.symm
  clear h1 k1 h2 k2
  go_enter Tryd.func26, Tryd.ntmps26
  go_wp2
  go_ret
  exact ⟨rfl, K1.out⟩
end Go.Proofs.YtodlkpcbkilglaaDoor
