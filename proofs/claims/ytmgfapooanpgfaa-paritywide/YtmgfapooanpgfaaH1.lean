import Derived.Test.YtmgfapooanpgfaaM1
namespace Go.Proofs.Ytmgfapooanpgfaa
open Go.RowKit

set_option maxHeartbeats 1000000 in
set_option maxRecDepth 1000000 in
theorem full_any (ao : Option Addr) (cap n : Nat) (m : Int) (w : World) (hn : n ≤ 9223372036854775807) (hr : n = 0 ∨ ∃ g off, ao = some ⟨g, off, none⟩ ∧ ∀ i, i < n → w.cell? ⟨g, off + i, none⟩ = some (.int .u8 m)) :
    Calls Try.prog 25 #[.slice ao n cap, .int .u8 m] w fun e w' => e = .returned (.bool true) ∧ w' = w := by
  rcases hr with rfl | ⟨g, off, rfl, hc⟩
  · go_enter Try.func25, Try.ntmps25
    go_wp2
    refine wp_loop_rounds 1 ?_
    rw [rounds_succ]
    go_wp2
    go_ret
    exact ⟨rfl, rfl⟩
  · go_enter Try.func25, Try.ntmps25
    go_wp2
    go_loop [5] (fun i => ∃ k : Nat, k ≤ n ∧ i = .int .i64 k) (fun i => n - (intOf i).toNat)
    case atStart => exact ⟨0, Nat.zero_le _, rfl⟩
    case round =>
      obtain ⟨k, hk, rfl⟩ := hrel
      by_cases hlt : k < n
      · have hcell := hc k hlt
        go_wp2
        go_round
        case rel => exact ⟨k + 1, by omega, by go_num⟩
        case measure => simp [intOf]; omega
      · go_wp2
        go_ret
        exact ⟨rfl, rfl⟩

theorem xor_u8 (x : Int) (h0 : 0 ≤ x) (h1 : x < 256) : bits BinOp.xor IntKind.u8 x 90 = ((x.toNat ^^^ 90 : Nat) : Int) := by
  have := u8_xor x 90 h0 h1 (by decide) (by decide)
  exact this

end Go.Proofs.Ytmgfapooanpgfaa
