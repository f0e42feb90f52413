import Derived.Test.YtlkbpimlofgflaaDoorR
import Derived.Test.YtlkbpimlofgflaaDoorR
namespace Go.Proofs.YtlkbpimlofgflaaDoor
open Go.RowKit

set_option maxHeartbeats 400000 in
theorem fits64_any (v n : Int) (w : World) (h0 : 0 ≤ n) (h1 : n ≤ 64) :
    Calls Tryd.prog 57 #[.int .u64 v, .int .i64 n] w fun e w' => e = .returned (.bool (v / 2 ^ n.toNat == 0)) ∧ w' = w := by
  go_enter Tryd.func57, Tryd.ntmps57
  go_wp2
  go_ret
  exact ⟨rfl, rfl⟩

end Go.Proofs.YtlkbpimlofgflaaDoor
