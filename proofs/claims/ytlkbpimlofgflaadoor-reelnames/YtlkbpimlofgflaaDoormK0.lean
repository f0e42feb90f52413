import Derived.Test.YtlkbpimlofgflaaDoorW2
import Derived.WalkKit
import Derived.WalkSpells
import Derived.WalkLawsBesides
import Derived.Maps.AppendAt
import Derived.Deep.RegionHeld3
import Derived.Deep.RegionWith
import Derived.Deep.DeepCutAuto
import Derived.Deep.QuietTactic
import Derived.BigQuiet
import Derived.Laws.CopyOwn
import Derived.Laws.OwnMore
namespace Go.Proofs.YtlkbpimlofgflaaDoor
open Go.RowKit

theorem set_mid {α : Type} (X Z : List α) (y u : α) (j : Nat) (hj : X.length = j) : (X ++ y :: Z).set j u = X ++ u :: Z := by
  subst hj
  rw [List.set_append_right _ _ (Nat.le_refl _), Nat.sub_self, List.set_cons_zero]

end Go.Proofs.YtlkbpimlofgflaaDoor
