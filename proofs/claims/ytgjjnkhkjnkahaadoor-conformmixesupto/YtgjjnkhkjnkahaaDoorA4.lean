import Derived.Test.YtgjjnkhkjnkahaaDoorA3
namespace Go.Proofs.YtgjjnkhkjnkahaaDoor
open Go.RowKit

/-- A rectangle lies in w by h samples. -/
def lie (X Y W H w h : Int) : Bool := decide (1 ≤ W ∧ 1 ≤ H ∧ 0 ≤ X ∧ 0 ≤ Y ∧ X + W ≤ w ∧ Y + H ≤ h)

end Go.Proofs.YtgjjnkhkjnkahaaDoor
