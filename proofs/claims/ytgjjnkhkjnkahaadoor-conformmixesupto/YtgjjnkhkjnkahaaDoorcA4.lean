import Derived.Test.YtgjjnkhkjnkahaaDoorcA3
namespace Go.Proofs.YtgjjnkhkjnkahaaDoor.Tc
open Go.RowKit

/-- How many minutes that leave names out stand ahead of a frame, or hold it. -/
def mno (c l n : Int) : Int := 9 * (n / (600 * c - 9 * l)) + if 0 ≤ n % (600 * c - 9 * l) - 60 * c then 1 + (n % (600 * c - 9 * l) - 60 * c) / (60 * c - l) else 0
/-- How many names are left out ahead of a frame. -/
def loa (c l n : Int) : Int := mno c l n * l

end Go.Proofs.YtgjjnkhkjnkahaaDoor.Tc
