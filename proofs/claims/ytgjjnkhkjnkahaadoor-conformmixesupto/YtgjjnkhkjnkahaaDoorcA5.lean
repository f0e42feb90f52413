import Derived.Test.YtgjjnkhkjnkahaaDoorcA4
namespace Go.Proofs.YtgjjnkhkjnkahaaDoor.Tc
open Go.RowKit

/-- The sign ahead of a name's frame. -/
def lm (l : Int) : Int := if 0 < l then 59 else 58
/-- What is wrong with what a name tells: the place, the number. -/
def ckA (c h m s f l : Int) : Int := if 23 < h then 0 else if 59 < m then 3 else if 59 < s then 6 else if c ≤ f then 9 else if m % 10 ≠ 0 ∧ s = 0 ∧ f < l then 9 else 0
def ckE (c h m s f l : Int) : Int := if 23 < h then 184 else if 59 < m then 182 else if 59 < s then 182 else if c ≤ f then 182 else if m % 10 ≠ 0 ∧ s = 0 ∧ f < l then 183 else 0
theorem two_kept (w : World) (o o' : Obj) : Kept [] w ((w.alloc o).alloc o') := (alloc_kept w o).alloc o'
end Go.Proofs.YtgjjnkhkjnkahaaDoor.Tc
