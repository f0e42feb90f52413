import Derived.Test.YtiojcfffhcipnaaN
namespace Go.Proofs.Ytiojcfffhcipnaa
open Go.RowKit

/-- A slice's elements are these bytes. -/
def Reads (w : World) (ao : Option Addr) (l : List Nat) : Prop :=
  l = [] ∨ ∃ g off, ao = some ⟨g, off, none⟩ ∧ ∀ i, i < l.length → w.cell? ⟨g, off + i, none⟩ = some (byt (l.getD i 0))

def Byts (l : List Nat) : Prop := ∀ b ∈ l, b < 256

theorem num_take_succ (l : List Nat) (k : Nat) (h : k < l.length) : num (l.take (k + 1)) = num (l.take k) * 256 + l.getD k 0 := by
  rw [List.take_succ_eq_append_getElem h, num_snoc]; simp [h]

theorem num_take_lt (l : List Nat) (k : Nat) (hk : k ≤ 8) (hb : Byts l) : num (l.take k) < 18446744073709551616 := by
  have h := num_lt (l.take k) (fun b h => hb b (List.mem_of_mem_take h))
  have h2 : 256 ^ (l.take k).length ≤ 256 ^ 8 := Nat.pow_le_pow_right (by decide) (by simp; omega)
  have h3 : 256 ^ 8 = 18446744073709551616 := by decide
  omega

theorem getD_lt (l : List Nat) (k : Nat) (hb : Byts l) : l.getD k 0 < 256 := by
  rw [List.getD_eq_getElem?_getD]
  rcases h : l[k]? with _ | x
  · simp
  · exact hb x (List.mem_of_getElem? h)

theorem or_byte (a b : Nat) (hb : b < 256) (h : a * 256 + b < 18446744073709551616) :
    bits BinOp.or IntKind.u64 ((a : Int) * 256) (IntKind.u64.wrap (b : Int)) = ((a * 256 + b : Nat) : Int) := by
  have h1 : a * 256 < 18446744073709551616 := Nat.lt_of_le_of_lt (Nat.le_add_right _ _) h
  have h2 : b < 18446744073709551616 := Nat.lt_of_le_of_lt (Nat.le_add_left _ _) h
  have e1 : ((a : Int) * 256) = ((a * 256 : Nat) : Int) := by omega
  have e2 : IntKind.u64.wrap (b : Int) = (b : Int) := by rw [IntKind.wrap_u64]; omega
  have e3 : a * 256 % 2 ^ 8 = 0 := by rw [show (2 : Nat) ^ 8 = 256 from rfl]; omega
  have e4 : b < 2 ^ 8 := by rw [show (2 : Nat) ^ 8 = 256 from rfl]; exact hb
  rw [e1, e2, u64_or_nat (a * 256) b h1 h2, nat_join 8 (a * 256) b e3 e4]

/-- Which of n things a raw number speaks of. -/
def pick (c : Int) (n : Int) : Int := if c < 0 then (-(c + 1)) % n else c % n
theorem pick_lo (c n : Int) (h : 0 < n) : 0 ≤ pick c n := by
  unfold pick; split <;> exact Int.emod_nonneg _ (by omega)
theorem pick_hi (c n : Int) (h : 0 < n) : pick c n < n := by
  unfold pick; split <;> exact Int.emod_lt_of_pos _ h

theorem row_some {w : World} {base e n : Nat} {v : Value} {xs : List Value} (h : w.ownsRow base e 1 v n xs) (hn : 0 < n) : ∃ g cap, v = .slice (some ⟨g, 0, none⟩) n cap := by
  rcases h.2 with ⟨_, h1⟩ | ⟨g, cap, cur, h1, _⟩
  · omega
  · exact ⟨g, cap, h1⟩


end Go.Proofs.Ytiojcfffhcipnaa
