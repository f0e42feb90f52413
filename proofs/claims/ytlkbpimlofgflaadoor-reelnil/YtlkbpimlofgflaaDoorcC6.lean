import Derived.Test.YtlkbpimlofgflaaDoorcC5
import Derived.Test.YtlkbpimlofgflaaDoorcC3
import Derived.Lib.SlBytesConst
namespace Go.Proofs.YtlkbpimlofgflaaDoor.Cr
open Go.RowKit

theorem adv_m (ao : Option Addr) (cap m : Nat) (l : List Nat) (s : BitVec 32) (w : World) (hr : Reads w ao l) (hb : Byts l) (hm : l.length = m) (hl : m ≤ 9223372036854775807) :
    Calls Tryd.prog 67 #[.int .u32 (nm s), .slice ao m cap] w fun e w' => e = .returned (.int .u32 (nm (adv s l))) ∧ Kept [] w w' := by
  subst hm; exact advance_any ao cap l s w hr hb hl

/-- The sum that goes on, the sum. -/
def mr (s : BitVec 32) (l : List Nat) : BitVec 32 := ~~~ adv (~~~ s) l
def sm (l : List Nat) : BitVec 32 := mr 0#32 l
def rm (l : List Nat) : BitVec 32 := adv 0#32 l

theorem nm_not (a : BitVec 32) : bits BinOp.xor IntKind.u32 (if IntKind.u32.signed = true then -1 else IntKind.u32.max) (nm a) = nm (~~~ a) := by
  have e : (if IntKind.u32.signed = true then (-1 : Int) else IntKind.u32.max) = nm (BitVec.allOnes 32) := by decide
  rw [e, nm_xor]
  congr 1

set_option maxHeartbeats 1000000 in
set_option maxRecDepth 1000000 in
theorem more_any (ao : Option Addr) (cap m : Nat) (l : List Nat) (s : BitVec 32) (w : World) (hr : Reads w ao l) (hb : Byts l) (hm : l.length = m) (hl : m ≤ 9223372036854775807) :
    Calls Tryd.prog 56 #[.int .u32 (nm s), .slice ao m cap] w fun e w' => e = .returned (.int .u32 (nm (mr s l))) ∧ Kept [] w w' := by
  have h1 := nm_not s
  have h2 := nm_not (adv (~~~ s) l)
  go_enter Tryd.func56, Tryd.ntmps56
  go_wp2_with (go_at_call 67; refine (adv_m _ _ _ l _ _ hr hb hm hl).mono ?_; rintro e w' ⟨rfl, hk⟩)
  go_ret
  refine ⟨ret_int ?_, hk⟩
  first
  | exact h2
  | rfl

theorem nm_zero32 : (0 : Int) = nm 0#32 := rfl

set_option maxHeartbeats 1000000 in
set_option maxRecDepth 1000000 in
theorem sum_any (ao : Option Addr) (cap m : Nat) (l : List Nat) (w : World) (hr : Reads w ao l) (hb : Byts l) (hm : l.length = m) (hl : m ≤ 9223372036854775807) :
    Calls Tryd.prog 43 #[.slice ao m cap] w fun e w' => e = .returned (.int .u32 (nm (sm l))) ∧ Kept [] w w' := by
  go_enter Tryd.func43, Tryd.ntmps43
  go_wp2_with (go_at_call 56; refine (more_any _ _ _ l 0#32 _ hr hb hm hl).mono ?_; rintro e w' ⟨rfl, hk⟩)
  go_ret
  exact ⟨rfl, hk⟩

theorem reads_new (w : World) (l : List Nat) (fr : Nat × Nat) : Reads (w.alloc (.cells (l.map byt).toArray 5 fr)) (some ⟨w.heap.size, 0, none⟩) l := by
  refine .inr ⟨w.heap.size, 0, rfl, fun i hi => ?_⟩
  rw [cell_of_row _ _ _ _ _ _ (heap_alloc_new w _)]
  simp [hi]

/-- The nine digits of the document's example. -/
def dgt : List Nat := [49, 50, 51, 52, 53, 54, 55, 56, 57]

theorem dgt_sum : nm (sm dgt) = 4236843288 := by decide +kernel
theorem one_rem : nm (rm [1]) = 79764919 := by decide +kernel
theorem seven_nine : nm (jn 7#32 9#32 0) = 14 := by decide +kernel
theorem nm_7 : (7 : Int) = nm 7#32 := rfl
theorem nm_9 : (9 : Int) = nm 9#32 := rfl

theorem shown_sum (w : World) : Calls Tryd.prog 43 #[.slice (some ⟨w.heap.size, 0, none⟩) 9 9] (w.alloc (.cells #[.int .u8 49, .int .u8 50, .int .u8 51, .int .u8 52, .int .u8 53, .int .u8 54, .int .u8 55, .int .u8 56, .int .u8 57] 5 (9, 10))) fun e w' => e = .returned (.int .u32 4236843288) ∧ Kept [] w w' := by
  have h := sum_any _ 9 9 dgt _ (reads_new w dgt (9, 10)) (by unfold Byts dgt; decide) rfl (by decide)
  rw [dgt_sum] at h
  exact h.mono fun e w' ⟨he, hk⟩ => ⟨he, ((Kept.refl [] w).alloc _).trans hk⟩

end Go.Proofs.YtlkbpimlofgflaaDoor.Cr
