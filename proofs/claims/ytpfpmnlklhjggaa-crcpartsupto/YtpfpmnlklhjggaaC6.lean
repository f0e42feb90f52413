import Derived.Test.YtpfpmnlklhjggaaC5
import Derived.Test.YtpfpmnlklhjggaaC3
import Derived.Lib.SlBytesConst
namespace Go.Proofs.Ytpfpmnlklhjggaa
open Go.RowKit

theorem adv_m (ao : Option Addr) (cap m : Nat) (l : List Nat) (s : BitVec 32) (w : World) (hr : Reads w ao l) (hb : Byts l) (hm : l.length = m) (hl : m ≤ 9223372036854775807) :
    Calls Try.prog 30 #[.int .u32 (nm s), .slice ao m cap] w fun e w' => e = .returned (.int .u32 (nm (adv s l))) ∧ Kept [] w w' := by
  subst hm; exact advance_any ao cap l s w hr hb hl

/-- The sum that goes on, the sum. -/
def mr (s : BitVec 32) (l : List Nat) : BitVec 32 := ~~~ adv (~~~ s) l
def sm (l : List Nat) : BitVec 32 := mr 0#32 l
def rm (l : List Nat) : BitVec 32 := adv 0#32 l

theorem nm_not (a : BitVec 32) : bits BinOp.xor IntKind.u32 (if IntKind.u32.signed = true then -1 else IntKind.u32.max) (nm a) = nm (~~~ a) := by
  have e : (if IntKind.u32.signed = true then (-1 : Int) else IntKind.u32.max) = nm (BitVec.allOnes 32) := by decide
  rw [e, nm_xor]
  congr 1

set_option maxHeartbeats 1000000 in
set_option maxRecDepth 1000000 in
theorem more_any (ao : Option Addr) (cap m : Nat) (l : List Nat) (s : BitVec 32) (w : World) (hr : Reads w ao l) (hb : Byts l) (hm : l.length = m) (hl : m ≤ 9223372036854775807) :
    Calls Try.prog 17 #[.int .u32 (nm s), .slice ao m cap] w fun e w' => e = .returned (.int .u32 (nm (mr s l))) ∧ Kept [] w w' := by
  have h1 := nm_not s
  have h2 := nm_not (adv (~~~ s) l)
  go_enter Try.func17, Try.ntmps17
  go_wp2_with (go_at_call 30; refine (adv_m _ _ _ l _ _ hr hb hm hl).mono ?_; rintro e w' ⟨rfl, hk⟩)
  go_ret
  refine ⟨ret_int ?_, hk⟩
  first
  | exact h2
  | rfl

theorem nm_zero32 : (0 : Int) = nm 0#32 := rfl

set_option maxHeartbeats 1000000 in
set_option maxRecDepth 1000000 in
theorem sum_any (ao : Option Addr) (cap m : Nat) (l : List Nat) (w : World) (hr : Reads w ao l) (hb : Byts l) (hm : l.length = m) (hl : m ≤ 9223372036854775807) :
    Calls Try.prog 15 #[.slice ao m cap] w fun e w' => e = .returned (.int .u32 (nm (sm l))) ∧ Kept [] w w' := by
  go_enter Try.func15, Try.ntmps15
  go_wp2_with (go_at_call 17; refine (more_any _ _ _ l 0#32 _ hr hb hm hl).mono ?_; rintro e w' ⟨rfl, hk⟩)
  go_ret
  exact ⟨rfl, hk⟩

set_option maxHeartbeats 1000000 in
set_option maxRecDepth 1000000 in
theorem rem_any (ao : Option Addr) (cap m : Nat) (l : List Nat) (w : World) (hr : Reads w ao l) (hb : Byts l) (hm : l.length = m) (hl : m ≤ 9223372036854775807) :
    Calls Try.prog 19 #[.slice ao m cap] w fun e w' => e = .returned (.int .u32 (nm (rm l))) ∧ Kept [] w w' := by
  go_enter Try.func19, Try.ntmps19
  go_wp2_with (go_at_call 30; refine (adv_m _ _ _ l 0#32 _ hr hb hm hl).mono ?_; rintro e w' ⟨rfl, hk⟩)
  go_ret
  exact ⟨rfl, hk⟩

theorem reads_new (w : World) (l : List Nat) (fr : Nat × Nat) : Reads (w.alloc (.cells (l.map byt).toArray 5 fr)) (some ⟨w.heap.size, 0, none⟩) l := by
  refine .inr ⟨w.heap.size, 0, rfl, fun i hi => ?_⟩
  rw [cell_of_row _ _ _ _ _ _ (heap_alloc_new w _)]
  simp [hi]

/-- The nine digits of the document's example. -/
def dgt : List Nat := [49, 50, 51, 52, 53, 54, 55, 56, 57]

theorem dgt_sum : nm (sm dgt) = 4236843288 := by decide +kernel
theorem one_rem : nm (rm [1]) = 79764919 := by decide +kernel
theorem seven_nine : nm (jn 7#32 9#32 0) = 14 := by decide +kernel
theorem nm_7 : (7 : Int) = nm 7#32 := rfl
theorem nm_9 : (9 : Int) = nm 9#32 := rfl

theorem shown_join (w : World) : Calls Try.prog 13 #[.int .u32 7, .int .u32 9, .int .i64 0] w fun e w' => e = .returned (.tuple #[.int .u32 14, .int .i64 0]) ∧ w' = w := by
  have h := join_any 7#32 9#32 0 w (by omega)
  rw [seven_nine] at h
  exact h

theorem shown_sum (w : World) : Calls Try.prog 15 #[.slice (some ⟨w.heap.size, 0, none⟩) 9 9] (w.alloc (.cells #[.int .u8 49, .int .u8 50, .int .u8 51, .int .u8 52, .int .u8 53, .int .u8 54, .int .u8 55, .int .u8 56, .int .u8 57] 5 (9, 10))) fun e w' => e = .returned (.int .u32 4236843288) ∧ Kept [] w w' := by
  have h := sum_any _ 9 9 dgt _ (reads_new w dgt (9, 10)) (by unfold Byts dgt; decide) rfl (by decide)
  rw [dgt_sum] at h
  exact h.mono fun e w' ⟨he, hk⟩ => ⟨he, ((Kept.refl [] w).alloc _).trans hk⟩

theorem shown_rem (w : World) : Calls Try.prog 19 #[.slice (some ⟨w.heap.size, 0, none⟩) 1 1] (w.alloc (.cells #[.int .u8 1] 5)) fun e w' => e = .returned (.int .u32 79764919) ∧ Kept [] w w' := by
  have h := rem_any _ 1 1 [1] _ (reads_new w [1] (0, 0)) (by unfold Byts; decide) rfl (by decide)
  rw [one_rem] at h
  exact h.mono fun e w' ⟨he, hk⟩ => ⟨he, ((Kept.refl [] w).alloc _).trans hk⟩

set_option maxHeartbeats 1000000 in
set_option maxRecDepth 1000000 in
theorem shown_any (w : World) : Calls Try.prog 9 #[] w fun e w' => e = .returned (.bool true) ∧ Kept [] w w' := by
  have hcv := Lib.run_convert_bytes_const (P := Try.prog) w 22 5 #[.int .u8 49, .int .u8 50, .int .u8 51, .int .u8 52, .int .u8 53, .int .u8 54, .int .u8 55, .int .u8 56, .int .u8 57] 9 9 Try.underlying22 Try.underlying5
  go_enter Try.func9, Try.ntmps9
  go_wp2_with (first
    | (go_at_call 15; refine (shown_sum _).mono ?_; rintro e w1 ⟨rfl, hk1⟩)
    | (go_at_call 19; refine (shown_rem _).mono ?_; rintro e w2 ⟨rfl, hk2⟩)
    | (go_at_call 13; refine (shown_join _).mono ?_; rintro e w3 ⟨rfl, rfl⟩))
  go_ret
  exact ⟨rfl, hk1.trans hk2⟩
end Go.Proofs.Ytpfpmnlklhjggaa
