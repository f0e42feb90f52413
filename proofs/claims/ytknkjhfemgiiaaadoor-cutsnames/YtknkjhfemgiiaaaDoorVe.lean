import Derived.Test.YtknkjhfemgiiaaaDoorSh
import Derived.Test.YtknkjhfemgiiaaaDoorTa
namespace Go.Proofs.YtknkjhfemgiiaaaDoor
open Go.RowKit Go.Lib

def nlB : ByteArray := ⟨#[10]⟩
/-- A text's lines. -/
def rows (s : ByteArray) : List ByteArray := Lib.splitB nlB 0 (Lib.countB s nlB) s
theorem Tryd.hi9 : (Tryd.prog.info? 9).map (fun i => (i.zero, i.size, i.bytes)) = some (some (.string ByteArray.empty), 1, 16) := by kernel_rfl
theorem genSplit_nl (s : ByteArray) (w : World) (hs : s.size < 4294967281) : Calls Tryd.prog 14 #[.string s, .string nlB, .int .i64 0, .int .i64 (-1)] w fun e w' =>
      e = .returned (.slice (some ⟨w.heap.size, 0, none⟩) (rows s).length (Lib.countB s nlB + 1)) ∧ w' = w.alloc (.cells (Lib.cellsOf (rows s) (Lib.countB s nlB + 1)) 9) := by
  have h1 : 1 ≤ nlB.size := by decide
  have hle := Lib.countB_le nlB h1 s.size s (Nat.le_refl _)
  have c := Any.strings_genSplit_core { Tryd.lays146 with } Tryd.hi9 s nlB 0 (-1) (Lib.countB s nlB + 1) w hs h1 (Nat.zero_le _)
    (fun x c _ => by
      have := Any.strings_Index_one { Tryd.lays146 with } x 10 (w.alloc (.cells c (Tryd.lays146_ren.t 9)))
      refine this.mono fun e w' ⟨h1, h2⟩ => ⟨?_, h2⟩
      rw [h1, Lib.one x nlB rfl]; rfl)
    (by
      have := Any.strings_Count_one { Tryd.lays146 with } s 10 w
      refine this.mono fun e w' ⟨h1, h2⟩ => ⟨?_, h2⟩
      rw [h1]
      show _ = Ending.returned (Value.int .i64 ((Lib.count s.data.toList [10] : Nat) : Int))
      rw [Lib.count_one]; rfl)
    (by decide) (by decide) (by rw [if_pos (by decide)]; omega)
  exact c
set_option maxHeartbeats 2000000 in
theorem split_nl (s : ByteArray) (w : World) (hs : s.size < 4294967281) : Calls Tryd.prog 8 #[.string s, .string nlB] w fun e w' =>
      e = .returned (.slice (some ⟨w.heap.size, 0, none⟩) (rows s).length (rows s).length) ∧ w' = w.alloc (.cells ((rows s).map Value.string).toArray 9) := by
  have hlen : (rows s).length = Lib.countB s nlB + 1 := Lib.splitB_all nlB (by decide) 0 _ s rfl
  have c := Hid.mk (genSplit_nl s w hs)
  have e2 : Lib.cellsOf (rows s) (Lib.countB s nlB + 1) = ((rows s).map Value.string).toArray := by rw [← hlen]; exact Lib.cellsOf_full _
  rw [e2, ← hlen] at c
  clear e2 hlen
  unfold nlB at *
  go_enter Tryd.func8, Tryd.ntmps8
  go_wp2_with (go_at_call 14; refine c.out.mono ?_; rintro e w' ⟨rfl, rfl⟩)
  go_ret
  exact ⟨rfl, rfl⟩
/-- The first place where a text is no UTF-8. -/
def reB : ByteArray := ⟨#[239, 191, 189]⟩
def pfx (s : ByteArray) (k : Nat) : Bool := Lib.hasPrefix (s.extract k s.size).data.toList [239, 191, 189]
def ctF (s : ByteArray) : Nat → Nat → Option Nat
  | 0, _ => none
  | f + 1, k => if k < s.size then (if rn s k = 65533 ∧ pfx s k = false then some k else ctF s f (k + dn s k)) else none
theorem ctF_end (s : ByteArray) (f k : Nat) (h : ¬ k < s.size) : ctF s f k = none := by
  cases f with
  | zero => rfl
  | succ f => simp [ctF, h]
theorem ctF_fuel (s : ByteArray) : ∀ (f g k : Nat), s.size ≤ f + k → s.size ≤ g + k → ctF s f k = ctF s g k := by
  intro f
  induction f with
  | zero => intro g k h1 h2; rw [ctF_end _ _ _ (by omega), ctF_end _ _ _ (by omega)]
  | succ f ih =>
    intro g k h1 h2
    by_cases hk : k < s.size
    · cases g with
      | zero => omega
      | succ g =>
        have hd : 1 ≤ dn s k := decode_width_pos s k hk
        simp only [ctF, if_pos hk]
        split
        · rfl
        · exact ih g (k + dn s k) (by omega) (by omega)
    · rw [ctF_end _ _ _ hk, ctF_end _ _ _ hk]
def ctE (s : ByteArray) : Option (Int × Int) := if 20000 < s.size then some (0, 191) else match ctF s s.size 0 with
  | some k => some ((k : Int), 192)
  | none => none
def CtP (s : ByteArray) (w : World) (e : Ending) (w' : World) : Prop := ∃ v, e = .returned v ∧ Ev w' v (ctE s) ∧ Kept [] w w'
theorem hasPre (s : ByteArray) (w : World) : Calls Tryd.prog 13 #[.string s, .string reB] w fun e w' => e = .returned (.bool (Lib.hasPrefix s.data.toList [239, 191, 189])) ∧ w' = w := Any.strings_HasPrefix Tryd.lays99 s reB w
end Go.Proofs.YtknkjhfemgiiaaaDoor
