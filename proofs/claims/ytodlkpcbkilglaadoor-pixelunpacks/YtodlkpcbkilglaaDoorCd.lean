import Derived.Test.YtodlkpcbkilglaaDoorCards
import Derived.Test.YtodlkpcbkilglaaDoorTie
import Derived.Test.YtodlkpcbkilglaaDoorAlZ
import Derived.ProofKit
import Derived.OpenShut
import Derived.ShutString
import Derived.SizedLaws
import Derived.Deep.DeepHandedRow
import Derived.Lib.LaidTab
import Derived.Lib.SmallJoins
import Derived.Deep.Strs
namespace Go.Proofs.YtodlkpcbkilglaaDoor.Cd
open Go.ChangeShapes Go.WideShapes Go.ChangeAt Go.RowKit Go.Lib Go.Deep

theorem own : ownKnob Tryd.prog.godebug = none := by kernel_rfl
theorem laidOut : laidOutB Tryd.prog = true := by kernel_rfl
theorem gTab : Tryd.prog.globalNamed "dailies/pixel.group" = some 0 := by kernel_rfl
theorem gTabType : (Tryd.prog.globals[0]?).map (·.type) = some 125 := by kernel_rfl
theorem cells125 : Tryd.prog.cellsOf 125 = 36 := by kernel_rfl
theorem cells124 : Tryd.prog.cellsOf 124 = 3 := by kernel_rfl
theorem cells3 : Tryd.prog.cellsOf 3 = 1 := by kernel_rfl
/-- The table, entry for entry. -/
def ent {H : Type} (i : Nat) : DataW H := .agg [.lit (.int .i64 (gP i : Int)), .lit (.int .i64 (gN i : Int)), .lit (.int .i64 (gE i : Int))]
theorem laid_ent {H : Type} : (Rows.laid_dailies_pixel_group : DataW H) = .agg ((List.range 12).map ent) := rfl

theorem one_int {H : Type} {enc : TypeId × Value → H} {w : World} {b : Nat} {sp : Nat → Bool} {held : Bool} {n t : Nat} {l : List Value} (ht : Tryd.prog.underlying t = some (.int .i64)) {y : DataW H × List MemPlace} (h : DataW.trod enc Tryd.prog w b sp held n t l = some y) : ∃ z, l = [.int .i64 z] ∧ y.1 = .lit (.int .i64 z) := by
  obtain ⟨z, e, h1, _⟩ := DataW.trod_int ht h
  exact ⟨z, e, by rw [h1]⟩
theorem at_drop {l : List Value} {k : Nat} {v : Value} (h : (l.drop k).take 1 = [v]) : l[k]? = some v := by
  have := congrArg (·[0]?) h
  simpa [List.getElem?_take, List.getElem?_drop] using this
theorem in_take {l : List Value} {k : Nat} {v : Value} (i j : Nat) (hj : j < 3) (h : ((l.drop i).take 3)[j]? = some v) (hk : k = i + j) : l[k]? = some v := by
  subst hk
  rw [List.getElem?_take_of_lt hj, List.getElem?_drop] at h
  exact h
theorem tab_cells {H : Type} {enc : TypeId × Value → H} {w : World} {b : Nat} {sp : Nat → Bool} {held : Bool} {fuel : Nat} {cs : List Value} {p : List MemPlace} (h : DataW.trod enc Tryd.prog w b sp held fuel 125 cs = some (.agg ((List.range 12).map ent), p)) (i : Nat) (hi : i < 12) :
    cs[i * 3]? = some (.int .i64 (gP i : Int)) ∧ cs[i * 3 + 1]? = some (.int .i64 (gN i : Int)) ∧ cs[i * 3 + 2]? = some (.int .i64 (gE i : Int)) := by
  cases fuel with
  | zero => simp [DataW.trod] at h
  | succ fuel =>
    simp only [DataW.trod, Tryd.underlying125, cells125, cells124] at h
    split at h
    · obtain ⟨xs, hm, hx⟩ := Option.map_eq_some_iff.1 h
      have hxs : xs.map (·.1) = (List.range 12).map (ent (H := H)) := by
        have := congrArg Prod.fst hx
        simpa using this
      obtain ⟨y, hy, hf⟩ := mapM_at hm i i (by simp [hi])
      obtain ⟨y0, y1, y2, n, rfl, _, h0, h1, h2⟩ := trod_struct3 Tryd.underlying124 hf
      have h4 : (xs.map (·.1))[i]? = some (DataW.agg [y0.1, y1.1, y2.1]) := by simp [hy]
      rw [hxs] at h4
      simp [hi, ent] at h4
      simp only [cells3] at h0 h1 h2
      obtain ⟨z0, e0, g0⟩ := one_int Tryd.underlying3 h0
      obtain ⟨z1, e1, g1⟩ := one_int Tryd.underlying3 h1
      obtain ⟨z2, e2, g2⟩ := one_int Tryd.underlying3 h2
      rw [g0, g1, g2] at h4
      simp at h4
      obtain ⟨q0, q1, q2⟩ := h4
      subst q0 q1 q2
      exact ⟨in_take (i * 3) 0 (by omega) (at_drop e0) (by omega), in_take (i * 3) 1 (by omega) (at_drop e1) (by omega), in_take (i * 3) 2 (by omega) (at_drop e2) (by omega)⟩
    · cases h
theorem tab {W : World} {rest : List (String × DataW Unit)} (h : laidMet Tryd.prog (("dailies/pixel.group", Rows.laid_dailies_pixel_group) :: rest) W) : Tab W := by
  obtain ⟨ps, ⟨g', t', cs, fuel, p, q, hg', ht', hvar, hd, _, _⟩, _⟩ := h
  obtain rfl := Option.some.inj (gTab.symm.trans hg')
  obtain rfl := Option.some.inj (gTabType.symm.trans ht')
  rw [laid_ent] at hd
  intro i hi
  obtain ⟨a, b, c⟩ := tab_cells hd i hi
  have hc := fun k => World.var?_cell gTab hvar k
  exact ⟨by rw [hc]; simpa using a, by rw [hc]; simpa using b, by rw [hc]; simpa using c⟩
def lay (cs : Array Value) : Obj → Obj
  | .cells _ t frozen => .cells cs t frozen
  | o => o
def tabC : Array Value := #[.int .i64 1, .int .i64 0, .int .i64 3, .int .i64 0, .int .i64 0, .int .i64 6, .int .i64 2, .int .i64 0, .int .i64 3, .int .i64 0, .int .i64 1, .int .i64 6, .int .i64 1, .int .i64 1, .int .i64 3, .int .i64 0, .int .i64 2, .int .i64 6, .int .i64 2, .int .i64 1, .int .i64 3, .int .i64 0, .int .i64 3, .int .i64 6, .int .i64 1, .int .i64 2, .int .i64 3, .int .i64 0, .int .i64 4, .int .i64 6, .int .i64 2, .int .i64 2, .int .i64 3, .int .i64 0, .int .i64 5, .int .i64 6]
/-- A world for the witness: the settled one, the table as it is laid. -/
theorem laid_met (os : Os) (args : Array Value) : laidMet Tryd.prog [("dailies/pixel.group", Rows.laid_dailies_pixel_group)] (({ World.holding Tryd.prog os ⟨#[], #[], []⟩ with heap := (World.holding Tryd.prog os ⟨#[], #[], []⟩).heap.modify 0 (lay tabC) } : World).forCall (fun _ _ => 0) ⟨#[], args, []⟩).memory :=
  laidMet_of_run' 30 (by kernel_rfl) (by kernel_rfl)
end Go.Proofs.YtodlkpcbkilglaaDoor.Cd
