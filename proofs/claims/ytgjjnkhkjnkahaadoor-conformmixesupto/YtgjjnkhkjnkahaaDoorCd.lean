import Derived.Test.YtgjjnkhkjnkahaaDoorCards
import Derived.Test.YtgjjnkhkjnkahaaDoorTie
import Derived.Test.YtgjjnkhkjnkahaaDoorcA2
import Derived.ProofKit
import Derived.OpenShut
import Derived.ShutString
import Derived.SizedLaws
import Derived.Deep.DeepHandedRow
import Derived.Lib.LaidTab
import Derived.Lib.SmallJoins
import Derived.Lib.LaidU8T
namespace Go.Proofs.YtgjjnkhkjnkahaaDoor.Cd
open Go.ChangeShapes Go.WideShapes Go.ChangeAt Go.RowKit Go.Lib Go.Deep Tc

theorem own : ownKnob Tryd.prog.godebug = none := by kernel_rfl
theorem laidOut : laidOutB Tryd.prog = true := by kernel_rfl
theorem gTab : Tryd.prog.globalNamed "dailies/timecode.paces" = some 2 := by kernel_rfl
theorem gTabType : (Tryd.prog.globals[2]?).map (·.type) = some 110 := by kernel_rfl
theorem cellsA : Tryd.prog.cellsOf 110 = 28 := by kernel_rfl
theorem cellsP : Tryd.prog.cellsOf 100 = 4 := by kernel_rfl
theorem cells3 : Tryd.prog.cellsOf 3 = 1 := by kernel_rfl
theorem cells2 : Tryd.prog.cellsOf 2 = 1 := by kernel_rfl
/-- The table, entry for entry. -/
def ent {H : Type} (i : Nat) : DataW H := .agg [.lit (.int .i64 (rc (i + 1))), .lit (.int .i64 (ra (i + 1))), .lit (.int .i64 (rb (i + 1))), .lit (.int .i64 (rl (i + 1)))]
theorem laid_ent {H : Type} : (Rows.laid_dailies_timecode_paces : DataW H) = .agg ((List.range 7).map ent) := rfl
theorem one_int {H : Type} {enc : TypeId × Value → H} {w : World} {b : Nat} {sp : Nat → Bool} {held : Bool} {n t : Nat} {l : List Value} (ht : Tryd.prog.underlying t = some (.int .i64)) {y : DataW H × List MemPlace} (h : DataW.trod enc Tryd.prog w b sp held n t l = some y) : ∃ z, l = [.int .i64 z] ∧ y.1 = .lit (.int .i64 z) := by
  obtain ⟨z, e, h1, _⟩ := DataW.trod_int ht h
  exact ⟨z, e, by rw [h1]⟩
theorem at_drop {l : List Value} {k : Nat} {v : Value} (h : (l.drop k).take 1 = [v]) : l[k]? = some v := by
  have := congrArg (·[0]?) h
  simpa [List.getElem?_take, List.getElem?_drop] using this
theorem in_take {l : List Value} {k : Nat} {v : Value} (i j : Nat) (hj : j < 4) (h : ((l.drop i).take 4)[j]? = some v) (hk : k = i + j) : l[k]? = some v := by
  subst hk
  rw [List.getElem?_take_of_lt hj, List.getElem?_drop] at h
  exact h
theorem tab_cells {H : Type} {enc : TypeId × Value → H} {w : World} {b : Nat} {sp : Nat → Bool} {held : Bool} {fuel : Nat} {cs : List Value} {p : List MemPlace} (h : DataW.trod enc Tryd.prog w b sp held fuel 110 cs = some (.agg ((List.range 7).map ent), p)) (i : Nat) (hi : i < 7) :
    cs[i * 4]? = some (.int .i64 (rc (i + 1))) ∧ cs[i * 4 + 1]? = some (.int .i64 (ra (i + 1))) ∧ cs[i * 4 + 2]? = some (.int .i64 (rb (i + 1))) ∧ cs[i * 4 + 3]? = some (.int .i64 (rl (i + 1))) := by
  obtain ⟨fuel', d, q, hd, hf⟩ := Go.Lib.array_elem Tryd.underlying110 h i hi
  rw [cellsP] at hf
  obtain ⟨y0, y1, y2, y3, n, e9, _, h0, h1, h2, h3⟩ := Joins.trod_struct4 Tryd.underlying100 hf
  have h4 : d = ent i := by simp [hi] at hd; exact hd.symm
  subst h4
  simp [ent] at e9
  simp only [cells3, cells2] at h0 h1 h2 h3
  obtain ⟨z0, e0, g0⟩ := one_int Tryd.underlying3 h0
  obtain ⟨z1, e1, g1⟩ := one_int Tryd.underlying2 h1
  obtain ⟨z2, e2, g2⟩ := one_int Tryd.underlying2 h2
  obtain ⟨z3, e3, g3⟩ := one_int Tryd.underlying3 h3
  rw [g0, g1, g2, g3] at e9
  simp at e9
  obtain ⟨⟨q0, q1, q2, q3⟩, -⟩ := e9
  subst q0 q1 q2 q3
  exact ⟨in_take (i * 4) 0 (by omega) (at_drop e0) (by omega), in_take (i * 4) 1 (by omega) (at_drop e1) (by omega), in_take (i * 4) 2 (by omega) (at_drop e2) (by omega), in_take (i * 4) 3 (by omega) (at_drop e3) (by omega)⟩
theorem tab {W : World} (h : VarReads Tryd.prog W "dailies/timecode.paces" Rows.laid_dailies_timecode_paces) : Tb W := by
  obtain ⟨g', t', cs, fuel, p, hg', ht', hvar, hd⟩ := h
  obtain rfl := Option.some.inj (gTab.symm.trans hg')
  obtain rfl := Option.some.inj (gTabType.symm.trans ht')
  rw [laid_ent] at hd
  intro i hi
  obtain ⟨a, b, c, d⟩ := tab_cells hd i hi
  have hc := fun k => World.var?_cell gTab hvar k
  exact ⟨by rw [hc]; simpa using a, by rw [hc]; simpa using b, by rw [hc]; simpa using c, by rw [hc]; simpa using d⟩
/-- The table, out of what the row lists. -/
theorem tb_of {W : World} {l : List (String × DataW Unit)} (hL : laidMet Tryd.prog l W) (h2 : ("dailies/timecode.paces", Rows.laid_dailies_timecode_paces) ∈ l) : Tb W := by
  obtain ⟨ps, hl, -⟩ := hL
  exact tab (LaidVars_reads hl _ _ h2)
def lay (cs : Array Value) : Obj → Obj
  | .cells _ t frozen => .cells cs t frozen
  | o => o
def tabC : Array Value := #[.int .i64 24, .int .i64 24, .int .i64 1, .int .i64 0, .int .i64 25, .int .i64 25, .int .i64 1, .int .i64 0, .int .i64 30, .int .i64 30, .int .i64 1, .int .i64 0, .int .i64 30, .int .i64 30000, .int .i64 1001, .int .i64 2, .int .i64 50, .int .i64 50, .int .i64 1, .int .i64 0, .int .i64 60, .int .i64 60, .int .i64 1, .int .i64 0, .int .i64 60, .int .i64 60000, .int .i64 1001, .int .i64 4]
def accC : Array Value := ((List.range 16).flatMap fun i => [Value.int .u8 (accLo i : Int), Value.int .u8 (accHi i : Int)]).toArray
def firstC : Array Value := ((List.range 256).map fun c => Value.int .u8 (firstT c : Int)).toArray
end Go.Proofs.YtgjjnkhkjnkahaaDoor.Cd
