import Derived.Test.YtdnbjbdokppfnaaDoorCards
import Derived.Test.YtdnbjbdokppfnaaDoorTie
import Derived.Test.YtdnbjbdokppfnaaDoorE2
import Derived.ProofKit
import Derived.OpenShut
import Derived.ShutString
import Derived.SizedLaws
import Derived.Deep.DeepHandedRow
import Derived.Lib.LaidTab
import Derived.Lib.SmallJoins
namespace Go.Proofs.YtdnbjbdokppfnaaDoor.Cd
open Go.ChangeShapes Go.WideShapes Go.ChangeAt Go.RowKit Go.Lib Go.Deep

theorem own : ownKnob Tryd.prog.godebug = none := by kernel_rfl
theorem laidOut : laidOutB Tryd.prog = true := by kernel_rfl
theorem gTab : Tryd.prog.globalNamed "dailies/timecode.paces" = some 0 := by kernel_rfl
theorem gTabType : (Tryd.prog.globals[0]?).map (·.type) = some 85 := by kernel_rfl
theorem cells85 : Tryd.prog.cellsOf 85 = 28 := by kernel_rfl
theorem cells54 : Tryd.prog.cellsOf 54 = 4 := by kernel_rfl
theorem cells3 : Tryd.prog.cellsOf 3 = 1 := by kernel_rfl
theorem cells2 : Tryd.prog.cellsOf 2 = 1 := by kernel_rfl
/-- The table, entry for entry. -/
def ent {H : Type} (i : Nat) : DataW H := .agg [.lit (.int .i64 (rc (i + 1))), .lit (.int .i64 (ra (i + 1))), .lit (.int .i64 (rb (i + 1))), .lit (.int .i64 (rl (i + 1)))]
theorem laid_ent {H : Type} : (Rows.laid_dailies_timecode_paces : DataW H) = .agg ((List.range 7).map ent) := rfl

theorem one_int {H : Type} {enc : TypeId × Value → H} {w : World} {b : Nat} {sp : Nat → Bool} {held : Bool} {n t : Nat} {l : List Value} (ht : Tryd.prog.underlying t = some (.int .i64)) {y : DataW H × List MemPlace} (h : DataW.trod enc Tryd.prog w b sp held n t l = some y) : ∃ z, l = [.int .i64 z] ∧ y.1 = .lit (.int .i64 z) := by
  obtain ⟨z, e, h1, _⟩ := DataW.trod_int ht h
  exact ⟨z, e, by rw [h1]⟩
theorem at_drop {l : List Value} {k : Nat} {v : Value} (h : (l.drop k).take 1 = [v]) : l[k]? = some v := by
  have := congrArg (·[0]?) h
  simpa [List.getElem?_take, List.getElem?_drop] using this
theorem in_take {l : List Value} {k : Nat} {v : Value} (i j : Nat) (hj : j < 4) (h : ((l.drop i).take 4)[j]? = some v) (hk : k = i + j) : l[k]? = some v := by
  subst hk
  rw [List.getElem?_take_of_lt hj, List.getElem?_drop] at h
  exact h
theorem tab_cells {H : Type} {enc : TypeId × Value → H} {w : World} {b : Nat} {sp : Nat → Bool} {held : Bool} {fuel : Nat} {cs : List Value} {p : List MemPlace} (h : DataW.trod enc Tryd.prog w b sp held fuel 85 cs = some (.agg ((List.range 7).map ent), p)) (i : Nat) (hi : i < 7) :
    cs[i * 4]? = some (.int .i64 (rc (i + 1))) ∧ cs[i * 4 + 1]? = some (.int .i64 (ra (i + 1))) ∧ cs[i * 4 + 2]? = some (.int .i64 (rb (i + 1))) ∧ cs[i * 4 + 3]? = some (.int .i64 (rl (i + 1))) := by
  cases fuel with
  | zero => simp [DataW.trod] at h
  | succ fuel =>
    simp only [DataW.trod, Tryd.underlying85, cells85, cells54] at h
    split at h
    · obtain ⟨xs, hm, hx⟩ := Option.map_eq_some_iff.1 h
      have hxs : xs.map (·.1) = (List.range 7).map (ent (H := H)) := by
        have := congrArg Prod.fst hx
        simpa using this
      obtain ⟨y, hy, hf⟩ := mapM_at hm i i (by simp [hi])
      obtain ⟨y0, y1, y2, y3, n, rfl, _, h0, h1, h2, h3⟩ := Joins.trod_struct4 Tryd.underlying54 hf
      have h4 : (xs.map (·.1))[i]? = some (DataW.agg [y0.1, y1.1, y2.1, y3.1]) := by simp [hy]
      rw [hxs] at h4
      simp [hi, ent] at h4
      simp only [cells3, cells2] at h0 h1 h2 h3
      obtain ⟨z0, e0, g0⟩ := one_int Tryd.underlying3 h0
      obtain ⟨z1, e1, g1⟩ := one_int Tryd.underlying2 h1
      obtain ⟨z2, e2, g2⟩ := one_int Tryd.underlying2 h2
      obtain ⟨z3, e3, g3⟩ := one_int Tryd.underlying3 h3
      rw [g0, g1, g2, g3] at h4
      simp at h4
      obtain ⟨q0, q1, q2, q3⟩ := h4
      subst q0 q1 q2 q3
      exact ⟨in_take (i * 4) 0 (by omega) (at_drop e0) (by omega), in_take (i * 4) 1 (by omega) (at_drop e1) (by omega), in_take (i * 4) 2 (by omega) (at_drop e2) (by omega), in_take (i * 4) 3 (by omega) (at_drop e3) (by omega)⟩
    · cases h
theorem tab {W : World} {rest : List (String × DataW Unit)} (h : laidMet Tryd.prog (("dailies/timecode.paces", Rows.laid_dailies_timecode_paces) :: rest) W) : Tb W := by
  obtain ⟨ps, ⟨g', t', cs, fuel, p, q, hg', ht', hvar, hd, _, _⟩, _⟩ := h
  obtain rfl := Option.some.inj (gTab.symm.trans hg')
  obtain rfl := Option.some.inj (gTabType.symm.trans ht')
  rw [laid_ent] at hd
  intro i hi
  obtain ⟨a, b, c, d⟩ := tab_cells hd i hi
  have hc := fun k => World.var?_cell gTab hvar k
  exact ⟨by rw [hc]; simpa using a, by rw [hc]; simpa using b, by rw [hc]; simpa using c, by rw [hc]; simpa using d⟩
theorem cells51 : Tryd.prog.cellsOf 51 = 2 := by kernel_rfl
theorem array2 {α : Type} {a : Array α} (h : a.size = 2) : ∃ x0 x1, a = #[x0, x1] := by
  obtain ⟨l⟩ := a
  match l, h with
  | [x0, x1], _ => exact ⟨x0, x1, rfl⟩
theorem int_bd {H : Type} {enc : TypeId × Value → H} {w : World} {n t : Nat} (ht : Tryd.prog.underlying t = some (.int .i64)) {v : Value} {y : DataW H × List MemPlace} (h : DataW.trod enc Tryd.prog w 0 (fun _ => true) true n t [v] = some y) : ∃ a, v = .int .i64 a ∧ -9223372036854775808 ≤ a ∧ a ≤ 9223372036854775807 := by
  obtain ⟨a, e, _, wa⟩ := DataW.trod_int ht h
  simp at e
  have := bounds_i64 wa
  exact ⟨a, e, by omega, by omega⟩
set_option maxRecDepth 100000 in
/-- Two numbers that came in. -/
theorem open_two {H : Type} {enc : TypeId × Value → H} {W : World} {r : Reach} {b0 : Nat} {v : Value} {d : DataW H} {p : List MemPlace} (hv : Value.okWide Tryd.prog W r b0 51 v) (h : DataW.Trod enc Tryd.prog W 0 (fun _ => true) true 51 v d p) :
    ∃ a b, v = .agg #[.int .i64 a, .int .i64 b] ∧ (-9223372036854775808 ≤ a ∧ a ≤ 9223372036854775807) ∧ (-9223372036854775808 ≤ b ∧ b ≤ 9223372036854775807) := by
  obtain ⟨cs, rfl, hsz⟩ := okWide_struct Tryd.underlying51 hv
  obtain ⟨x0, x1, rfl⟩ := array2 (hsz.trans cells51)
  obtain ⟨fuel, hf⟩ := h
  obtain ⟨y0, y1, m, _, _, h0, h1⟩ := trod_struct2 Tryd.underlying51 hf
  simp only [Value.cells, cells3] at h0 h1
  obtain ⟨a, rfl, ha⟩ := int_bd Tryd.underlying3 h0
  obtain ⟨b, rfl, hb⟩ := int_bd Tryd.underlying3 h1
  exact ⟨a, b, rfl, ha, hb⟩
def lay (cs : Array Value) : Obj → Obj
  | .cells _ t frozen => .cells cs t frozen
  | o => o
def tabC : Array Value := #[.int .i64 24, .int .i64 24, .int .i64 1, .int .i64 0, .int .i64 25, .int .i64 25, .int .i64 1, .int .i64 0, .int .i64 30, .int .i64 30, .int .i64 1, .int .i64 0, .int .i64 30, .int .i64 30000, .int .i64 1001, .int .i64 2, .int .i64 50, .int .i64 50, .int .i64 1, .int .i64 0, .int .i64 60, .int .i64 60, .int .i64 1, .int .i64 0, .int .i64 60, .int .i64 60000, .int .i64 1001, .int .i64 4]
/-- A world for the witness: the settled one, the table as it is laid. -/
theorem laid_met (os : Os) (args : Array Value) : laidMet Tryd.prog [("dailies/timecode.paces", Rows.laid_dailies_timecode_paces)] (({ World.holding Tryd.prog os ⟨#[], #[], []⟩ with heap := (World.holding Tryd.prog os ⟨#[], #[], []⟩).heap.modify 0 (lay tabC) } : World).forCall (fun _ _ => 0) ⟨#[], args, []⟩).memory :=
  laidMet_of_run' 30 (by kernel_rfl) (by kernel_rfl)
end Go.Proofs.YtdnbjbdokppfnaaDoor.Cd
