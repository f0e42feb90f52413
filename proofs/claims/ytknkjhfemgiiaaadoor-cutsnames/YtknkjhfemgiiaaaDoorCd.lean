import Derived.Test.YtknkjhfemgiiaaaDoorCards
import Derived.Test.YtknkjhfemgiiaaaDoorTie
import Derived.Test.YtknkjhfemgiiaaaDoorVh
import Derived.ProofKit
import Derived.OpenShut
import Derived.ShutString
import Derived.SizedLaws
import Derived.Deep.DeepHandedRow
import Derived.Lib.LaidTab
import Derived.Lib.SmallJoins
import Derived.Lib.LaidU8T
import Derived.LaidHandle
namespace Go.Proofs.YtknkjhfemgiiaaaDoor.Cd
open Go.ChangeShapes Go.WideShapes Go.ChangeAt Go.RowKit Go.Lib Go.Deep

theorem own : ownKnob Tryd.prog.godebug = none := by kernel_rfl
theorem laidOut : laidOutB Tryd.prog = true := by kernel_rfl
theorem gTab : Tryd.prog.globalNamed "dailies/timecode.paces" = some 3 := by kernel_rfl
theorem gTabType : (Tryd.prog.globals[3]?).map (·.type) = some 143 := by kernel_rfl
theorem gRw : Tryd.prog.globalNamed "dailies/cuts.rateWords" = some 0 := by kernel_rfl
theorem gRwType : (Tryd.prog.globals[0]?).map (·.type) = some 97 := by kernel_rfl
theorem cellsA : Tryd.prog.cellsOf 143 = 28 := by kernel_rfl
theorem cellsP : Tryd.prog.cellsOf 116 = 4 := by kernel_rfl
theorem cells3 : Tryd.prog.cellsOf 3 = 1 := by kernel_rfl
theorem cells2 : Tryd.prog.cellsOf 2 = 1 := by kernel_rfl
theorem cells9 : Tryd.prog.cellsOf 9 = 1 := by kernel_rfl
/-- The table, entry for entry. -/
def ent {H : Type} (i : Nat) : DataW H := .agg [.lit (.int .i64 (rc (i + 1))), .lit (.int .i64 (ra (i + 1))), .lit (.int .i64 (rb (i + 1))), .lit (.int .i64 (rl (i + 1)))]
theorem laid_ent {H : Type} : (Rows.laid_dailies_timecode_paces : DataW H) = .agg ((List.range 7).map ent) := rfl
theorem one_int {H : Type} {enc : TypeId × Value → H} {w : World} {b : Nat} {sp : Nat → Bool} {held : Bool} {n t : Nat} {l : List Value} (ht : Tryd.prog.underlying t = some (.int .i64)) {y : DataW H × List MemPlace} (h : DataW.trod enc Tryd.prog w b sp held n t l = some y) : ∃ z, l = [.int .i64 z] ∧ y.1 = .lit (.int .i64 z) := by
  obtain ⟨z, e, h1, _⟩ := DataW.trod_int ht h
  exact ⟨z, e, by rw [h1]⟩
theorem at_drop {l : List Value} {k : Nat} {v : Value} (h : (l.drop k).take 1 = [v]) : l[k]? = some v := by
  have := congrArg (·[0]?) h
  simpa [List.getElem?_take, List.getElem?_drop] using this
theorem in_take {l : List Value} {k : Nat} {v : Value} (i j : Nat) (hj : j < 4) (h : ((l.drop i).take 4)[j]? = some v) (hk : k = i + j) : l[k]? = some v := by
  subst hk
  rw [List.getElem?_take_of_lt hj, List.getElem?_drop] at h
  exact h
theorem tab_cells {H : Type} {enc : TypeId × Value → H} {w : World} {b : Nat} {sp : Nat → Bool} {held : Bool} {fuel : Nat} {cs : List Value} {p : List MemPlace} (h : DataW.trod enc Tryd.prog w b sp held fuel 143 cs = some (.agg ((List.range 7).map ent), p)) (i : Nat) (hi : i < 7) :
    cs[i * 4]? = some (.int .i64 (rc (i + 1))) ∧ cs[i * 4 + 1]? = some (.int .i64 (ra (i + 1))) ∧ cs[i * 4 + 2]? = some (.int .i64 (rb (i + 1))) ∧ cs[i * 4 + 3]? = some (.int .i64 (rl (i + 1))) := by
  obtain ⟨fuel', d, q, hd, hf⟩ := Go.Lib.array_elem Tryd.underlying143 h i hi
  rw [cellsP] at hf
  obtain ⟨y0, y1, y2, y3, n, e9, _, h0, h1, h2, h3⟩ := Joins.trod_struct4 Tryd.underlying116 hf
  have h4 : d = ent i := by simp [hi] at hd; exact hd.symm
  subst h4
  simp [ent] at e9
  simp only [cells3, cells2] at h0 h1 h2 h3
  obtain ⟨z0, e0, g0⟩ := one_int Tryd.underlying3 h0
  obtain ⟨z1, e1, g1⟩ := one_int Tryd.underlying2 h1
  obtain ⟨z2, e2, g2⟩ := one_int Tryd.underlying2 h2
  obtain ⟨z3, e3, g3⟩ := one_int Tryd.underlying3 h3
  rw [g0, g1, g2, g3] at e9
  simp at e9
  obtain ⟨⟨q0, q1, q2, q3⟩, -⟩ := e9
  subst q0 q1 q2 q3
  exact ⟨in_take (i * 4) 0 (by omega) (at_drop e0) (by omega), in_take (i * 4) 1 (by omega) (at_drop e1) (by omega), in_take (i * 4) 2 (by omega) (at_drop e2) (by omega), in_take (i * 4) 3 (by omega) (at_drop e3) (by omega)⟩
theorem tab {W : World} (h : VarReads Tryd.prog W "dailies/timecode.paces" Rows.laid_dailies_timecode_paces) : Tb W := by
  obtain ⟨g', t', cs, fuel, p, hg', ht', hvar, hd⟩ := h
  obtain rfl := Option.some.inj (gTab.symm.trans hg')
  obtain rfl := Option.some.inj (gTabType.symm.trans ht')
  rw [laid_ent] at hd
  intro i hi
  obtain ⟨a, b, c, d⟩ := tab_cells hd i hi
  have hc := fun k => World.var?_cell gTab hvar k
  exact ⟨by rw [hc]; simpa using a, by rw [hc]; simpa using b, by rw [hc]; simpa using c, by rw [hc]; simpa using d⟩
theorem rwt {W : World} (h : VarReads Tryd.prog W "dailies/cuts.rateWords" Rows.laid_dailies_cuts_rateWords) : Wt W := by
  obtain ⟨g', t', cs, fuel, p, hg', ht', hvar, hd⟩ := h
  obtain rfl := Option.some.inj (gRw.symm.trans hg')
  obtain rfl := Option.some.inj (gRwType.symm.trans ht')
  intro j hj
  obtain ⟨fuel', d, q, hds, hf⟩ := Go.Lib.array_elem Tryd.underlying97 hd j hj
  rw [cells9] at hf
  obtain ⟨s, e1, e2, -⟩ := DataW.trod_string Tryd.underlying9 hf
  have hb : d = .lit (.string (rwd j).data.toList) := by
    have h8 : j = 0 ∨ j = 1 ∨ j = 2 ∨ j = 3 ∨ j = 4 ∨ j = 5 ∨ j = 6 ∨ j = 7 := by omega
    rcases h8 with rfl | rfl | rfl | rfl | rfl | rfl | rfl | rfl <;> (simp at hds; rw [← hds]; rfl)
  have hs : s = rwd j := by
    have h7 := congrArg Prod.fst e2
    simp only [hb] at h7
    injection h7 with h7
    injection h7 with h7
    have h6 : (rwd j).data = s.data := Array.toList_inj.1 h7
    cases s; cases hr : rwd j; rw [hr] at h6; cases h6; rfl
  rw [World.var?_cell gRw hvar j, ← Array.getElem?_toList]
  rw [at_drop (k := j) (by simpa using e1), hs]
theorem u8x : U8Extra Tryd.prog Tryd.lays196_ren := by constructor <;> kernel_rfl
theorem first_eq : (Rows.laid_unicode_utf8_first : DataW Unit) = firstData := by kernel_rfl
theorem acc_eq : (Rows.laid_unicode_utf8_acceptRanges : DataW Unit) = acceptData := by kernel_rfl
theorem utabs {W : World} (h3 : VarReads Tryd.prog W "unicode/utf8.first" Rows.laid_unicode_utf8_first) (h4 : VarReads Tryd.prog W "unicode/utf8.acceptRanges" Rows.laid_unicode_utf8_acceptRanges) : Ut W := by
  rw [first_eq] at h3
  rw [acc_eq] at h4
  exact utf8Tabs_of_readsT (U8Types.of196 Tryd.lays196) u8x h3 h4
theorem et : Tryd.prog.globalNamed "errors.errorType" = some 1 := by kernel_rfl
theorem rt : (Tryd.prog.cutTypes.find? (·.1 == "internal/reflectlite.rtype")).map (·.2) = some 128 := by kernel_rfl
theorem size : Tryd.prog.types.size = 184 := by kernel_rfl
theorem oneRow : ((List.range 184).filter fun t => Tryd.prog.rowNamed t [101, 114, 114, 111, 114]) = [28] := by kernel_rfl
theorem handle_of {W : World} (h : handlesMet Tryd.prog [("errors.errorType", Rows.laid_errors_errorType)] W) : Et W := by
  obtain ⟨name, u, ty, e1, e2, e3, e4, e5⟩ := h _ (List.mem_singleton.2 rfl)
  have en : name = [101, 114, 114, 111, 114] := (Option.some.inj e1).symm
  subst en
  obtain rfl := Option.some.inj (rt.symm.trans e2)
  have hm : ty ∈ (List.range 184).filter fun t => Tryd.prog.rowNamed t [101, 114, 114, 111, 114] := List.mem_filter.2 ⟨List.mem_range.2 (by rw [← size]; exact e3), e4⟩
  rw [oneRow] at hm
  obtain rfl := List.mem_singleton.1 hm
  have hh : typeHandle Tryd.prog 28 = .pointer (some ⟨6, 28, none⟩) := by kernel_rfl
  rw [hh] at e5
  unfold Et
  simpa using World.var?_cell et e5 0
/-- All variables, out of what the row lists. -/
theorem vs_of {W : World} {l : List (String × DataW Unit)} (hL : laidMet Tryd.prog l W) (hH : handlesMet Tryd.prog [("errors.errorType", Rows.laid_errors_errorType)] W)
    (h1 : ("unicode/utf8.acceptRanges", Rows.laid_unicode_utf8_acceptRanges) ∈ l) (h2 : ("dailies/timecode.paces", Rows.laid_dailies_timecode_paces) ∈ l) (h3 : ("dailies/cuts.rateWords", Rows.laid_dailies_cuts_rateWords) ∈ l) (h4 : ("unicode/utf8.first", Rows.laid_unicode_utf8_first) ∈ l) : Vs W := by
  obtain ⟨ps, hl, -⟩ := hL
  have r := LaidVars_reads hl
  exact ⟨tab (r _ _ h2), rwt (r _ _ h3), utabs (r _ _ h4) (r _ _ h1), handle_of hH⟩
def lay (cs : Array Value) : Obj → Obj
  | .cells _ t frozen => .cells cs t frozen
  | o => o
def tabC : Array Value := #[.int .i64 24, .int .i64 24, .int .i64 1, .int .i64 0, .int .i64 25, .int .i64 25, .int .i64 1, .int .i64 0, .int .i64 30, .int .i64 30, .int .i64 1, .int .i64 0, .int .i64 30, .int .i64 30000, .int .i64 1001, .int .i64 2, .int .i64 50, .int .i64 50, .int .i64 1, .int .i64 0, .int .i64 60, .int .i64 60, .int .i64 1, .int .i64 0, .int .i64 60, .int .i64 60000, .int .i64 1001, .int .i64 4]
def rwC : Array Value := ((List.range 8).map fun j => Value.string (rwd j)).toArray
def etC : Array Value := #[.iface 128 (.agg #[.pointer (some ⟨6, 28, none⟩)])]
def accC : Array Value := ((List.range 16).flatMap fun i => [Value.int .u8 (accLo i : Int), Value.int .u8 (accHi i : Int)]).toArray
def firstC : Array Value := ((List.range 256).map fun c => Value.int .u8 (firstT c : Int)).toArray
end Go.Proofs.YtknkjhfemgiiaaaDoor.Cd
