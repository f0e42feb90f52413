import Derived.Test.YtknkjhfemgiiaaaDoorCd
namespace Go.Proofs.YtknkjhfemgiiaaaDoor
open Go.RowKit

set_option maxHeartbeats 2000000 in
theorem names_any (w : World) (hV : Vs w) (hty : 6 ≤ w.heap.size) : Calls Tryd.prog 3 #[] w fun e w' => e = .returned (.bool true) ∧ Kept [] w w' := by
  have CA := Hid.mk (alive_any w hV hty)
  clear hV hty
  go_enter Tryd.func3, Tryd.ntmps3
  go_wp2_with (go_at_call 4; refine CA.out.mono ?_; rintro e w1 ⟨rfl, k1⟩)
  go_ret
  exact ⟨rfl, k1⟩
end Go.Proofs.YtknkjhfemgiiaaaDoor
namespace Go.Proofs.YtknkjhfemgiiaaaDoor.CCutsNames
open Go.ChangeShapes Go.WideShapes Go.ChangeAt Go.RowKit Cd

/-- A world for the witness. -/
noncomputable def hw (os : Os) : World := { World.holding Tryd.prog os ⟨#[], #[], []⟩ with heap := ((((((World.holding Tryd.prog os ⟨#[], #[], []⟩).heap.modify 3 (lay tabC)).modify 1 (lay etC)).modify 0 (lay rwC)).modify 4 (lay firstC)).modify 5 (lay accC)) }
theorem laid_met1 (os : Os) (args : Array Value) : laidMet Tryd.prog [("unicode/utf8.acceptRanges", Rows.laid_unicode_utf8_acceptRanges), ("dailies/timecode.paces", Rows.laid_dailies_timecode_paces), ("dailies/cuts.rateWords", Rows.laid_dailies_cuts_rateWords), ("unicode/utf8.first", Rows.laid_unicode_utf8_first)] ((hw os).forCall (fun _ _ => 0) ⟨#[], args, []⟩).memory :=
  laidMet_of_run' 300 (by kernel_rfl) (by kernel_rfl)
theorem laid_met2 (os : Os) (args : Array Value) : laidMetH Tryd.prog Rows.cutsNamesRow.laid ((hw os).forCall (fun _ _ => 0) ⟨#[], args, []⟩).memory :=
  laidMetH_of_parts (laid_met1 os args) (by kernel_rfl)

set_option maxRecDepth 100000 in
theorem contract (H : Type) (enc : TypeId × Value → H) (W : World) (args : Array Value) (ds gs : List (DataW H)) (before : List MemPlace)
    (hW : DataW.Whole enc Tryd.prog Tryd.f3.params.toList Rows.cutsNamesSpec.vars false W args.toList ds gs before)
    (hL : laidMetH Tryd.prog Rows.cutsNamesRow.laid W) :
    Calls Tryd.prog 3 args W fun e W' => ∃ v, e = .returned v ∧ Rows.cutsNamesSpec.post enc Tryd.prog Tryd.f3 false true false false W args v W' := by
  have hW' := hW
  obtain ⟨p, q, hA0, hV, rfl, hfz, hnd⟩ := hW
  have hA : DataW.TrodAll enc Tryd.prog W 0 (fun _ => true) true Tryd.f3.params.toList args.toList ds p := hA0
  rw [Tryd.params3] at hA
  obtain ⟨h1, rfl, rfl⟩ := trodAll_nil hA
  obtain rfl : args = #[] := by cases args; simp_all
  obtain ⟨rfl, rfl⟩ := trodVars_none hV
  have h' : laidMet Tryd.prog [("unicode/utf8.acceptRanges", Rows.laid_unicode_utf8_acceptRanges), ("dailies/timecode.paces", Rows.laid_dailies_timecode_paces), ("dailies/cuts.rateWords", Rows.laid_dailies_cuts_rateWords), ("unicode/utf8.first", Rows.laid_unicode_utf8_first)] W ∧ handlesMet Tryd.prog [("errors.errorType", Rows.laid_errors_errorType)] W := hL
  have hVs : Vs W := vs_of h'.1 h'.2 (by simp) (by simp) (by simp) (by simp)
  have hty : 6 ≤ W.heap.size := lt_of_cell (hVs.ut.2 0 (by decide)).1
  clear hA0
  refine (names_any W hVs hty).mono fun r W' ⟨he, hk⟩ => ?_
  have bel := hk.below (Nat.le_refl _) (by simp)
  subst he
  exact ⟨_, rfl, _, _, _, [], _, [], hW', trodAll_mk1 (shut_bool Tryd.underlying4 _), trodAll_mk0, rfl, bel.frame _, fun h => by cases h⟩

theorem reads (os : Os) {H : Type} (enc : TypeId × Value → H) : ∃ places, DataW.whole enc Tryd.prog ((hw os).forCall (fun _ _ => 0) ⟨#[], #[], []⟩).memory Tryd.f3.params.toList Rows.cutsNamesSpec.vars false (#[] : Array Value).toList 8 = some ([], [], places) :=
  ⟨[], by kernel_rfl⟩

set_option maxRecDepth 100000 in
theorem lifted (os : Os) (started : os.Started) (H : Type) (enc : TypeId × Value → H) (F : Stop.Interp) :
    ReturnsInHanded {} Tryd.checked os 3 .any ((OpenSpec.ofChange Rows.cutsNamesSpec).preRow enc Tryd.prog Tryd.f3 Rows.cutsNamesRow.domain false Rows.cutsNamesRow.laid) (((OpenSpec.ofChange Rows.cutsNamesSpec).at F).post enc Tryd.prog Tryd.f3 false true false false) := by
  obtain ⟨places, hx⟩ := reads os enc
  refine returnsInHanded_of_row (C := Tryd.checked) (s := OpenSpec.ofChange Rows.cutsNamesSpec) own started (by kernel_rfl) Tryd.func3
    (witness_row_at (enc := enc) (C := Tryd.checked) false (hw os) #[] rfl (by kernel_rfl) (by kernel_rfl) (by kernel_rfl)
      (OpenSpec.preRow_of_cond 8 hx (by kernel_rfl) (fun k hk => by cases hk) (by kernel_rfl) (laid_met2 os _))) ?_
  intro W base args ds gs before hval hW _ _ _ hL _ _
  exact contract H enc W args ds gs before hW hL

theorem said : Rows.CutsNamesSaid :=
  OpenClaim.holds_of_cond 3 Tryd.f3 rfl rfl rfl rfl rfl rfl rfl ⟨rfl, rfl, rfl, rfl, rfl⟩ rfl rfl rfl rfl rfl (by kernel_rfl) Tryd.func3 (by kernel_rfl)
    (of_decide_eq_true (by kernel_rfl)) (by unfold Func.isWrapper; first | (rw [if_pos (by decide +kernel)]; kernel_rfl) | (rw [if_neg (by decide +kernel)]; exact ⟨rfl, rfl⟩))
    (fun os started H enc _ F => by rw [OpenClaim.pre_eq_preRow]; exact lifted os started H enc F)

theorem plain (f : FuncId) (fn : Func) (hf : Tryd.pinned.checked.prog.funcNamed "dailies/dailieslaw19.CutsNames" = some f) (hfn : Tryd.pinned.checked.prog.funcs[f]? = some fn) :
    true = Tryd.pinned.checked.prog.looks [] ∧ ∀ (j : Nat) t, fn.params[j]? = some t → Tryd.pinned.checked.prog.wantsStandIn t = false := by
  obtain rfl : f = 3 := Option.some.inj ((show Tryd.prog.funcNamed "dailies/dailieslaw19.CutsNames" = some 3 by kernel_rfl).symm.trans hf) |>.symm
  obtain rfl : fn = Tryd.f3 := (Option.some.inj (Tryd.func3.symm.trans hfn)).symm
  refine ⟨by kernel_rfl, fun j t ht => ?_⟩
  rw [Tryd.params3] at ht
  simp at ht
end Go.Proofs.YtknkjhfemgiiaaaDoor.CCutsNames
namespace Go.Proofs.YtknkjhfemgiiaaaDoor

theorem cutsNames_holds : Rows.CutsNamesCardSaid :=
  Claim7.holds_tied_plain_at .later [] _ _ _ _ CCutsNames.said (fun _ h => by cases h) (by kernel_rfl) (fun _ h => by cases h) cutsNames_row_tie rfl ⟨rfl, rfl⟩ (by kernel_rfl) rfl CCutsNames.plain (by kernel_rfl)
#print axioms cutsNames_holds
end Go.Proofs.YtknkjhfemgiiaaaDoor
