import Derived.Test.YtgjjnkhkjnkahaaDoorOm
import Derived.Test.YtgjjnkhkjnkahaaDoorMx
namespace Go.Proofs.YtgjjnkhkjnkahaaDoor.CConformMixes
open Go.ChangeShapes Go.WideShapes Go.ChangeAt Go.RowKit Go.Deep Cd

/-- A world for the witness. -/
noncomputable def hw (os : Os) : World := { World.holding Tryd.prog os ⟨#[], #[], []⟩ with heap := ((((World.holding Tryd.prog os ⟨#[], #[], []⟩).heap.modify 2 (lay tabC)).modify 0 (lay firstC)).modify 1 (lay accC)) }
theorem laid_met (os : Os) (args : Array Value) : laidMet Tryd.prog [("unicode/utf8.acceptRanges", Rows.laid_unicode_utf8_acceptRanges), ("dailies/timecode.paces", Rows.laid_dailies_timecode_paces), ("unicode/utf8.first", Rows.laid_unicode_utf8_first)] ((hw os).forCall (fun _ _ => 0) ⟨#[], args, []⟩).memory :=
  laidMet_of_run' 300 (by kernel_rfl) (by kernel_rfl)
theorem laid_met2 (os : Os) (args : Array Value) : laidMetH Tryd.prog Rows.conformMixesUptoRow.laid ((hw os).forCall (fun _ _ => 0) ⟨#[], args, []⟩).memory :=
  laidMetH_of_parts (laid_met os args) (by kernel_rfl)

set_option maxRecDepth 100000 in
theorem contract (H : Type) (enc : TypeId × Value → H) (W : World) (base : Nat) (args : Array Value) (ds gs : List (DataW H)) (before : List MemPlace)
    (hval0 : ∀ (j : Nat) t v, Tryd.f3.params[j]? = some t → args[j]? = some v → Value.okWide Tryd.prog W .any base t v)
    (hW : DataW.Whole enc Tryd.prog Tryd.f3.params.toList Rows.conformMixesSpec.vars false W args.toList ds gs before) (hk : Rows.uptoSmall H (ds ++ gs) = true)
    (hL : laidMetH Tryd.prog Rows.conformMixesUptoRow.laid W) :
    Calls Tryd.prog 3 args W fun e W' => ∃ v, e = .returned v ∧ Rows.conformMixesSpec.post enc Tryd.prog Tryd.f3 false true false false W args v W' := by
  have hval : ∀ (j : Nat) t v, Tryd.f3.params[j]? = some t → args[j]? = some v → Value.okWide Tryd.prog W .any base t v := hval0
  have hW' := hW
  obtain ⟨p, q, hA0, hV, rfl, hfz, hnd⟩ := hW
  have hA : DataW.TrodAll enc Tryd.prog W 0 (fun _ => true) true Tryd.f3.params.toList args.toList ds p := hA0
  rw [Tryd.params3] at hA hval
  obtain ⟨v0, vs0, d0, ds0, p0, q0, hargs, rfl, rfl, h0, r0⟩ := trodAll_cons hA
  obtain ⟨rfl, rfl, rfl⟩ := trodAll_nil r0
  obtain rfl : args = #[v0] := by cases args; simp_all
  obtain ⟨rfl, rfl⟩ := trodVars_none hV
  obtain ⟨a0, len0, cap0, rfl⟩ := okWide_slice Tryd.underlying22 (hval 0 22 v0 rfl rfl)
  have k0 := h0
  have lt0 : ∀ x ∈ p0, x.block < W.heap.size := by obtain ⟨m, hm⟩ := k0; exact DataW.trod_lt m _ _ _ hm
  have h' : laidMet Tryd.prog [("unicode/utf8.acceptRanges", Rows.laid_unicode_utf8_acceptRanges), ("dailies/timecode.paces", Rows.laid_dailies_timecode_paces), ("unicode/utf8.first", Rows.laid_unicode_utf8_first)] W := hL
  have hT : Tc.Tb W := tb_of h' (by simp)
  have hk1 : Rows.uptoBulkAll [d0] ≤ 1048576 := of_decide_eq_true hk
  have hk2 : Rows.uptoBulk d0 ≤ 1048576 := Nat.le_trans (bulk_part (by simp)) hk1
  have walk : Calls Tryd.prog 3 #[.slice a0 len0 cap0] W fun e w' => e = .returned (.bool true) ∧ Kept [] W w' := by
    obtain ⟨fuel, hf⟩ := h0
    rcases open_slice Tryd.underlying22 hf with ⟨hcs, _⟩ | ⟨a, len, cap, m, n, D, Pl, hcs, _, hl, hm, hmm, hx, hc⟩
    · simp [Value.cells] at hcs
      obtain ⟨rfl, rfl, rfl⟩ := hcs
      exact mixes_any none 0 [] W hT (.inl rfl) (fun x hx => by simp at hx) (by simp)
    · simp [Value.cells] at hcs
      obtain ⟨rfl, rfl, rfl⟩ := hcs
      simp only [if_true] at hmm
      rw [hmm] at hc hx
      have hd : d0 = .slice ((List.range len0).map D) ((List.range (cap0 - len0)).map fun j => D (len0 + j)) := congrArg Prod.fst hx
      rw [hd] at hk2
      have hke : Rows.uptoBulkAll ((List.range len0).map D) ≤ 1048576 := by
        simp only [Rows.uptoBulk] at hk2
        omega
      have each : ∀ i, i < len0 → ∃ q, IsMix W a i q := fun i hi => by
        obtain ⟨cs', h1, h2⟩ := hc i (by omega)
        rw [Tryd.cellsMx] at h1
        exact open_mix h1 h2 (Nat.le_trans (bulk_part (List.mem_map.2 ⟨i, List.mem_range.2 hi, rfl⟩)) hke)
      obtain ⟨f, hf2⟩ := @choose_lt Mi ⟨⟨⟨0, 0, 0, false, none, 0, 0, fun _ => 0, fun _ _ => 0⟩, ⟨0, 0, 0, false, none, 0, 0, fun _ => 0, fun _ _ => 0⟩, 0, 0⟩⟩ _ _ each
      have h6 := bulk_len ((List.range len0).map D)
      simp only [List.length_map, List.length_range] at h6
      obtain ⟨b, off, spot⟩ := a
      have eL : ((List.range len0).map f).length = len0 := by simp
      have hms : Ms W (some ⟨b, off, spot⟩) ((List.range len0).map f) := by
        by_cases h0 : len0 = 0
        · exact .inl (by subst h0; rfl)
        · have hspot : spot = none := by simpa [Addr.add] using World.cell?_spot (hf2 0 (by omega)).1.1.1
          subst hspot
          refine .inr ⟨b, off, rfl, fun i x hx => ?_⟩
          have hi : i < len0 := by have := (List.getElem?_eq_some_iff.1 hx).1; rw [eL] at this; exact this
          have ex : x = f i := by simp [hi] at hx; exact hx.symm
          subst ex
          obtain ⟨⟨⟨e0, e1, e2, e3, e4⟩, ⟨e5, e6, e7, e8, e9⟩, e10, e11⟩, -⟩ := hf2 i hi
          rw [add_plain] at e0 e1 e2 e3 e4 e5 e6 e7 e8 e9 e10 e11
          exact ⟨⟨e0, e1, e2, e3, e4⟩, ⟨e5, e6, e7, e8, e9⟩, e10, e11⟩
      have hall : ∀ x ∈ (List.range len0).map f, x.a.Ok W ∧ x.b.Ok W ∧ (-9223372036854775808 ≤ x.p ∧ x.p ≤ 9223372036854775807) ∧ (-9223372036854775808 ≤ x.o ∧ x.o ≤ 9223372036854775807) := fun x hx => by
        obtain ⟨i, hi, rfl⟩ := List.mem_map.1 hx
        exact (hf2 i (List.mem_range.1 hi)).2
      have h := mixes_any (some ⟨b, off, spot⟩) cap0 ((List.range len0).map f) W hT hms hall (by rw [eL]; omega)
      rw [eL] at h
      exact h
  clear hA0 hval0
  refine walk.mono fun e W' ⟨he, hkk⟩ => ?_
  have bel := hkk.below (Nat.le_refl _) (by simp)
  subst he
  exact ⟨_, rfl, _, _, _, [], _, [], hW', trodAll_mk1 (shut_bool Tryd.underlying4 _), (trodAll_cons_mk (Below.trod laidOut (by kernel_rfl) (of_decide_eq_true (by kernel_rfl)) k0 bel lt0) trodAll_mk0), rfl, bel.frame _, fun h => by cases h⟩

theorem reads (os : Os) {H : Type} (enc : TypeId × Value → H) : ∃ places, DataW.whole enc Tryd.prog ((hw os).forCall (fun _ _ => 0) ⟨#[], #[.slice none 0 0], []⟩).memory Tryd.f3.params.toList Rows.conformMixesSpec.vars false #[Value.slice none 0 0].toList 8 = some ([.nil], [], places) :=
  ⟨[], by kernel_rfl⟩

set_option maxRecDepth 100000 in
theorem lifted (os : Os) (started : os.Started) (H : Type) (enc : TypeId × Value → H) (F : Stop.Interp) :
    ReturnsInHanded {} Tryd.checked os 3 .any ((Rows.OpenSpec.upto Rows.conformMixesSpec).preRow enc Tryd.prog Tryd.f3 Rows.conformMixesUptoRow.domain false Rows.conformMixesUptoRow.laid) (((Rows.OpenSpec.upto Rows.conformMixesSpec).at F).post enc Tryd.prog Tryd.f3 false true false false) := by
  obtain ⟨places, hx⟩ := reads os enc
  refine returnsInHanded_of_row (C := Tryd.checked) (s := Rows.OpenSpec.upto Rows.conformMixesSpec) own started (by kernel_rfl) Tryd.func3
    (witness_row_at (enc := enc) (C := Tryd.checked) false (hw os) #[.slice none 0 0] rfl (by kernel_rfl) (by kernel_rfl) (by kernel_rfl)
      (OpenSpec.preRow_of_cond 8 hx (by kernel_rfl) (fun k hk => by cases hk; kernel_rfl) (by kernel_rfl) (laid_met2 os _))) ?_
  intro W base args ds gs before hval hW _ hcond _ hL _ _
  exact contract H enc W base args ds gs before hval hW (hcond _ rfl) hL

theorem said : Rows.ConformMixesUptoSaid :=
  OpenClaim.holds_of_cond 3 Tryd.f3 rfl rfl rfl rfl rfl rfl rfl ⟨rfl, rfl, rfl, rfl, rfl⟩ rfl rfl rfl rfl rfl (by kernel_rfl) Tryd.func3 (by kernel_rfl)
    (of_decide_eq_true (by kernel_rfl)) (by unfold Func.isWrapper; first | (rw [if_pos (by decide +kernel)]; kernel_rfl) | (rw [if_neg (by decide +kernel)]; exact ⟨rfl, rfl⟩))
    (fun os started H enc _ F => by rw [OpenClaim.pre_eq_preRow]; exact lifted os started H enc F)

theorem plain (f : FuncId) (fn : Func) (hf : Tryd.pinned.checked.prog.funcNamed "dailies/dailieslaw20.ConformMixes" = some f) (hfn : Tryd.pinned.checked.prog.funcs[f]? = some fn) :
    false = Tryd.pinned.checked.prog.looks [] ∧ ∀ (j : Nat) t, fn.params[j]? = some t → Tryd.pinned.checked.prog.wantsStandIn t = false := by
  obtain rfl : f = 3 := Option.some.inj ((show Tryd.prog.funcNamed "dailies/dailieslaw20.ConformMixes" = some 3 by kernel_rfl).symm.trans hf) |>.symm
  obtain rfl : fn = Tryd.f3 := (Option.some.inj (Tryd.func3.symm.trans hfn)).symm
  refine ⟨by kernel_rfl, fun j t ht => ?_⟩
  rw [Tryd.params3] at ht
  obtain rfl : t = 22 := by simpa using Array.mem_of_getElem? ht
  exact (show Tryd.prog.wantsStandIn 22 = false by kernel_rfl)
end Go.Proofs.YtgjjnkhkjnkahaaDoor.CConformMixes
namespace Go.Proofs.YtgjjnkhkjnkahaaDoor

theorem conformMixesUpto_holds : Rows.ConformMixesUptoCardSaid :=
  Claim7.holds_tied_plain_at .later [] _ _ _ _ CConformMixes.said (fun _ h => by cases h) (by kernel_rfl) (fun _ h => by cases h) conformMixesUpto_row_tie rfl ⟨rfl, rfl⟩ (by kernel_rfl) rfl CConformMixes.plain (by kernel_rfl)
#print axioms conformMixesUpto_holds
end Go.Proofs.YtgjjnkhkjnkahaaDoor
