import Derived.Test.YtgjjnkhkjnkahaaDoorCd
import Derived.Test.YtgjjnkhkjnkahaaDoorBe
import Derived.Test.YtgjjnkhkjnkahaaDoorOq
namespace Go.Proofs.YtgjjnkhkjnkahaaDoor
open Go.RowKit

theorem wf_in {x : Int} (h : (Lit.int .i64 x).wf = true) : -9223372036854775808 ≤ x ∧ x ≤ 9223372036854775807 := by
  simp [Lit.wf] at h
  have h1 : IntKind.i64.min = -9223372036854775808 := by decide
  have h2 : IntKind.i64.max = 9223372036854775807 := by decide
  omega
theorem between_any (W H D : Int) (A : Bool) (po : Option Addr) (n c : Nat) (ln : Nat → Nat) (F : Nat → Nat → Nat) (W2 H2 D2 : Int) (A2 : Bool) (po2 : Option Addr) (n2 c2 : Nat) (ln2 : Nat → Nat) (G : Nat → Nat → Nat) (p0 o0 : Int) (w : World) (hT : Tc.Tb w)
    (hr : Pl w po n ln F) (hn : n ≤ 9223372036854775807) (hln : ∀ i, i < n → ln i ≤ 9223372036854775807) (hr2 : Pl w po2 n2 ln2 G) (hn2 : n2 ≤ 9223372036854775807) (hln2 : ∀ i, i < n2 → ln2 i ≤ 9223372036854775807) (hp0 : -9223372036854775808 ≤ p0 ∧ p0 ≤ 9223372036854775807) (ho0 : -9223372036854775808 ≤ o0 ∧ o0 ≤ 9223372036854775807) :
    Calls Tryd.prog 4 #[frv W H D A po n c, frv W2 H2 D2 A2 po2 n2 c2, .int .i64 p0, .int .i64 o0] w fun e w' => e = .returned (.bool true) ∧ Kept [] w w' := by
  by_cases hE : mixE W H D A n ln F W2 H2 D2 A2 n2 ln2 G 0 1 = 0
  · obtain ⟨-, h1, h2, rfl, rfl, rfl, rfl⟩ := mixE_ok hE
    obtain rfl : n2 = n := by rw [h1.num, h2.num]
    exact between_yes W H D A po n2 c ln F po2 c2 ln2 G p0 o0 w hT hr hr2 h1 h2 hp0 ho0
  · exact between_no W H D A po n c ln F W2 H2 D2 A2 po2 n2 c2 ln2 G p0 o0 w hT hr hn hln hr2 hn2 hln2 hE hp0 ho0
end Go.Proofs.YtgjjnkhkjnkahaaDoor
namespace Go.Proofs.YtgjjnkhkjnkahaaDoor.CConformBetween
open Go.ChangeShapes Go.WideShapes Go.ChangeAt Go.RowKit Cd

/-- A world for the witness. -/
noncomputable def hw (os : Os) : World := { World.holding Tryd.prog os ⟨#[], #[], []⟩ with heap := ((((World.holding Tryd.prog os ⟨#[], #[], []⟩).heap.modify 2 (lay tabC)).modify 0 (lay firstC)).modify 1 (lay accC)) }
theorem laid_met (os : Os) (args : Array Value) : laidMet Tryd.prog [("unicode/utf8.acceptRanges", Rows.laid_unicode_utf8_acceptRanges), ("dailies/timecode.paces", Rows.laid_dailies_timecode_paces), ("unicode/utf8.first", Rows.laid_unicode_utf8_first)] ((hw os).forCall (fun _ _ => 0) ⟨#[], args, []⟩).memory :=
  laidMet_of_run' 300 (by kernel_rfl) (by kernel_rfl)
theorem laid_met2 (os : Os) (args : Array Value) : laidMetH Tryd.prog Rows.conformBetweenRow.laid ((hw os).forCall (fun _ _ => 0) ⟨#[], args, []⟩).memory :=
  laidMetH_of_parts (laid_met os args) (by kernel_rfl)

set_option maxRecDepth 100000 in
theorem contract (H : Type) (enc : TypeId × Value → H) (W : World) (base : Nat) (args : Array Value) (ds gs : List (DataW H)) (before : List MemPlace)
    (hval0 : ∀ (j : Nat) t v, Tryd.f4.params[j]? = some t → args[j]? = some v → Value.okWide Tryd.prog W .any base t v)
    (hW : DataW.Whole enc Tryd.prog Tryd.f4.params.toList Rows.conformBetweenSpec.vars false W args.toList ds gs before)
    (hL : laidMetH Tryd.prog Rows.conformBetweenRow.laid W) :
    Calls Tryd.prog 4 args W fun e W' => ∃ v, e = .returned v ∧ Rows.conformBetweenSpec.post enc Tryd.prog Tryd.f4 false true false false W args v W' := by
  have hval : ∀ (j : Nat) t v, Tryd.f4.params[j]? = some t → args[j]? = some v → Value.okWide Tryd.prog W .any base t v := hval0
  have hW' := hW
  obtain ⟨p, q, hA0, hV, rfl, hfz, hnd⟩ := hW
  have hA : DataW.TrodAll enc Tryd.prog W 0 (fun _ => true) true Tryd.f4.params.toList args.toList ds p := hA0
  rw [Tryd.params4] at hA hval
  obtain ⟨v0, vs0, d0, ds0, p0, q0, hargs, rfl, rfl, h0, r0⟩ := trodAll_cons hA
  obtain ⟨v1, vs1, d1, ds1, p1, q1, rfl, rfl, rfl, h1, r1⟩ := trodAll_cons r0
  obtain ⟨v2, vs2, d2, ds2, p2, q2, rfl, rfl, rfl, h2, r2⟩ := trodAll_cons r1
  obtain ⟨v3, vs3, d3, ds3, p3, q3, rfl, rfl, rfl, h3, r3⟩ := trodAll_cons r2
  obtain ⟨rfl, rfl, rfl⟩ := trodAll_nil r3
  obtain rfl : args = #[v0, v1, v2, v3] := by cases args; simp_all
  obtain ⟨rfl, rfl⟩ := trodVars_none hV
  have k0 := h0
  have lt0 : ∀ x ∈ p0, x.block < W.heap.size := by obtain ⟨m, hm⟩ := k0; exact DataW.trod_lt m _ _ _ hm
  obtain ⟨a0, b0, e0, x0, po0, n0, c0, ln0, F0, rfl, g0, hF0, hn0, hl0⟩ := open_frame (hval 0 29 v0 rfl rfl) h0
  have k1 := h1
  have lt1 : ∀ x ∈ p1, x.block < W.heap.size := by obtain ⟨m, hm⟩ := k1; exact DataW.trod_lt m _ _ _ hm
  obtain ⟨a1, b1, e1, x1, po1, n1, c1, ln1, F1, rfl, g1, hF1, hn1, hl1⟩ := open_frame (hval 1 29 v1 rfl rfl) h1
  obtain ⟨y2, rfl, rfl, rfl, w2⟩ := open_int Tryd.underlying3 (hval 2 3 v2 rfl rfl) h2
  obtain ⟨y3, rfl, rfl, rfl, w3⟩ := open_int Tryd.underlying3 (hval 3 3 v3 rfl rfl) h3
  have h' : laidMet Tryd.prog [("unicode/utf8.acceptRanges", Rows.laid_unicode_utf8_acceptRanges), ("dailies/timecode.paces", Rows.laid_dailies_timecode_paces), ("unicode/utf8.first", Rows.laid_unicode_utf8_first)] W := hL
  have hT : Tc.Tb W := tb_of h' (by simp)
  clear hA0 hval0
  refine (between_any a0 b0 e0 x0 po0 n0 c0 ln0 F0 a1 b1 e1 x1 po1 n1 c1 ln1 F1 y2 y3 W hT g0.pl hn0 hl0 g1.pl hn1 hl1 (wf_in w2) (wf_in w3)).mono fun r W' ⟨he, hk⟩ => ?_
  have bel := hk.below (Nat.le_refl _) (by simp)
  subst he
  exact ⟨_, rfl, _, _, _, [], _, [], hW', trodAll_mk1 (shut_bool Tryd.underlying4 _), (trodAll_cons_mk (Below.trod laidOut (by kernel_rfl) (of_decide_eq_true (by kernel_rfl)) k0 bel lt0) (trodAll_cons_mk (Below.trod laidOut (by kernel_rfl) (of_decide_eq_true (by kernel_rfl)) k1 bel lt1) (trodAll_cons_mk (shut_int Tryd.underlying3 w2) (trodAll_cons_mk (shut_int Tryd.underlying3 w3) trodAll_mk0)))), rfl, bel.frame _, fun h => by cases h⟩

theorem reads (os : Os) {H : Type} (enc : TypeId × Value → H) : ∃ places, DataW.whole enc Tryd.prog ((hw os).forCall (fun _ _ => 0) ⟨#[], #[.agg #[.int .i64 0, .int .i64 0, .int .i64 0, .bool false, .slice none 0 0], .agg #[.int .i64 0, .int .i64 0, .int .i64 0, .bool false, .slice none 0 0], .int .i64 0, .int .i64 0], []⟩).memory Tryd.f4.params.toList Rows.conformBetweenSpec.vars false #[Value.agg #[.int .i64 0, .int .i64 0, .int .i64 0, .bool false, .slice none 0 0], Value.agg #[.int .i64 0, .int .i64 0, .int .i64 0, .bool false, .slice none 0 0], Value.int .i64 0, Value.int .i64 0].toList 8 = some ([.agg [.agg [.lit (.int .i64 0), .lit (.int .i64 0), .lit (.int .i64 0), .lit (.bool false)], .nil], .agg [.agg [.lit (.int .i64 0), .lit (.int .i64 0), .lit (.int .i64 0), .lit (.bool false)], .nil], .lit (.int .i64 0), .lit (.int .i64 0)], [], places) :=
  ⟨[], by kernel_rfl⟩

set_option maxRecDepth 100000 in
theorem lifted (os : Os) (started : os.Started) (H : Type) (enc : TypeId × Value → H) (F : Stop.Interp) :
    ReturnsInHanded {} Tryd.checked os 4 .any ((OpenSpec.ofChange Rows.conformBetweenSpec).preRow enc Tryd.prog Tryd.f4 Rows.conformBetweenRow.domain false Rows.conformBetweenRow.laid) (((OpenSpec.ofChange Rows.conformBetweenSpec).at F).post enc Tryd.prog Tryd.f4 false true false false) := by
  obtain ⟨places, hx⟩ := reads os enc
  refine returnsInHanded_of_row (C := Tryd.checked) (s := OpenSpec.ofChange Rows.conformBetweenSpec) own started (by kernel_rfl) Tryd.func4
    (witness_row_at (enc := enc) (C := Tryd.checked) false (hw os) #[.agg #[.int .i64 0, .int .i64 0, .int .i64 0, .bool false, .slice none 0 0], .agg #[.int .i64 0, .int .i64 0, .int .i64 0, .bool false, .slice none 0 0], .int .i64 0, .int .i64 0] rfl (by kernel_rfl) (by kernel_rfl) (by kernel_rfl)
      (OpenSpec.preRow_of_cond 8 hx (by kernel_rfl) (fun k hk => by cases hk) (by kernel_rfl) (laid_met2 os _))) ?_
  intro W base args ds gs before hval hW _ _ _ hL _ _
  exact contract H enc W base args ds gs before hval hW hL

theorem said : Rows.ConformBetweenSaid :=
  OpenClaim.holds_of_cond 4 Tryd.f4 rfl rfl rfl rfl rfl rfl rfl ⟨rfl, rfl, rfl, rfl, rfl⟩ rfl rfl rfl rfl rfl (by kernel_rfl) Tryd.func4 (by kernel_rfl)
    (of_decide_eq_true (by kernel_rfl)) (by unfold Func.isWrapper; first | (rw [if_pos (by decide +kernel)]; kernel_rfl) | (rw [if_neg (by decide +kernel)]; exact ⟨rfl, rfl⟩))
    (fun os started H enc _ F => by rw [OpenClaim.pre_eq_preRow]; exact lifted os started H enc F)

theorem plain (f : FuncId) (fn : Func) (hf : Tryd.pinned.checked.prog.funcNamed "dailies/dailieslaw20.ConformBetween" = some f) (hfn : Tryd.pinned.checked.prog.funcs[f]? = some fn) :
    false = Tryd.pinned.checked.prog.looks [] ∧ ∀ (j : Nat) t, fn.params[j]? = some t → Tryd.pinned.checked.prog.wantsStandIn t = false := by
  obtain rfl : f = 4 := Option.some.inj ((show Tryd.prog.funcNamed "dailies/dailieslaw20.ConformBetween" = some 4 by kernel_rfl).symm.trans hf) |>.symm
  obtain rfl : fn = Tryd.f4 := (Option.some.inj (Tryd.func4.symm.trans hfn)).symm
  refine ⟨by kernel_rfl, fun j t ht => ?_⟩
  rw [Tryd.params4] at ht
  have h := Array.mem_of_getElem? ht
  simp at h
  rcases h with rfl | rfl
  · exact (show Tryd.prog.wantsStandIn 29 = false by kernel_rfl)
  · exact (show Tryd.prog.wantsStandIn 3 = false by kernel_rfl)
end Go.Proofs.YtgjjnkhkjnkahaaDoor.CConformBetween
namespace Go.Proofs.YtgjjnkhkjnkahaaDoor

theorem conformBetween_holds : Rows.ConformBetweenCardSaid :=
  Claim7.holds_tied_plain_at .later [] _ _ _ _ CConformBetween.said (fun _ h => by cases h) (by kernel_rfl) (fun _ h => by cases h) conformBetween_row_tie rfl ⟨rfl, rfl⟩ (by kernel_rfl) rfl CConformBetween.plain (by kernel_rfl)
#print axioms conformBetween_holds
end Go.Proofs.YtgjjnkhkjnkahaaDoor
