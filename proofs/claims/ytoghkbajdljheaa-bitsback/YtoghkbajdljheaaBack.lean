import Derived.Test.YtoghkbajdljheaaE2
import Derived.ProofKit
import Derived.OpenShut
import Derived.ShutString
import Derived.ChangeOld
import Derived.SizedLaws
import Derived.Deep.SlicePairs
namespace Go.Proofs.Ytoghkbajdljheaa.Back
open Go.ChangeShapes Go.WideShapes Go.ChangeAt Go.RowKit Go.Deep

theorem own : ownKnob Try.prog.godebug = none := by kernel_rfl
theorem laidOut : laidOutB Try.prog = true := by kernel_rfl
theorem cells61 : Try.prog.cellsOf 61 = 2 := by kernel_rfl
theorem cells42 : Try.prog.cellsOf 42 = 1 := by kernel_rfl
theorem cells3 : Try.prog.cellsOf 3 = 1 := by kernel_rfl
theorem bytes61 : Try.prog.bytesOf 61 = 16 := by kernel_rfl

theorem add_plain (b off i : Nat) : (⟨b, off, none⟩ : Addr).add i = ⟨b, off + i, none⟩ := by unfold Addr.add; split <;> simp_all

set_option maxRecDepth 100000 in
theorem lifted (os : Os) (started : os.Started) (H : Type) (enc : TypeId × Value → H) :
    ReturnsInHanded {} Try.checked os 6 .any (Rows.bitsBackSpec.pre6 enc Try.prog Try.f6 Rows.bitsBackRow.domain false) (Rows.bitsBackSpec.post enc Try.prog Try.f6 false true false false) := by
  refine returnsInHanded_of_change_sized (C := Try.checked) own started (by kernel_rfl) Try.func6
    (ChangeSpec.witness6 (enc := enc) (C := Try.checked) false ⟨#[], #[.slice none 0 0], []⟩ 8 (by kernel_rfl) (by kernel_rfl) (by kernel_rfl) (by kernel_rfl)) ?_
  intro W base args ds gs before hval0 hW hcnd hsz0 _
  have hval : ∀ (j : Nat) t v, Try.f6.params[j]? = some t → args[j]? = some v → Value.okWide Try.prog W .any base t v := hval0
  have hsz : (DataW.weightsEach Try.prog (Try.f6.params.toList ++ Rows.bitsBackSpec.plain.varTypes Try.prog) (ds ++ gs)).all (· ≤ reachBytes) = true := hsz0
  have hW' := hW
  obtain ⟨p, q, hA0, hV, rfl, hfz, hnd⟩ := hW
  have hA : DataW.TrodAll enc Try.prog W 0 (fun _ => true) true Try.f6.params.toList args.toList ds p := hA0
  rw [Try.params6] at hA hval hsz
  obtain ⟨v0, vs0, d0, ds0, p0, q0, hargs, rfl, rfl, h0, r0⟩ := trodAll_cons hA
  obtain ⟨rfl, rfl, rfl⟩ := trodAll_nil r0
  obtain rfl : args = #[v0] := by cases args; simp_all
  obtain ⟨rfl, rfl⟩ := trodVars_none hV
  obtain ⟨a0, len0, cap0, rfl⟩ := okWide_slice Try.underlying58 (hval 0 58 v0 rfl rfl)
  have k0 := h0
  have lt0 : ∀ x ∈ p0, x.block < W.heap.size := by obtain ⟨m, hm⟩ := k0; exact DataW.trod_lt m _ _ _ hm
  have walk : Calls Try.prog 6 #[.slice a0 len0 cap0] W fun e w' => e = .returned (.bool true) ∧ Kept [] W w' := by
    by_cases hz : len0 = 0
    · subst hz; exact back_zero a0 cap0 W
    obtain ⟨fuel, hf⟩ := h0
    rcases open_slice_pairs Try.underlying58 Try.underlying61 cells61 rfl rfl cells42 cells3 hf with ⟨hcs, _⟩ | ⟨a, len, cap, m, n, V0, V1, D0, D1, P0, P1, hcs, _, hl, hm, hmm, hx, hc⟩
    · simp [Value.cells] at hcs; omega
    · simp [Value.cells] at hcs
      obtain ⟨rfl, rfl, rfl⟩ := hcs
      simp only [if_true] at hmm
      rw [hmm] at hx hc
      have hd : d0 = .slice ((List.range len0).map fun i => .agg [D0 i, D1 i]) ((List.range (cap0 - len0)).map fun j => .agg [D0 (len0 + j), D1 (len0 + j)]) := congrArg Prod.fst hx
      have hs := sized_slice hsz (j := 0) (t := 58) (e := 61) rfl (by rw [hd]; rfl) Try.underlying58
      rw [bytes61] at hs
      simp only [List.length_map, List.length_range, reachBytes] at hs
      have hV : ∀ i, i < len0 → ∃ z, V0 i = .int .u32 z ∧ 0 ≤ z ∧ z < 4294967296 := fun i hi => by
        obtain ⟨z, e0, _, wz⟩ := DataW.trod_int Try.underlying42 (hc i (by omega)).2.2.1
        have b := bounds_u32 wz
        simp at e0
        exact ⟨z, e0, by omega, by omega⟩
      have hN : ∀ i, i < len0 → ∃ z, V1 i = .int .i64 z ∧ -9223372036854775808 ≤ z ∧ z ≤ 9223372036854775807 := fun i hi => by
        obtain ⟨z, e0, _, wz⟩ := DataW.trod_int Try.underlying3 (hc i (by omega)).2.2.2
        have b := bounds_i64 wz
        simp at e0
        exact ⟨z, e0, by omega, by omega⟩
      have hV2 : ∀ i, i < len0 → V0 i = .int .u32 (intOf (V0 i)) ∧ 0 ≤ intOf (V0 i) ∧ intOf (V0 i) < 4294967296 := fun i hi => by
        obtain ⟨z, e, h1, h2⟩ := hV i hi; rw [e]; exact ⟨rfl, h1, h2⟩
      have hN2 : ∀ i, i < len0 → V1 i = .int .i64 (intOf (V1 i)) ∧ -9223372036854775808 ≤ intOf (V1 i) ∧ intOf (V1 i) ≤ 9223372036854775807 := fun i hi => by
        obtain ⟨z, e, h1, h2⟩ := hN i hi; rw [e]; exact ⟨rfl, h1, h2⟩
      obtain ⟨b, off, spot⟩ := a
      have hspot : spot = none := by simpa [Addr.add] using World.cell?_spot (hc 0 (by omega)).1
      subst hspot
      have hadd : ∀ i, (⟨b, off, none⟩ : Addr).add i = ⟨b, off + i, none⟩ := add_plain b off
      refine back_any b off len0 cap0 (fun i => intOf (V0 i)) (fun i => intOf (V1 i)) W (by omega) (fun i hi => ?_) (fun i hi => ?_) (fun i hi => (hV2 i hi).2) (fun i hi => (hN2 i hi).2)
      · have h := (hc i (by omega)).1
        rw [hadd, (hV2 i hi).1] at h
        exact h
      · have h := (hc i (by omega)).2.1
        rw [hadd, (hN2 i hi).1] at h
        exact h
  clear hA0 hval0
  refine walk.mono fun e W' ⟨he, hk⟩ => ?_
  have bel := hk.below (Nat.le_refl _) (by simp)
  subst he
  exact ⟨_, rfl, _, _, _, [], _, [], hW', trodAll_mk1 (shut_bool Try.underlying4 _), (trodAll_cons_mk (Below.trod laidOut (by kernel_rfl) (of_decide_eq_true (by kernel_rfl)) k0 bel lt0) trodAll_mk0), rfl, bel.frame _, fun h => by cases h⟩

end Go.Proofs.Ytoghkbajdljheaa.Back
namespace Go.Proofs.Ytoghkbajdljheaa

theorem bitsBack_holds : Rows.BitsBackSaid :=
  OpenClaim.holds_of_wide 6 Try.f6 rfl rfl rfl rfl rfl rfl rfl ⟨rfl, rfl, rfl, rfl, rfl⟩ rfl rfl rfl rfl rfl (by kernel_rfl) Try.func6 (by kernel_rfl)
    (of_decide_eq_true (by kernel_rfl)) (by unfold Func.isWrapper; first | (rw [if_pos (by decide +kernel)]; kernel_rfl) | (rw [if_neg (by decide +kernel)]; exact ⟨rfl, rfl⟩))
    (fun os started H enc _ => Back.lifted os started H enc)
#print axioms bitsBack_holds
end Go.Proofs.Ytoghkbajdljheaa
