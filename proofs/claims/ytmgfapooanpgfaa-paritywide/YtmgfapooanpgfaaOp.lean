import Derived.Test.YtmgfapooanpgfaaRa
import Derived.ProofKit
import Derived.OpenShut
import Derived.ShutString
import Derived.ChangeOld
import Derived.SizedLaws
import Derived.SliceStrings
namespace Go.Proofs.Ytmgfapooanpgfaa
open Go.ChangeShapes Go.WideShapes Go.ChangeAt Go.RowKit

theorem Try.bytesI : Try.prog.bytesOf 3 = 8 := by kernel_rfl
theorem Try.bytesS : Try.prog.bytesOf 9 = 16 := by kernel_rfl
theorem own_knob : ownKnob Try.prog.godebug = none := by kernel_rfl
theorem laid_out : laidOutB Try.prog = true := by kernel_rfl

/-- A list of texts that came in. -/
theorem open_texts {H : Type} {enc : TypeId × Value → H} {W : World} {a0 : Option Addr} {len0 cap0 : Nat} {d : DataW H} {p : List MemPlace} (h : DataW.Trod enc Try.prog W 0 (fun _ => true) true 29 (.slice a0 len0 cap0) d p) (hs : ∀ n ∈ d.weights Try.prog 29, n ≤ reachBytes) :
    ∃ S : Nat → ByteArray, Sv W a0 len0 (fun i => .string (S i)) ∧ len0 ≤ 140737488351232 ∧ (a0 = none → len0 = 0 ∧ cap0 = 0) := by
  obtain ⟨fuel, hf⟩ := h
  rcases open_strings Try.underlying29 Try.underlying9 (by kernel_rfl) hf with ⟨hcs, _⟩ | ⟨a, len, cap, ss, hcs, _, hl, hm, hz, hx, hcell, _⟩
  · simp [Value.cells] at hcs
    obtain ⟨rfl, rfl, rfl⟩ := hcs
    exact ⟨fun _ => ByteArray.empty, .inl rfl, by decide, fun _ => ⟨rfl, rfl⟩⟩
  · simp [Value.cells] at hcs
    obtain ⟨rfl, rfl, rfl⟩ := hcs
    have hd : d = .slice (strs (ss.take len0)) (strs (ss.drop len0)) := congrArg Prod.fst hx
    rw [hd] at hs
    have h1 := hs (((strs (H := H) (ss.take len0)).length + (strs (H := H) (ss.drop len0)).length) * Try.prog.bytesOf 9) (by simp [DataW.weights, Try.underlying29])
    rw [Try.bytesS] at h1
    simp only [strs, List.length_map, List.length_take, List.length_drop, reachBytes] at h1
    simp only [if_true] at hz
    refine ⟨fun i => ss.getD i ByteArray.empty, ?_, by omega, by simp⟩
    by_cases h0 : len0 = 0
    · exact .inl h0
    · obtain ⟨b, off, spot⟩ := a
      have hc0 := hcell 0 (by omega)
      have hspot : spot = none := by simpa [Addr.add] using World.cell?_spot hc0
      subst hspot
      refine .inr ⟨b, off, rfl, fun i hi => ?_⟩
      have hadd : (⟨b, off, none⟩ : Addr).add i = ⟨b, off + i, none⟩ := by unfold Addr.add; split <;> simp_all
      have := hcell i (by omega)
      rw [hadd] at this
      exact this

/-- A list of numbers that came in. -/
theorem open_nums {H : Type} {enc : TypeId × Value → H} {W : World} {a0 : Option Addr} {len0 cap0 : Nat} {d : DataW H} {p : List MemPlace} (h : DataW.Trod enc Try.prog W 0 (fun _ => true) true 30 (.slice a0 len0 cap0) d p) (hs : ∀ n ∈ d.weights Try.prog 30, n ≤ reachBytes) :
    ∃ q : Nat → Int, RdI W a0 q len0 ∧ (∀ i, i < len0 → -9223372036854775808 ≤ q i ∧ q i ≤ 9223372036854775807) ∧ len0 ≤ 140737488351232 ∧ (a0 = none → len0 = 0 ∧ cap0 = 0) := by
  obtain ⟨fuel, hf⟩ := h
  rcases open_ints Try.underlying30 Try.underlying3 (by kernel_rfl) hf with ⟨hcs, _⟩ | ⟨a, len, cap, zs, hcs, _, hl, hm, hz, hx, hcell, hwz⟩
  · simp [Value.cells] at hcs
    obtain ⟨rfl, rfl, rfl⟩ := hcs
    exact ⟨fun _ => 0, .inl rfl, fun i hi => by omega, by decide, fun _ => ⟨rfl, rfl⟩⟩
  · simp [Value.cells] at hcs
    obtain ⟨rfl, rfl, rfl⟩ := hcs
    have hd : d = .slice (lits .i64 (zs.take len0)) (lits .i64 (zs.drop len0)) := congrArg Prod.fst hx
    rw [hd] at hs
    have h1 := hs (((lits (H := H) .i64 (zs.take len0)).length + (lits (H := H) .i64 (zs.drop len0)).length) * Try.prog.bytesOf 3) (by simp [DataW.weights, Try.underlying30])
    rw [Try.bytesI] at h1
    simp only [lits, List.length_map, List.length_take, List.length_drop, reachBytes] at h1
    simp only [if_true] at hz
    refine ⟨fun i => zs.getD i 0, ?_, fun i hi => ?_, by omega, by simp⟩
    · by_cases h0 : len0 = 0
      · exact .inl h0
      · obtain ⟨b, off, spot⟩ := a
        have hc0 := hcell 0 (by omega)
        have hspot : spot = none := by simpa [Addr.add] using World.cell?_spot hc0
        subst hspot
        refine .inr ⟨b, off, rfl, fun i hi => ?_⟩
        have hadd : (⟨b, off, none⟩ : Addr).add i = ⟨b, off + i, none⟩ := by unfold Addr.add; split <;> simp_all
        have := hcell i (by omega)
        rw [hadd] at this
        exact this
    · have hiz : i < zs.length := by omega
      have hw := hwz zs[i] (List.getElem_mem hiz)
      have e : zs.getD i 0 = zs[i] := by simp [hiz]
      show -9223372036854775808 ≤ zs.getD i 0 ∧ zs.getD i 0 ≤ 9223372036854775807
      rw [e]
      exact bounds_i64 hw
end Go.Proofs.Ytmgfapooanpgfaa
