import Derived.Test.YtiojcfffhcipnaaMj
import Derived.ProofKit
import Derived.OpenShut
import Derived.ShutString
import Derived.ChangeOld
import Derived.SizedLaws
import Derived.Deep.Slices
namespace Go.Proofs.Ytiojcfffhcipnaa
open Go.ChangeShapes Go.WideShapes Go.ChangeAt Go.RowKit Go.Deep Go.Lib

theorem own_knob : ownKnob Try.prog.godebug = none := by kernel_rfl
theorem laid_out : laidOutB Try.prog = true := by kernel_rfl
theorem cells8 : Try.prog.cellsOf 5 = 1 := by kernel_rfl
theorem bytes8 : Try.prog.bytesOf 5 = 1 := by kernel_rfl
theorem cellsI : Try.prog.cellsOf 3 = 1 := by kernel_rfl
theorem cellsB : Try.prog.cellsOf 4 = 1 := by kernel_rfl
theorem b64_of {a : Int} (h : (Lit.int .i64 a).wf = true) : -9223372036854775808 ≤ a ∧ a ≤ 9223372036854775807 := bounds_i64 h
theorem list3 {α : Type} {l : List α} (h : l.length = 3) : ∃ a b c, l = [a, b, c] := by
  match l, h with
  | [a, b, c], _ => exact ⟨a, b, c, rfl⟩

set_option maxRecDepth 100000 in
/-- Bytes that came in, by size. -/
theorem o_bytes {H : Type} {enc : TypeId × Value → H} {W : World} {r : Reach} {b0 : Nat} {v : Value} {d : DataW H} {p : List MemPlace} (hv : Value.okWide Try.prog W r b0 29 v) (h0 : DataW.Trod enc Try.prog W 0 (fun _ => true) true 29 v d p) (hs : ∀ n ∈ d.weights Try.prog 29, n ≤ reachBytes) :
    ∃ so m k l, v = .slice so m k ∧ Reads W so l ∧ Byts l ∧ l.length = m ∧ m ≤ k ∧ k ≤ 140737488351292 ∧ (so = none → k = 0) := by
  obtain ⟨sa, la, ca, rfl⟩ := okWide_slice Try.underlying29 hv
  obtain ⟨fuel, h⟩ := h0
  rcases open_ints Try.underlying29 Try.underlying5 cells8 h with ⟨hcs, _⟩ | ⟨x, len, cap, zs, hcs, _, hl, hm, hz, hy, hc, hw⟩
  · simp [Value.cells] at hcs
    obtain ⟨rfl, rfl, rfl⟩ := hcs
    exact ⟨none, 0, 0, [], rfl, .inl rfl, by simp [Byts], rfl, Nat.le_refl _, by decide, fun _ => rfl⟩
  · simp [Value.cells] at hcs
    obtain ⟨rfl, rfl, rfl⟩ := hcs
    simp only [if_true] at hz
    have hy1 : d = .slice (lits .u8 (zs.take la)) (lits .u8 (zs.drop la)) := congrArg Prod.fst hy
    rw [hy1] at hs
    have h3 := hs (((lits (H := H) .u8 (zs.take la)).length + (lits (H := H) .u8 (zs.drop la)).length) * Try.prog.bytesOf 5) (by simp [DataW.weights, Try.underlying29])
    rw [bytes8] at h3
    simp only [lits, List.length_map, List.length_take, List.length_drop, reachBytes] at h3
    have hwf : ∀ n ∈ zs, 0 ≤ n ∧ n < 256 := fun n hn => by
      have := hw n hn
      simp [Lit.wf] at this
      have h1 : IntKind.u8.min = 0 := by decide
      have h2 : IntKind.u8.max = 255 := by decide
      omega
    refine ⟨some x, la, ca, (zs.take la).map Int.toNat, rfl, ?_, ?_, by simp; omega, by omega, by omega, fun h => by cases h⟩
    · by_cases h0 : la = 0
      · subst h0; exact .inl (by simp)
      · right
        obtain ⟨b, off, spot⟩ := x
        have hc0 := hc 0 (by omega)
        have hspot : spot = none := by simpa [Addr.add] using World.cell?_spot hc0
        subst hspot
        refine ⟨b, off, rfl, fun i hi => ?_⟩
        have hil : i < la := by simp at hi; omega
        have h1 := hc i (by omega)
        have hadd : (⟨b, off, none⟩ : Addr).add i = ⟨b, off + i, none⟩ := by unfold Addr.add; split <;> simp_all
        rw [hadd] at h1
        rw [h1]
        have hiz : i < zs.length := by omega
        have := hwf zs[i] (List.getElem_mem hiz)
        simp [byt, hiz, hil]
        omega
    · intro b hb
      simp only [List.mem_map] at hb
      obtain ⟨z, hz1, rfl⟩ := hb
      have := hwf z (List.mem_of_mem_take hz1)
      omega



end Go.Proofs.Ytiojcfffhcipnaa
