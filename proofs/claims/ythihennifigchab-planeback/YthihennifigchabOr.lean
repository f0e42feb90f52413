import Derived.Test.YthihennifigchabOq
import Derived.ChangeSlices
namespace Go.Proofs.Ythihennifigchab
open Go.ChangeShapes Go.WideShapes Go.ChangeAt Go.RowKit Go.Deep

/-- A block that came in. -/
theorem open_block {H : Type} {enc : TypeId × Value → H} {W : World} {r : Reach} {b0 : Nat} {v : Value} {d : DataW H} {p : List MemPlace} (hv : Value.okWide Try.prog W r b0 39 v) (h : DataW.Trod enc Try.prog W 0 (fun _ => true) true 39 v d p) :
    ∃ a b so m k f, v = .agg #[.int .i64 a, .int .i64 b, .slice so m k] ∧ (Lit.int .i64 a).wf = true ∧ (Lit.int .i64 b).wf = true ∧ Rd W so m f ∧ m ≤ k ∧ (∀ i, i < m → f i < 65536) ∧ m ≤ 9223372036854775807 := by
  obtain ⟨x0, x1, x2, y0, y1, y2, q, rfl, _, _, t0, t1, t2⟩ := Joins.open_agg3 Try.underlying39 (by kernel_rfl) (by kernel_rfl) hv h
  obtain ⟨a, rfl, w0⟩ := one_int t0
  obtain ⟨b, rfl, w1⟩ := one_int t1
  rcases open_ints Try.underlying37 Try.underlying65 Try.cells65 t2 with ⟨hcs, _⟩ | ⟨ad, len, cap, zs, hcs, _, hl, hm, hz, _, hc, hw⟩
  · simp at hcs
    subst hcs
    exact ⟨a, b, none, 0, 0, fun _ => 0, rfl, w0, w1, .inl rfl, Nat.le_refl _, fun i hi => by omega, by decide⟩
  · simp at hcs
    subst hcs
    simp only [if_true] at hz
    have hml : maxLen ≤ 9223372036854775807 := by unfold maxLen; decide
    have hwf : ∀ z ∈ zs, 0 ≤ z ∧ z < 65536 := fun z hz => by
      have := hw z hz
      simp [Lit.wf] at this
      have h1 : IntKind.u16.min = 0 := by decide
      have h2 : IntKind.u16.max = 65535 := by decide
      omega
    have hg : ∀ i, i < len → 0 ≤ zs.getD i 0 ∧ zs.getD i 0 < 65536 := fun i hi => by
      have hil : i < zs.length := by omega
      rw [List.getD_eq_getElem?_getD, List.getElem?_eq_getElem hil]
      exact hwf _ (List.getElem_mem hil)
    refine ⟨a, b, some ad, len, cap, fun i => (zs.getD i 0).toNat, rfl, w0, w1, ?_, hl, fun i hi => by have := hg i hi; show (zs.getD i 0).toNat < 65536; omega, by omega⟩
    by_cases h0 : len = 0
    · exact .inl h0
    · obtain ⟨bb, off, spot⟩ := ad
      have hspot : spot = none := by simpa [Addr.add] using World.cell?_spot (hc 0 (by omega))
      subst hspot
      refine .inr ⟨bb, off, rfl, fun i hi => ?_⟩
      have hadd : (⟨bb, off, none⟩ : Addr).add i = ⟨bb, off + i, none⟩ := by unfold Addr.add; split <;> simp_all
      have h3 := hc i (by omega)
      rw [hadd] at h3
      rw [h3]
      congr 2
      have := hg i hi
      show zs.getD i 0 = ((zs.getD i 0).toNat : Int)
      omega
end Go.Proofs.Ythihennifigchab
