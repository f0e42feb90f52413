import Derived.Test.YtahoeodpjdbdkabDoorFqZ
import Derived.Test.YtahoeodpjdbdkabDoorCd
import Derived.Deep.Strs
import Derived.Deep.Matrix
import Derived.ChangeSlices
import Derived.Lib.SmallJoins
namespace Go.Proofs.YtahoeodpjdbdkabDoor
open Go.ChangeShapes Go.WideShapes Go.ChangeAt Go.RowKit Go.Deep Go.Lib

theorem Tryd.cells26 : Tryd.prog.cellsOf 26 = 5 := by kernel_rfl
theorem Tryd.cells24 : Tryd.prog.cellsOf 24 = 3 := by kernel_rfl
theorem Tryd.cells22 : Tryd.prog.cellsOf 22 = 1 := by kernel_rfl
theorem Tryd.cells39 : Tryd.prog.cellsOf 39 = 1 := by kernel_rfl
theorem Tryd.cells3 : Tryd.prog.cellsOf 3 = 1 := by kernel_rfl
theorem array5 {α : Type} {a : Array α} (h : a.size = 5) : ∃ x0 x1 x2 x3 x4, a = #[x0, x1, x2, x3, x4] := by
  obtain ⟨l⟩ := a
  match l, h with
  | [x0, x1, x2, x3, x4], _ => exact ⟨x0, x1, x2, x3, x4, rfl⟩
theorem one_int {H : Type} {enc : TypeId × Value → H} {w : World} {n : Nat} {v : Value} {y : DataW H × List MemPlace} (h : DataW.trod enc Tryd.prog w 0 (fun _ => true) true n 3 [v] = some y) : ∃ a, v = .int .i64 a ∧ (Lit.int .i64 a).wf = true := by
  obtain ⟨a, e, _, wa⟩ := DataW.trod_int Tryd.underlying3 h
  simp at e
  exact ⟨a, e, wa⟩

set_option maxRecDepth 100000 in
/-- What is to be coded, as it came in. -/
theorem open_coding {H : Type} {enc : TypeId × Value → H} {W : World} {r : Reach} {b0 : Nat} {v : Value} {d : DataW H} {p : List MemPlace} (hv : Value.okWide Tryd.prog W r b0 26 v) (h : DataW.Trod enc Tryd.prog W 0 (fun _ => true) true 26 v d p) :
    ∃ a b so m k f x y, v = .agg #[.int .i64 a, .int .i64 b, .slice so m k, .int .i64 x, .int .i64 y] ∧ In16 W so m f := by
  obtain ⟨cs, rfl, hsz⟩ := okWide_struct Tryd.underlying26 hv
  obtain ⟨x0, x1, x2, x3, x4, rfl⟩ := array5 (hsz.trans Tryd.cells26)
  obtain ⟨fuel, hf⟩ := h
  obtain ⟨y0, y1, y2, m, _, _, h0, h1, h2⟩ := trod_struct3 Tryd.underlying26 hf
  simp only [Value.cells, Tryd.cells24, Tryd.cells3] at h0 h1 h2
  obtain ⟨z0, z1, z2, m2, _, _, t0, t1, t2⟩ := trod_struct3 Tryd.underlying24 h0
  simp only [Tryd.cells3, Tryd.cells22] at t0 t1 t2
  obtain ⟨a, rfl, _⟩ := one_int t0
  obtain ⟨b, rfl, _⟩ := one_int t1
  obtain ⟨x, rfl, _⟩ := one_int h1
  obtain ⟨y, rfl, _⟩ := one_int h2
  rcases open_ints Tryd.underlying22 Tryd.underlying39 Tryd.cells39 t2 with ⟨hcs, _⟩ | ⟨ad, len, cap, zs, hcs, _, hl, hm, hz, _, hc, hw⟩
  · simp at hcs
    subst hcs
    exact ⟨a, b, none, 0, 0, fun _ => 0, x, y, rfl, .inl rfl, fun i => ⟨show (0:Int) ≤ 0 by decide, show (0:Int) ≤ 65535 by decide⟩⟩
  · simp at hcs
    subst hcs
    simp only [if_true] at hz
    have hwf : ∀ z ∈ zs, 0 ≤ z ∧ z < 65536 := fun z hz => by
      have := hw z hz
      simp [Lit.wf] at this
      have h1 : IntKind.u16.min = 0 := by decide
      have h2 : IntKind.u16.max = 65535 := by decide
      omega
    have hg : ∀ i, 0 ≤ zs.getD i 0 ∧ zs.getD i 0 ≤ 65535 := fun i => by
      by_cases hil : i < zs.length
      · rw [List.getD_eq_getElem?_getD, List.getElem?_eq_getElem hil]
        have := hwf _ (List.getElem_mem hil)
        simp only [Option.getD_some]
        omega
      · rw [List.getD_eq_getElem?_getD, List.getElem?_eq_none (by omega)]
        simp
    refine ⟨a, b, some ad, len, cap, fun i => zs.getD i 0, x, y, rfl, ?_, hg⟩
    by_cases h0 : len = 0
    · exact .inl h0
    · obtain ⟨bb, off, spot⟩ := ad
      have hspot : spot = none := by simpa [Addr.add] using World.cell?_spot (hc 0 (by omega))
      subst hspot
      refine .inr ⟨bb, off, rfl, fun i hi => ?_⟩
      have hadd : (⟨bb, off, none⟩ : Addr).add i = ⟨bb, off + i, none⟩ := by unfold Addr.add; split <;> simp_all
      have h3 := hc i (by omega)
      rw [hadd] at h3
      exact h3
end Go.Proofs.YtahoeodpjdbdkabDoor
