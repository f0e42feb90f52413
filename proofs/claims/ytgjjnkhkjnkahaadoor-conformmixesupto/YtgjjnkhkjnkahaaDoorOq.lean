import Derived.Test.YtgjjnkhkjnkahaaDoorOp
import Derived.Test.YtgjjnkhkjnkahaaDoorB1
import Derived.Deep.Matrix
namespace Go.Proofs.YtgjjnkhkjnkahaaDoor
open Go.ChangeShapes Go.WideShapes Go.ChangeAt Go.RowKit Go.Deep

theorem Tryd.cells64 : Tryd.prog.cellsOf 29 = 5 := by kernel_rfl
theorem Tryd.cells26 : Tryd.prog.cellsOf 26 = 4 := by kernel_rfl
theorem Tryd.cells23 : Tryd.prog.cellsOf 27 = 1 := by kernel_rfl
theorem Tryd.cells28 : Tryd.prog.cellsOf 37 = 1 := by kernel_rfl
theorem Tryd.cells38 : Tryd.prog.cellsOf 38 = 1 := by kernel_rfl
theorem Tryd.cells3 : Tryd.prog.cellsOf 3 = 1 := by kernel_rfl
theorem Tryd.cells4 : Tryd.prog.cellsOf 4 = 1 := by kernel_rfl
theorem array5 {α : Type} {a : Array α} (h : a.size = 5) : ∃ x0 x1 x2 x3 x4, a = #[x0, x1, x2, x3, x4] := by
  obtain ⟨l⟩ := a
  match l, h with
  | [x0, x1, x2, x3, x4], _ => exact ⟨x0, x1, x2, x3, x4, rfl⟩

set_option maxRecDepth 100000 in
/-- Planes that came in. -/
theorem open_planes {H : Type} {enc : TypeId × Value → H} {W : World} {fuel : Nat} {v : Value} {y : DataW H × List MemPlace} (h : DataW.trod enc Tryd.prog W 0 (fun _ => true) true fuel 27 [v] = some y) :
    ∃ po n c ln F, v = .slice po n c ∧ Pc W po n ln F ∧ (∀ i, i < n → ∀ j, j < ln i → F i j < 65536) ∧ n ≤ 9223372036854775807 ∧ ∀ i, i < n → ln i ≤ 9223372036854775807 := by
  rcases open_int_rows Tryd.underlying27 Tryd.underlying37 Tryd.underlying38 Tryd.cells28 Tryd.cells38 h with ⟨hcs, _⟩ | ⟨a, len, cap, A, Ln, C, Z, hcs, _, hl, hm, _, hr⟩
  · simp at hcs
    subst hcs
    exact ⟨none, 0, 0, fun _ => 0, fun _ _ => 0, rfl, .inl rfl, fun i hi => by omega, by decide, fun i hi => by omega⟩
  · simp at hcs
    subst hcs
    have hml : maxLen ≤ 9223372036854775807 := by unfold maxLen; decide
    have hz : ∀ r, r < cap → ∀ z ∈ Z r, 0 ≤ z ∧ z < 65536 := fun r hr0 z hz => by
      have := (hr r hr0).2.2.2.2.1 z hz
      simp [Lit.wf] at this
      have h1 : IntKind.u16.min = 0 := by decide
      have h2 : IntKind.u16.max = 65535 := by decide
      omega
    refine ⟨some a, len, cap, Ln, fun r j => ((Z r).getD j 0).toNat, rfl, ?_, fun i hi j hj => ?_, by omega, fun i hi => by have := (hr i (by omega)).2.1; have := (hr i (by omega)).2.2.1; omega⟩
    · by_cases h0 : len = 0
      · exact .inl h0
      · obtain ⟨b, off, spot⟩ := a
        have hspot : spot = none := by simpa [Addr.add] using World.cell?_spot (hr 0 (by omega)).1
        subst hspot
        refine .inr ⟨b, off, rfl, fun i hi => ?_⟩
        obtain ⟨e1, r1, r2, r3, r4, r5, r6⟩ := hr i (by omega)
        have hadd : (⟨b, off, none⟩ : Addr).add i = ⟨b, off + i, none⟩ := by unfold Addr.add; split <;> simp_all
        rw [hadd] at e1
        refine ⟨A i, C i, e1, r1, ?_⟩
        by_cases h1 : Ln i = 0
        · exact .inl h1
        · rcases e : A i with _ | x
          · have := r5 e; omega
          · obtain ⟨_, hc⟩ := r6 x e
            obtain ⟨b2, off2, spot2⟩ := x
            have hs2 : spot2 = none := by simpa [Addr.add] using World.cell?_spot (hc 0 (by omega))
            subst hs2
            refine .inr ⟨b2, off2, rfl, fun j hj => ?_⟩
            have hadd2 : (⟨b2, off2, none⟩ : Addr).add j = ⟨b2, off2 + j, none⟩ := by unfold Addr.add; split <;> simp_all
            have h3 := hc j (by omega)
            rw [hadd2] at h3
            rw [h3]
            have hzj : 0 ≤ (Z i).getD j 0 := by
              have hjl : j < (Z i).length := by omega
              rw [List.getD_eq_getElem?_getD, List.getElem?_eq_getElem hjl]
              exact (hz i (by omega) _ (List.getElem_mem hjl)).1
            congr 2
            show (Z i).getD j 0 = (((Z i).getD j 0).toNat : Int)
            omega
    · have hjl : j < (Z i).length := by have := (hr i (by omega)).2.1; have := (hr i (by omega)).2.2.2.1; omega
      show ((Z i).getD j 0).toNat < 65536
      rw [List.getD_eq_getElem?_getD, List.getElem?_eq_getElem hjl]
      have := hz i (by omega) _ (List.getElem_mem hjl)
      simp only [Option.getD_some]
      omega

set_option maxRecDepth 100000 in
/-- A frame that came in. -/
theorem open_frame {H : Type} {enc : TypeId × Value → H} {W : World} {r : Reach} {b0 : Nat} {v : Value} {d : DataW H} {p : List MemPlace} (hv : Value.okWide Tryd.prog W r b0 29 v) (h : DataW.Trod enc Tryd.prog W 0 (fun _ => true) true 29 v d p) :
    ∃ a b c x po n k ln F, v = frv a b c x po n k ∧ Pc W po n ln F ∧ (∀ i, i < n → ∀ j, j < ln i → F i j < 65536) ∧ n ≤ 9223372036854775807 ∧ (∀ i, i < n → ln i ≤ 9223372036854775807) := by
  obtain ⟨cs, rfl, hsz⟩ := okWide_struct Tryd.underlying29 hv
  obtain ⟨x0, x1, x2, x3, x4, rfl⟩ := array5 (hsz.trans Tryd.cells64)
  obtain ⟨fuel, hf⟩ := h
  obtain ⟨y0, y1, m, _, _, h0, h1⟩ := trod_struct2 Tryd.underlying29 hf
  simp only [Value.cells, Tryd.cells26, Tryd.cells23] at h0 h1
  obtain ⟨z0, z1, z2, z3, m2, _, _, t0, t1, t2, t3⟩ := Joins.trod_struct4 Tryd.underlying26 h0
  simp only [Tryd.cells3, Tryd.cells4] at t0 t1 t2 t3
  obtain ⟨a, rfl, _⟩ := one_int t0
  obtain ⟨b, rfl, _⟩ := one_int t1
  obtain ⟨c, rfl, _⟩ := one_int t2
  obtain ⟨x, rfl⟩ := one_bool t3
  obtain ⟨po, n, k, ln, F, rfl, g1, g2, g3, g4⟩ := open_planes h1
  exact ⟨a, b, c, x, po, n, k, ln, F, rfl, g1, g2, g3, g4⟩
end Go.Proofs.YtgjjnkhkjnkahaaDoor
