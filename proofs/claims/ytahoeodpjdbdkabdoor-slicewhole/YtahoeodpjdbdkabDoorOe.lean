import Derived.Test.YtahoeodpjdbdkabDoorOb
namespace Go.Proofs.YtahoeodpjdbdkabDoor
open Go.ChangeShapes Go.WideShapes Go.ChangeAt Go.RowKit Go.Deep Go.Lib

/-- A list of bytes that came in. -/
theorem open_list47 {H : Type} {enc : TypeId × Value → H} {W : World} {fuel : Nat} {v : Value} {y : DataW H × List MemPlace} (h : DataW.trod enc Tryd.prog W 0 (fun _ => true) true fuel 27 [v] = some y) (hs : ∀ n ∈ y.1.weights Tryd.prog 27, n ≤ reachBytes) :
    ∃ so m k l, v = .slice so m k ∧ Reads W so l ∧ Byts l ∧ l.length = m ∧ m ≤ 140737488351232 ∧ (so = none → k = 0) := by
  rcases open_ints Tryd.underlying27 Tryd.underlying5 Tryd.cells5 h with ⟨hcs, _⟩ | ⟨x, len, cap, zs, hcs, _, hl, hm, hz, hy, hc, hw⟩
  · simp at hcs
    subst hcs
    exact ⟨none, 0, 0, [], rfl, .inl rfl, by simp [Byts], rfl, by decide, fun _ => rfl⟩
  · simp at hcs
    subst hcs
    simp only [if_true] at hz
    have hy1 : y.1 = .slice (lits .u8 (zs.take len)) (lits .u8 (zs.drop len)) := congrArg Prod.fst hy
    rw [hy1] at hs
    have h3 := hs (((lits (H := H) .u8 (zs.take len)).length + (lits (H := H) .u8 (zs.drop len)).length) * Tryd.prog.bytesOf 5) (by simp [DataW.weights, Tryd.underlying27])
    rw [Tryd.bytes5] at h3
    simp only [lits, List.length_map, List.length_take, List.length_drop, reachBytes] at h3
    have hwf : ∀ n ∈ zs, 0 ≤ n ∧ n < 256 := fun n hn => by
      have := hw n hn
      simp [Lit.wf] at this
      have h1 : IntKind.u8.min = 0 := by decide
      have h2 : IntKind.u8.max = 255 := by decide
      omega
    refine ⟨some x, len, cap, (zs.take len).map Int.toNat, rfl, ?_, ?_, by simp; omega, by omega, fun h => by cases h⟩
    · by_cases h0 : len = 0
      · subst h0; exact .inl (by simp)
      · right
        obtain ⟨b, off, spot⟩ := x
        have hc0 := hc 0 (by omega)
        have hspot : spot = none := by simpa [Addr.add] using World.cell?_spot hc0
        subst hspot
        refine ⟨b, off, rfl, fun i hi => ?_⟩
        have hil : i < len := by simp at hi; omega
        have h1 := hc i (by omega)
        have hadd : (⟨b, off, none⟩ : Addr).add i = ⟨b, off + i, none⟩ := by unfold Addr.add; split <;> simp_all
        rw [hadd] at h1
        rw [h1]
        have hiz : i < zs.length := by omega
        have := hwf zs[i] (List.getElem_mem hiz)
        simp [byt, hiz, hil]
        omega
    · intro b hb
      simp only [List.mem_map] at hb
      obtain ⟨z, hz1, rfl⟩ := hb
      have := hwf z (List.mem_of_mem_take hz1)
      omega

end Go.Proofs.YtahoeodpjdbdkabDoor
