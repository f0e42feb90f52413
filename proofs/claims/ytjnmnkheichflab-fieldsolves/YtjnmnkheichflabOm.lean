import Derived.Test.YtjnmnkheichflabG1
import Derived.ProofKit
import Derived.OpenShut
import Derived.SizedLaws
import Derived.Deep.Matrix
namespace Go.Proofs.Ytjnmnkheichflab
open Go.ChangeShapes Go.WideShapes Go.ChangeAt Go.RowKit Go.Deep

theorem Try.bytes31 : Try.prog.bytesOf 31 = 24 := by kernel_rfl
theorem Try.bytesU8 : Try.prog.bytesOf 5 = 1 := by kernel_rfl
theorem Try.cells31 : Try.prog.cellsOf 31 = 1 := by kernel_rfl
theorem Try.cells5 : Try.prog.cellsOf 5 = 1 := by kernel_rfl

theorem mem_weightsAll {H : Type} {P : Program} {e : TypeId} : ∀ {l : List (DataW H)} {d : DataW H}, d ∈ l → ∀ n ∈ d.weights P e, n ∈ DataW.weightsAll P e l
  | [], _, h, _, _ => by simp at h
  | x :: r, d, h, n, hn => by
    simp only [DataW.weightsAll, List.mem_append]
    rcases List.mem_cons.1 h with rfl | h
    · exact .inl hn
    · exact .inr (mem_weightsAll h n hn)

/-- A list of lists of bytes that came in. -/
theorem open_mat {H : Type} {enc : TypeId × Value → H} {W : World} {a0 : Option Addr} {len0 cap0 : Nat} {d : DataW H} {p : List MemPlace} (h : DataW.Trod enc Try.prog W 0 (fun _ => true) true 22 (.slice a0 len0 cap0) d p) (hs : ∀ n ∈ d.weights Try.prog 22, n ≤ reachBytes) :
    ∃ L, MR W a0 L ∧ Bm L ∧ L.length = len0 ∧ len0 * 24 ≤ 140737488351232 ∧ ∀ i, i < len0 → (L.getD i []).length ≤ 140737488351232 := by
  obtain ⟨fuel, hf⟩ := h
  rcases open_int_rows Try.underlying22 Try.underlying31 Try.underlying5 Try.cells31 Try.cells5 hf with ⟨hcs, _⟩ | ⟨a, len, cap, A, Ln, C, Z, hcs, _, hl, hm, hx, hr⟩
  · simp [Value.cells] at hcs
    obtain ⟨rfl, rfl, rfl⟩ := hcs
    exact ⟨[], .inl rfl, by simp [Bm], rfl, by decide, fun i hi => by omega⟩
  · simp [Value.cells] at hcs
    obtain ⟨rfl, rfl, rfl⟩ := hcs
    have hd : d = .slice ((List.range len0).map fun r => intRow .u8 (A r) (Ln r) (Z r)) ((List.range (cap0 - len0)).map fun j => intRow .u8 (A (len0 + j)) (Ln (len0 + j)) (Z (len0 + j))) := congrArg Prod.fst hx
    rw [hd] at hs
    simp only [DataW.weights, Try.underlying22, List.mem_cons, List.mem_append, Try.bytes31, List.length_map, List.length_range] at hs
    have h24 := hs _ (.inl rfl)
    have hw : ∀ r, r < len0 → Ln r ≤ 140737488351232 := fun r hr0 => by
      rcases e : A r with _ | x
      · have h1 := (hr r (by omega)).2.2.2.2.2.1 e
        have h2 := (hr r (by omega)).2.1
        omega
      · have h3 := hs (((lits (H := H) .u8 ((Z r).take (Ln r))).length + (lits (H := H) .u8 ((Z r).drop (Ln r))).length) * Try.prog.bytesOf 5) (.inr (.inl (mem_weightsAll (d := intRow .u8 (A r) (Ln r) (Z r)) (List.mem_map.2 ⟨r, List.mem_range.2 hr0, rfl⟩) _ (by
          rw [e]
          simp [intRow, DataW.weights, Try.underlying31]))))
        rw [Try.bytesU8] at h3
        simp only [lits, List.length_map, List.length_take, List.length_drop, reachBytes] at h3
        have h4 := (hr r (by omega)).2.1
        have h5 := (hr r (by omega)).2.2.2.1
        omega
    have each : ∀ r, r < len0 → ∃ l : List Nat, l.length = Ln r ∧ Byts l ∧ Reads W (A r) l := fun r hr0 => by
      obtain ⟨_, r1, r2, r3, r4, r5, r6⟩ := hr r (by omega)
      have hrow : IsRow .u8 W (A r) (Ln r) (C r) (Z r) := by
        rcases e : A r with _ | x
        · have h0 := r5 e
          refine .inl ⟨rfl, by omega, h0, List.eq_nil_of_length_eq_zero (by omega)⟩
        · exact .inr ⟨x, rfl, r1, r2, r3, fun i hi => (r6 x e).2 i (by omega), r4⟩
      obtain ⟨l, h1, h2, h3, _⟩ := isRow_reads hrow
      exact ⟨l, h1, h2, h3⟩
    obtain ⟨f, hf2⟩ := @choose_lt (List Nat) ⟨[]⟩ _ _ each
    refine ⟨(List.range len0).map f, ?_, ?_, by simp, by unfold reachBytes at h24; omega, fun i hi => ?_⟩
    · by_cases h0 : len0 = 0
      · subst h0; exact .inl rfl
      · obtain ⟨b, off, spot⟩ := a
        have hspot : spot = none := by simpa [Addr.add] using World.cell?_spot (hr 0 (by omega)).1
        subst hspot
        refine .inr ⟨b, off, rfl, fun i hi => ?_⟩
        have hi2 : i < len0 := by simpa using hi
        have e1 := (hr i (by omega)).1
        have hadd : (⟨b, off, none⟩ : Addr).add i = ⟨b, off + i, none⟩ := by unfold Addr.add; split <;> simp_all
        rw [hadd] at e1
        have e2 : ((List.range len0).map f).getD i [] = f i := by simp [hi2]
        rw [e2, (hf2 i hi2).1]
        exact ⟨_, _, e1, (hf2 i hi2).2.2⟩
    · intro r hr2
      simp only [List.mem_map, List.mem_range] at hr2
      obtain ⟨i, hi, rfl⟩ := hr2
      exact (hf2 i hi).2.1
    · have e2 : ((List.range len0).map f).getD i [] = f i := by simp [hi]
      rw [e2, (hf2 i hi).1]
      exact hw i hi
end Go.Proofs.Ytjnmnkheichflab
