import Derived.Test.YtiojcfffhcipnaaLs
import Derived.Test.YtiojcfffhcipnaaOp
import Derived.Deep.Matrix
namespace Go.Proofs.Ytiojcfffhcipnaa
open Go.ChangeShapes Go.WideShapes Go.ChangeAt Go.RowKit Go.Deep

theorem bytes29 : Try.prog.bytesOf 29 = 24 := by kernel_rfl
theorem cells29 : Try.prog.cellsOf 29 = 1 := by kernel_rfl

/-- Bytes that are told by numbers. -/
theorem ints_reads {w : World} {a : Option Addr} {len cap : Nat} {zs : List Int} (hl : len ≤ cap) (hz : zs.length = cap) (hw : ∀ n ∈ zs, (Lit.int .u8 n).wf = true) (hn : a = none → cap = 0) (hc : ∀ x, a = some x → ∀ i, i < cap → w.cell? (x.add i) = some (.int .u8 (zs.getD i 0))) :
    ∃ l, l.length = len ∧ Byts l ∧ Reads w a l := by
  have hwf : ∀ n ∈ zs, 0 ≤ n ∧ n < 256 := fun n hn => by
    have := hw n hn
    simp [Lit.wf] at this
    have h1 : IntKind.u8.min = 0 := by decide
    have h2 : IntKind.u8.max = 255 := by decide
    omega
  refine ⟨(zs.take len).map Int.toNat, by simp; omega, ?_, ?_⟩
  · intro b hb
    simp only [List.mem_map] at hb
    obtain ⟨z, hz1, rfl⟩ := hb
    have := hwf z (List.mem_of_mem_take hz1)
    omega
  · by_cases h0 : len = 0
    · subst h0; exact .inl (by simp)
    · cases a with
      | none => have := hn rfl; omega
      | some x =>
        right
        obtain ⟨b, off, spot⟩ := x
        have hc0 := hc _ rfl 0 (by omega)
        have hspot : spot = none := by simpa [Addr.add] using World.cell?_spot hc0
        subst hspot
        refine ⟨b, off, rfl, fun i hi => ?_⟩
        have hil : i < len := by simp at hi; omega
        have h1 := hc _ rfl i (by omega)
        rw [addN] at h1
        rw [h1]
        have hiz : i < zs.length := by omega
        have := hwf zs[i] (List.getElem_mem hiz)
        simp [byt, hiz, hil]
        omega

set_option maxRecDepth 100000 in
/-- Lists of bytes that came in. -/
theorem open_rows {H : Type} {enc : TypeId × Value → H} {W : World} {r : Reach} {b0 : Nat} {v : Value} {d : DataW H} {p : List MemPlace} (hv : Value.okWide Try.prog W r b0 27 v) (h : DataW.Trod enc Try.prog W 0 (fun _ => true) true 27 v d p) (hs : ∀ n ∈ d.weights Try.prog 27, n ≤ reachBytes) :
    ∃ sa N cap f, v = .slice sa N cap ∧ Rws W sa N f := by
  obtain ⟨a0, len0, cap0, rfl⟩ := okWide_slice Try.underlying27 hv
  obtain ⟨fuel, hf⟩ := h
  rcases open_int_rows Try.underlying27 Try.underlying29 Try.underlying5 cells29 cells8 hf with ⟨hcs, _⟩ | ⟨a, len, cap, A, Ln, C, Z, hcs, _, hl, hm, hx, hr⟩
  · simp [Value.cells] at hcs
    obtain ⟨rfl, rfl, rfl⟩ := hcs
    exact ⟨none, 0, 0, fun _ => ⟨none, 0, 0, []⟩, rfl, by omega, fun i hi => by omega, fun h => by omega⟩
  · simp [Value.cells] at hcs
    obtain ⟨rfl, rfl, rfl⟩ := hcs
    have hd : d = .slice ((List.range len0).map fun r => intRow .u8 (A r) (Ln r) (Z r)) ((List.range (cap0 - len0)).map fun j => intRow .u8 (A (len0 + j)) (Ln (len0 + j)) (Z (len0 + j))) := congrArg Prod.fst hx
    rw [hd] at hs
    simp only [DataW.weights, Try.underlying27, List.mem_cons, List.mem_append, bytes29, List.length_map, List.length_range] at hs
    have h24 := hs _ (.inl rfl)
    have each : ∀ i, i < len0 → ∃ q : Row, Row.Ok W q ∧ W.cell? (a.add i) = some (.slice q.ao q.m q.c) := fun i hi => by
      obtain ⟨e1, r1, r2, r3, r4, r5, r6⟩ := hr i (by omega)
      obtain ⟨l, g1, g2, g3⟩ := ints_reads r1 r3 r4 r5 (fun x e => (r6 x e).2)
      exact ⟨⟨A i, Ln i, C i, l⟩, ⟨g3, g2, g1, r1, r5⟩, e1⟩
    obtain ⟨f, hf2⟩ := @choose_lt Row ⟨⟨none, 0, 0, []⟩⟩ _ _ each
    obtain ⟨b, off, spot⟩ := a
    refine ⟨_, _, _, f, rfl, by unfold reachBytes at h24; omega, fun i hi => (hf2 i hi).1, fun h => ?_⟩
    have hspot : spot = none := by simpa [Addr.add] using World.cell?_spot (hf2 0 h).2
    subst hspot
    refine ⟨b, off, rfl, fun i hi => ?_⟩
    have := (hf2 i hi).2
    rw [addN] at this
    exact this
end Go.Proofs.Ytiojcfffhcipnaa
