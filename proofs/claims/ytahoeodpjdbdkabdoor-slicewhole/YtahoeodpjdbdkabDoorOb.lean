import Derived.Test.YtahoeodpjdbdkabDoorOc
import Derived.Test.YtahoeodpjdbdkabDoorFy
namespace Go.Proofs.YtahoeodpjdbdkabDoor
open Go.ChangeShapes Go.WideShapes Go.ChangeAt Go.RowKit Go.Deep Go.Lib

theorem Tryd.cells38 : Tryd.prog.cellsOf 38 = 5 := by kernel_rfl
theorem Tryd.cells42 : Tryd.prog.cellsOf 42 = 5 := by kernel_rfl
theorem Tryd.cells27 : Tryd.prog.cellsOf 27 = 1 := by kernel_rfl
theorem Tryd.cells5 : Tryd.prog.cellsOf 5 = 1 := by kernel_rfl
theorem Tryd.bytes5 : Tryd.prog.bytesOf 5 = 1 := by kernel_rfl

section
variable {H : Type} {enc : TypeId × Value → H} {P : Program} {w : World} {base : Nat} {spare : Nat → Bool} {held : Bool}
theorem trod_struct5 {t : TypeId} {f0 f1 f2 f3 f4 : Field} {fuel : Nat} {cs : List Value} {x : DataW H × List MemPlace} (ht : P.underlying t = some (.struct #[f0, f1, f2, f3, f4])) (h : DataW.trod enc P w base spare held fuel t cs = some x) :
    ∃ y0 y1 y2 y3 y4 n, x.1 = .agg [y0.1, y1.1, y2.1, y3.1, y4.1] ∧ DataW.trod enc P w base spare held n f0.type ((cs.drop f0.offset).take (P.cellsOf f0.type)) = some y0 ∧
      DataW.trod enc P w base spare held n f1.type ((cs.drop f1.offset).take (P.cellsOf f1.type)) = some y1 ∧ DataW.trod enc P w base spare held n f2.type ((cs.drop f2.offset).take (P.cellsOf f2.type)) = some y2 ∧
      DataW.trod enc P w base spare held n f3.type ((cs.drop f3.offset).take (P.cellsOf f3.type)) = some y3 ∧ DataW.trod enc P w base spare held n f4.type ((cs.drop f4.offset).take (P.cellsOf f4.type)) = some y4 := by
  obtain ⟨xs, n, _, rfl, hl, hlen, hf⟩ := DataW.trod_struct ht h
  match xs, hlen with
  | [y0, y1, y2, y3, y4], _ => exact ⟨y0, y1, y2, y3, y4, n, by simp, by simpa using hf 0 f0 rfl, by simpa using hf 1 f1 rfl, by simpa using hf 2 f2 rfl, by simpa using hf 3 f3 rfl, by simpa using hf 4 f4 rfl⟩
end

theorem wf_i64 {a : Int} (h : (Lit.int .i64 a).wf = true) : i64b a := by
  simp [Lit.wf] at h
  have h1 : IntKind.i64.min = -9223372036854775808 := by decide
  have h2 : IntKind.i64.max = 9223372036854775807 := by decide
  unfold i64b
  omega

/-- A list of bytes that came in. -/
theorem open_list {H : Type} {enc : TypeId × Value → H} {W : World} {fuel : Nat} {v : Value} {y : DataW H × List MemPlace} (h : DataW.trod enc Tryd.prog W 0 (fun _ => true) true fuel 27 [v] = some y) (hs : ∀ n ∈ y.1.weights Tryd.prog 27, n ≤ reachBytes) :
    ∃ so m k l, v = .slice so m k ∧ Reads W so l ∧ Byts l ∧ l.length = m ∧ m ≤ 281474976710656 := by
  rcases open_ints Tryd.underlying27 Tryd.underlying5 Tryd.cells5 h with ⟨hcs, _⟩ | ⟨x, len, cap, zs, hcs, _, hl, hm, hz, hy, hc, hw⟩
  · simp at hcs
    subst hcs
    exact ⟨none, 0, 0, [], rfl, .inl rfl, by simp [Byts], rfl, by decide⟩
  · simp at hcs
    subst hcs
    simp only [if_true] at hz
    have hy1 : y.1 = .slice (lits .u8 (zs.take len)) (lits .u8 (zs.drop len)) := congrArg Prod.fst hy
    rw [hy1] at hs
    have h3 := hs (((lits (H := H) .u8 (zs.take len)).length + (lits (H := H) .u8 (zs.drop len)).length) * Tryd.prog.bytesOf 5) (by simp [DataW.weights, Tryd.underlying27])
    rw [Tryd.bytes5] at h3
    simp only [lits, List.length_map, List.length_take, List.length_drop, reachBytes] at h3
    have hwf : ∀ n ∈ zs, 0 ≤ n ∧ n < 256 := fun n hn => by
      have := hw n hn
      simp [Lit.wf] at this
      have h1 : IntKind.u8.min = 0 := by decide
      have h2 : IntKind.u8.max = 255 := by decide
      omega
    refine ⟨some x, len, cap, (zs.take len).map Int.toNat, rfl, ?_, ?_, by simp; omega, by omega⟩
    · by_cases h0 : len = 0
      · subst h0; exact .inl (by simp)
      · right
        obtain ⟨b, off, spot⟩ := x
        have hc0 := hc 0 (by omega)
        have hspot : spot = none := by simpa [Addr.add] using World.cell?_spot hc0
        subst hspot
        refine ⟨b, off, rfl, fun i hi => ?_⟩
        have hil : i < len := by simp at hi; omega
        have h1 := hc i (by omega)
        have hadd : (⟨b, off, none⟩ : Addr).add i = ⟨b, off + i, none⟩ := by unfold Addr.add; split <;> simp_all
        rw [hadd] at h1
        rw [h1]
        have hiz : i < zs.length := by omega
        have := hwf zs[i] (List.getElem_mem hiz)
        simp [byt, hiz, hil]
        omega
    · intro b hb
      simp only [List.mem_map] at hb
      obtain ⟨z, hz1, rfl⟩ := hb
      have := hwf z (List.mem_of_mem_take hz1)
      omega

set_option maxRecDepth 100000 in
/-- What Decode is asked, as it came in. -/
theorem open_bytes {H : Type} {enc : TypeId × Value → H} {W : World} {r : Reach} {b0 : Nat} {v : Value} {d : DataW H} {p : List MemPlace} (hv : Value.okWide Tryd.prog W r b0 38 v) (h : DataW.Trod enc Tryd.prog W 0 (fun _ => true) true 38 v d p) (hs : ∀ n ∈ d.weights Tryd.prog 38, n ≤ reachBytes) :
    ∃ so m k l a b x y, v = .agg #[.slice so m k, .int .i64 a, .int .i64 b, .int .i64 x, .int .i64 y] ∧ Reads W so l ∧ Byts l ∧ l.length = m ∧ m ≤ 281474976710656 := by
  obtain ⟨cs, rfl, hsz⟩ := okWide_struct Tryd.underlying38 hv
  obtain ⟨x0, x1, x2, x3, x4, rfl⟩ := array5 (hsz.trans Tryd.cells38)
  obtain ⟨fuel, hf⟩ := h
  obtain ⟨y0, y1, y2, y3, y4, m, hd, h0, h1, h2, h3, h4⟩ := trod_struct5 Tryd.underlying38 hf
  simp only [Value.cells, Tryd.cells27, Tryd.cells3] at h0 h1 h2 h3 h4
  have hd1 : d = .agg [y0.1, y1.1, y2.1, y3.1, y4.1] := hd
  rw [hd1] at hs
  simp only [DataW.weights, Tryd.underlying38, DataW.weightsEach, List.map_cons, List.map_nil, List.mem_append, List.append_nil] at hs
  obtain ⟨a, rfl, _⟩ := one_int h1
  obtain ⟨b, rfl, _⟩ := one_int h2
  obtain ⟨x, rfl, _⟩ := one_int h3
  obtain ⟨y, rfl, _⟩ := one_int h4
  obtain ⟨so, m, k, l, rfl, g1, g2, g3, g4⟩ := open_list h0 (fun n hn => hs n (.inl hn))
  exact ⟨so, m, k, l, a, b, x, y, rfl, g1, g2, g3, g4⟩

set_option maxRecDepth 100000 in
/-- A flat block's numbers, as they came in. -/
theorem open_flat {H : Type} {enc : TypeId × Value → H} {W : World} {r : Reach} {b0 : Nat} {v : Value} {d : DataW H} {p : List MemPlace} (hv : Value.okWide Tryd.prog W r b0 42 v) (h : DataW.Trod enc Tryd.prog W 0 (fun _ => true) true 42 v d p) :
    ∃ a b c x y, v = .agg #[.int .i64 a, .int .i64 b, .int .i64 c, .int .i64 x, .int .i64 y] ∧ i64b a ∧ i64b b ∧ i64b c ∧ i64b x ∧ i64b y := by
  obtain ⟨cs, rfl, hsz⟩ := okWide_struct Tryd.underlying42 hv
  obtain ⟨x0, x1, x2, x3, x4, rfl⟩ := array5 (hsz.trans Tryd.cells42)
  obtain ⟨fuel, hf⟩ := h
  obtain ⟨y0, y1, y2, y3, y4, m, hd, h0, h1, h2, h3, h4⟩ := trod_struct5 Tryd.underlying42 hf
  simp only [Value.cells, Tryd.cells3] at h0 h1 h2 h3 h4
  obtain ⟨a, rfl, wa⟩ := one_int h0
  obtain ⟨b, rfl, wb⟩ := one_int h1
  obtain ⟨c, rfl, wc⟩ := one_int h2
  obtain ⟨x, rfl, wx⟩ := one_int h3
  obtain ⟨y, rfl, wy⟩ := one_int h4
  exact ⟨a, b, c, x, y, rfl, wf_i64 wa, wf_i64 wb, wf_i64 wc, wf_i64 wx, wf_i64 wy⟩
end Go.Proofs.YtahoeodpjdbdkabDoor
