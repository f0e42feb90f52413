import Derived.Test.YtodlkpcbkilglaaDoorPo
import Derived.Test.YtodlkpcbkilglaaDoorOp
import Derived.Deep.Slices
namespace Go.Proofs.YtodlkpcbkilglaaDoor
open Go.ChangeShapes Go.WideShapes Go.ChangeAt Go.RowKit Go.Deep Go.Lib

theorem cellsByte : Tryd.prog.cellsOf 5 = 1 := by kernel_rfl
theorem bytesByte : Tryd.prog.bytesOf 5 = 1 := by kernel_rfl
set_option maxRecDepth 100000 in
/-- Bytes that came in, by size. -/
theorem o_bytes {H : Type} {enc : TypeId × Value → H} {W : World} {fuel : Nat} {v : Value} {y : DataW H × List MemPlace} (h : DataW.trod enc Tryd.prog W 0 (fun _ => true) true fuel 37 [v] = some y) (hs : ∀ n ∈ y.1.weights Tryd.prog 37, n ≤ reachBytes) :
    ∃ so k l, v = .slice so l.length k ∧ Bt.Reads W so l ∧ (∀ b ∈ l, b < 256) ∧ l.length ≤ k ∧ k ≤ 140737488351232 := by
  rcases open_ints Tryd.underlying37 Tryd.underlying5 cellsByte h with ⟨hcs, _⟩ | ⟨x, len, cap, zs, hcs, _, hl, hm, hz, hy, hc, hw⟩
  · simp at hcs
    subst hcs
    exact ⟨none, 0, [], rfl, .inl rfl, by simp, Nat.le_refl _, by decide⟩
  · simp at hcs
    subst hcs
    simp only [if_true] at hz
    have hy1 : y.1 = .slice (lits .u8 (zs.take len)) (lits .u8 (zs.drop len)) := congrArg Prod.fst hy
    rw [hy1] at hs
    have h3 := hs (((lits (H := H) .u8 (zs.take len)).length + (lits (H := H) .u8 (zs.drop len)).length) * Tryd.prog.bytesOf 5) (by simp [DataW.weights, Tryd.underlying37])
    rw [bytesByte] at h3
    simp only [lits, List.length_map, List.length_take, List.length_drop, reachBytes] at h3
    have hwf : ∀ n ∈ zs, 0 ≤ n ∧ n < 256 := fun n hn => by
      have := hw n hn
      simp [Lit.wf] at this
      have h1 : IntKind.u8.min = 0 := by decide
      have h2 : IntKind.u8.max = 255 := by decide
      omega
    have hll : ((zs.take len).map Int.toNat).length = len := by simp; omega
    refine ⟨some x, cap, (zs.take len).map Int.toNat, by rw [hll], ?_, ?_, by omega, by omega⟩
    · by_cases h0 : len = 0
      · subst h0; exact .inl (by simp)
      · right
        obtain ⟨b, off, spot⟩ := x
        have hc0 := hc 0 (by omega)
        have hspot : spot = none := by simpa [Addr.add] using World.cell?_spot hc0
        subst hspot
        refine ⟨b, off, rfl, fun i hi => ?_⟩
        have hil : i < len := by rw [hll] at hi; exact hi
        have h1 := hc i (by omega)
        have hadd : (⟨b, off, none⟩ : Addr).add i = ⟨b, off + i, none⟩ := by unfold Addr.add; split <;> simp_all
        rw [hadd] at h1
        rw [h1]
        have hiz : i < zs.length := by omega
        have := hwf zs[i] (List.getElem_mem hiz)
        simp [Bt.byt, hiz, hil]
        omega
    · intro b hb
      simp only [List.mem_map] at hb
      obtain ⟨z, hz1, rfl⟩ := hb
      have := hwf z (List.mem_of_mem_take hz1)
      omega
theorem bnd_i64 {x : Int} (h : (Lit.int .i64 x).wf = true) : -9223372036854775808 ≤ x ∧ x ≤ 9223372036854775807 := by
  simp [Lit.wf] at h
  have h1 : IntKind.i64.min = -9223372036854775808 := by decide
  have h2 : IntKind.i64.max = 9223372036854775807 := by decide
  omega
set_option maxRecDepth 100000 in
/-- Bytes, and which of them is turned. -/
theorem open_turned {H : Type} {enc : TypeId × Value → H} {W : World} {r : Reach} {b0 : Nat} {v : Value} {d : DataW H} {p : List MemPlace} (hv : Value.okWide Tryd.prog W r b0 57 v) (h : DataW.Trod enc Tryd.prog W 0 (fun _ => true) true 57 v d p) (hs : ∀ n ∈ d.weights Tryd.prog 57, n ≤ reachBytes) :
    ∃ so k l a b, v = .agg #[.slice so l.length k, .int .i64 a, .int .i64 b] ∧ Bt.Reads W so l ∧ (∀ b ∈ l, b < 256) ∧ l.length ≤ k ∧ k ≤ 140737488351232 ∧ (-9223372036854775808 ≤ a ∧ a ≤ 9223372036854775807) ∧ (-9223372036854775808 ≤ b ∧ b ≤ 9223372036854775807) := by
  obtain ⟨x0, x1, x2, y0, y1, y2, m, rfl, hd, _, t0, t1, t2⟩ := Joins.open_agg3 Tryd.underlying57 (by kernel_rfl) (by kernel_rfl) hv h
  rw [hd] at hs
  simp only [DataW.weights, Tryd.underlying57, DataW.weightsEach, List.map_cons, List.map_nil, List.mem_append] at hs
  obtain ⟨so, k, l, rfl, h1, h2, h3, h4⟩ := o_bytes t0 (fun n hn => hs n (.inl hn))
  obtain ⟨a, rfl, w1⟩ := one_int t1
  obtain ⟨b, rfl, w2⟩ := one_int t2
  exact ⟨so, k, l, a, b, rfl, h1, h2, h3, h4, bnd_i64 w1, bnd_i64 w2⟩
/-- PixelOne of any bytes. -/
theorem one_any (v : Bool) (W H D : Int) (A : Bool) (bo : Option Addr) (cb : Nat) (l : List Nat) (a b : Int) (w : World) (hT : Tab w) (hb : Bt.Reads w bo l) (hl : ∀ b ∈ l, b < 256) (hcb : l.length ≤ cb) (hk : cb ≤ 140737488351232) (ha : -9223372036854775808 ≤ a ∧ a ≤ 9223372036854775807) (hbb : -9223372036854775808 ≤ b ∧ b ≤ 9223372036854775807) :
    Calls Tryd.prog 8 #[.bool v, shv W H D A, .agg #[.slice bo l.length cb, .int .i64 a, .int .i64 b]] w fun e w' => e = .returned (.bool true) ∧ Kept [] w w' := by
  by_cases hE : unE v W H D A l.length (gb l) = 0
  · exact one_yes v W H D A bo cb l a b w hT hb hl hcb hE (by omega) ha hbb
  · exact one_no v W H D A bo cb l a b w hT hb hl hcb hE
end Go.Proofs.YtodlkpcbkilglaaDoor
