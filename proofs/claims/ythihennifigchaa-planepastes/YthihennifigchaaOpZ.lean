import Derived.Test.YthihennifigchaaA5
import Derived.ProofKit
import Derived.OpenShut
import Derived.ShutString
import Derived.ChangeOld
import Derived.SizedLaws
import Derived.Lib.SmallJoins
import Derived.Test.YthihennifigchaaB1
import Derived.Deep.Matrix
import Derived.ChangeSlices
import Derived.Deep.Strs
namespace Go.Proofs.Ythihennifigchaa
open Go.ChangeShapes Go.WideShapes Go.ChangeAt Go.RowKit

theorem own_knob : ownKnob Try.prog.godebug = none := by kernel_rfl
theorem laid_out : laidOutB Try.prog = true := by kernel_rfl
theorem one_int {H : Type} {enc : TypeId × Value → H} {w : World} {n : Nat} {v : Value} {y : DataW H × List MemPlace} (h : DataW.trod enc Try.prog w 0 (fun _ => true) true n 3 [v] = some y) : ∃ a, v = .int .i64 a ∧ (Lit.int .i64 a).wf = true := by
  obtain ⟨a, e, _, wa⟩ := DataW.trod_int Try.underlying3 h
  simp at e
  exact ⟨a, e, wa⟩
theorem one_bool {H : Type} {enc : TypeId × Value → H} {w : World} {n : Nat} {v : Value} {y : DataW H × List MemPlace} (h : DataW.trod enc Try.prog w 0 (fun _ => true) true n 4 [v] = some y) : ∃ a, v = .bool a := by
  obtain ⟨a, e, _⟩ := DataW.trod_bool Try.underlying4 h
  simp at e
  exact ⟨a, e⟩
/-- A shape that came in. -/
theorem open_shape {H : Type} {enc : TypeId × Value → H} {W : World} {r : Reach} {b0 : Nat} {v : Value} {d : DataW H} {p : List MemPlace} (hv : Value.okWide Try.prog W r b0 23 v) (h : DataW.Trod enc Try.prog W 0 (fun _ => true) true 23 v d p) :
    ∃ a b c x, v = shv a b c x ∧ (Lit.int .i64 a).wf = true ∧ (Lit.int .i64 b).wf = true ∧ (Lit.int .i64 c).wf = true := by
  obtain ⟨x0, x1, x2, x3, y0, y1, y2, y3, m, rfl, _, _, t0, t1, t2, t3⟩ := Joins.open_agg4 Try.underlying23 (by kernel_rfl) (by kernel_rfl) hv h
  obtain ⟨a, rfl, w0⟩ := one_int t0
  obtain ⟨b, rfl, w1⟩ := one_int t1
  obtain ⟨c, rfl, w2⟩ := one_int t2
  obtain ⟨x, rfl⟩ := one_bool t3
  exact ⟨a, b, c, x, rfl, w0, w1, w2⟩
/-- A rectangle that came in. -/
theorem open_rect {H : Type} {enc : TypeId × Value → H} {W : World} {r : Reach} {b0 : Nat} {v : Value} {d : DataW H} {p : List MemPlace} (hv : Value.okWide Try.prog W r b0 51 v) (h : DataW.Trod enc Try.prog W 0 (fun _ => true) true 51 v d p) :
    ∃ a b c x, v = rcv a b c x ∧ (Lit.int .i64 a).wf = true ∧ (Lit.int .i64 b).wf = true ∧ (Lit.int .i64 c).wf = true ∧ (Lit.int .i64 x).wf = true := by
  obtain ⟨x0, x1, x2, x3, y0, y1, y2, y3, m, rfl, _, _, t0, t1, t2, t3⟩ := Joins.open_agg4 Try.underlying51 (by kernel_rfl) (by kernel_rfl) hv h
  obtain ⟨a, rfl, w0⟩ := one_int t0
  obtain ⟨b, rfl, w1⟩ := one_int t1
  obtain ⟨c, rfl, w2⟩ := one_int t2
  obtain ⟨x, rfl, w3⟩ := one_int t3
  exact ⟨a, b, c, x, rfl, w0, w1, w2, w3⟩
end Go.Proofs.Ythihennifigchaa

namespace Go.Proofs.Ythihennifigchaa
open Go.ChangeShapes Go.WideShapes Go.ChangeAt Go.RowKit Go.Deep

theorem Try.cells26 : Try.prog.cellsOf 38 = 5 := by kernel_rfl
theorem Try.cells23 : Try.prog.cellsOf 23 = 4 := by kernel_rfl
theorem Try.cells24 : Try.prog.cellsOf 36 = 1 := by kernel_rfl
theorem Try.cells37 : Try.prog.cellsOf 52 = 1 := by kernel_rfl
theorem Try.cells65 : Try.prog.cellsOf 65 = 1 := by kernel_rfl
theorem Try.cells3 : Try.prog.cellsOf 3 = 1 := by kernel_rfl
theorem Try.cells4 : Try.prog.cellsOf 4 = 1 := by kernel_rfl
theorem array5 {α : Type} {a : Array α} (h : a.size = 5) : ∃ x0 x1 x2 x3 x4, a = #[x0, x1, x2, x3, x4] := by
  obtain ⟨l⟩ := a
  match l, h with
  | [x0, x1, x2, x3, x4], _ => exact ⟨x0, x1, x2, x3, x4, rfl⟩

/-- Planes that came in. -/
theorem open_planes {H : Type} {enc : TypeId × Value → H} {W : World} {fuel : Nat} {v : Value} {y : DataW H × List MemPlace} (h : DataW.trod enc Try.prog W 0 (fun _ => true) true fuel 36 [v] = some y) :
    ∃ po n c ln F, v = .slice po n c ∧ Pc W po n ln F ∧ (∀ i, i < n → ∀ j, j < ln i → F i j < 65536) ∧ n ≤ 9223372036854775807 ∧ ∀ i, i < n → ln i ≤ 9223372036854775807 := by
  rcases open_int_rows Try.underlying36 Try.underlying52 Try.underlying65 Try.cells37 Try.cells65 h with ⟨hcs, _⟩ | ⟨a, len, cap, A, Ln, C, Z, hcs, _, hl, hm, _, hr⟩
  · simp at hcs
    subst hcs
    exact ⟨none, 0, 0, fun _ => 0, fun _ _ => 0, rfl, .inl rfl, fun i hi => by omega, by decide, fun i hi => by omega⟩
  · simp at hcs
    subst hcs
    have hml : maxLen ≤ 9223372036854775807 := by unfold maxLen; decide
    have hz : ∀ r, r < cap → ∀ z ∈ Z r, 0 ≤ z ∧ z < 65536 := fun r hr0 z hz => by
      have := (hr r hr0).2.2.2.2.1 z hz
      simp [Lit.wf] at this
      have h1 : IntKind.u16.min = 0 := by decide
      have h2 : IntKind.u16.max = 65535 := by decide
      omega
    refine ⟨some a, len, cap, Ln, fun r j => ((Z r).getD j 0).toNat, rfl, ?_, fun i hi j hj => ?_, by omega, fun i hi => by have := (hr i (by omega)).2.1; have := (hr i (by omega)).2.2.1; omega⟩
    · by_cases h0 : len = 0
      · exact .inl h0
      · obtain ⟨b, off, spot⟩ := a
        have hspot : spot = none := by simpa [Addr.add] using World.cell?_spot (hr 0 (by omega)).1
        subst hspot
        refine .inr ⟨b, off, rfl, fun i hi => ?_⟩
        obtain ⟨e1, r1, r2, r3, r4, r5, r6⟩ := hr i (by omega)
        have hadd : (⟨b, off, none⟩ : Addr).add i = ⟨b, off + i, none⟩ := by unfold Addr.add; split <;> simp_all
        rw [hadd] at e1
        refine ⟨A i, C i, e1, r1, ?_⟩
        by_cases h1 : Ln i = 0
        · exact .inl h1
        · rcases e : A i with _ | x
          · have := r5 e; omega
          · obtain ⟨_, hc⟩ := r6 x e
            obtain ⟨b2, off2, spot2⟩ := x
            have hs2 : spot2 = none := by simpa [Addr.add] using World.cell?_spot (hc 0 (by omega))
            subst hs2
            refine .inr ⟨b2, off2, rfl, fun j hj => ?_⟩
            have hadd2 : (⟨b2, off2, none⟩ : Addr).add j = ⟨b2, off2 + j, none⟩ := by unfold Addr.add; split <;> simp_all
            have h3 := hc j (by omega)
            rw [hadd2] at h3
            rw [h3]
            have hzj : 0 ≤ (Z i).getD j 0 := by
              have hjl : j < (Z i).length := by omega
              rw [List.getD_eq_getElem?_getD, List.getElem?_eq_getElem hjl]
              exact (hz i (by omega) _ (List.getElem_mem hjl)).1
            congr 2
            show (Z i).getD j 0 = (((Z i).getD j 0).toNat : Int)
            omega
    · have hjl : j < (Z i).length := by have := (hr i (by omega)).2.1; have := (hr i (by omega)).2.2.2.1; omega
      show ((Z i).getD j 0).toNat < 65536
      rw [List.getD_eq_getElem?_getD, List.getElem?_eq_getElem hjl]
      have := hz i (by omega) _ (List.getElem_mem hjl)
      simp only [Option.getD_some]
      omega

/-- A frame that came in. -/
theorem open_frame {H : Type} {enc : TypeId × Value → H} {W : World} {r : Reach} {b0 : Nat} {v : Value} {d : DataW H} {p : List MemPlace} (hv : Value.okWide Try.prog W r b0 38 v) (h : DataW.Trod enc Try.prog W 0 (fun _ => true) true 38 v d p) :
    ∃ a b c x po n k ln F, v = frv a b c x po n k ∧ Pc W po n ln F ∧ (∀ i, i < n → ∀ j, j < ln i → F i j < 65536) ∧ n ≤ 9223372036854775807 ∧ (∀ i, i < n → ln i ≤ 9223372036854775807) := by
  obtain ⟨cs, rfl, hsz⟩ := okWide_struct Try.underlying38 hv
  obtain ⟨x0, x1, x2, x3, x4, rfl⟩ := array5 (hsz.trans Try.cells26)
  obtain ⟨fuel, hf⟩ := h
  obtain ⟨y0, y1, m, _, _, h0, h1⟩ := trod_struct2 Try.underlying38 hf
  simp only [Value.cells, Try.cells23, Try.cells24] at h0 h1
  obtain ⟨z0, z1, z2, z3, m2, _, _, t0, t1, t2, t3⟩ := Joins.trod_struct4 Try.underlying23 h0
  simp only [Try.cells3, Try.cells4] at t0 t1 t2 t3
  obtain ⟨a, rfl, _⟩ := one_int t0
  obtain ⟨b, rfl, _⟩ := one_int t1
  obtain ⟨c, rfl, _⟩ := one_int t2
  obtain ⟨x, rfl⟩ := one_bool t3
  obtain ⟨po, n, k, ln, F, rfl, g1, g2, g3, g4⟩ := open_planes h1
  exact ⟨a, b, c, x, po, n, k, ln, F, rfl, g1, g2, g3, g4⟩
end Go.Proofs.Ythihennifigchaa

namespace Go.Proofs.Ythihennifigchaa
open Go.ChangeShapes Go.WideShapes Go.ChangeAt Go.RowKit Go.Deep

theorem Try.bytesR : Try.prog.bytesOf 52 = 24 := by kernel_rfl
theorem Try.bytesU : Try.prog.bytesOf 65 = 2 := by kernel_rfl
theorem mem_weightsAll {H : Type} {P : Program} {e : TypeId} : ∀ {l : List (DataW H)} {d : DataW H}, d ∈ l → ∀ n ∈ d.weights P e, n ∈ DataW.weightsAll P e l
  | [], _, h, _, _ => by simp at h
  | x :: r, d, h, n, hn => by
    simp only [DataW.weightsAll, List.mem_append]
    rcases List.mem_cons.1 h with rfl | h
    · exact .inl hn
    · exact .inr (mem_weightsAll h n hn)

/-- Planes that came in, with their sizes. -/
theorem open_planesS {H : Type} {enc : TypeId × Value → H} {W : World} {fuel : Nat} {v : Value} {y : DataW H × List MemPlace} (h : DataW.trod enc Try.prog W 0 (fun _ => true) true fuel 36 [v] = some y) (hs : ∀ n ∈ y.1.weights Try.prog 36, n ≤ reachBytes) :
    ∃ po n c ln F, v = .slice po n c ∧ Pc W po n ln F ∧ (∀ i, i < n → ∀ j, j < ln i → F i j < 65536) ∧ n ≤ 5864062014634 ∧ ∀ i, i < n → ln i ≤ 70368744175616 := by
  rcases open_int_rows Try.underlying36 Try.underlying52 Try.underlying65 Try.cells37 Try.cells65 h with ⟨hcs, _⟩ | ⟨a, len, cap, A, Ln, C, Z, hcs, _, hl, hm, hx, hr⟩
  · simp at hcs
    subst hcs
    exact ⟨none, 0, 0, fun _ => 0, fun _ _ => 0, rfl, .inl rfl, fun i hi => by omega, by decide, fun i hi => by omega⟩
  · simp at hcs
    subst hcs
    have hd : y.1 = .slice ((List.range len).map fun r => intRow .u16 (A r) (Ln r) (Z r)) ((List.range (cap - len)).map fun j => intRow .u16 (A (len + j)) (Ln (len + j)) (Z (len + j))) := congrArg Prod.fst hx
    rw [hd] at hs
    simp only [DataW.weights, Try.underlying36, List.mem_cons, List.mem_append, Try.bytesR, List.length_map, List.length_range] at hs
    have h24 := hs _ (.inl rfl)
    have hw : ∀ r, r < len → Ln r ≤ 70368744175616 := fun r hr0 => by
      rcases e : A r with _ | x
      · have h1 := (hr r (by omega)).2.2.2.2.2.1 e
        have h2 := (hr r (by omega)).2.1
        omega
      · have h3 := hs (((lits (H := H) .u16 ((Z r).take (Ln r))).length + (lits (H := H) .u16 ((Z r).drop (Ln r))).length) * Try.prog.bytesOf 65) (.inr (.inl (mem_weightsAll (d := intRow .u16 (A r) (Ln r) (Z r)) (List.mem_map.2 ⟨r, List.mem_range.2 hr0, rfl⟩) _ (by
          rw [e]
          simp [intRow, DataW.weights, Try.underlying52]))))
        rw [Try.bytesU] at h3
        simp only [lits, List.length_map, List.length_take, List.length_drop, reachBytes] at h3
        have h4 := (hr r (by omega)).2.1
        have h5 := (hr r (by omega)).2.2.2.1
        omega
    have hz : ∀ r, r < cap → ∀ z ∈ Z r, 0 ≤ z ∧ z < 65536 := fun r hr0 z hz => by
      have := (hr r hr0).2.2.2.2.1 z hz
      simp [Lit.wf] at this
      have h1 : IntKind.u16.min = 0 := by decide
      have h2 : IntKind.u16.max = 65535 := by decide
      omega
    refine ⟨some a, len, cap, Ln, fun r j => ((Z r).getD j 0).toNat, rfl, ?_, fun i hi j hj => ?_, by unfold reachBytes at h24; omega, hw⟩
    · by_cases h0 : len = 0
      · exact .inl h0
      · obtain ⟨b, off, spot⟩ := a
        have hspot : spot = none := by simpa [Addr.add] using World.cell?_spot (hr 0 (by omega)).1
        subst hspot
        refine .inr ⟨b, off, rfl, fun i hi => ?_⟩
        obtain ⟨e1, r1, r2, r3, r4, r5, r6⟩ := hr i (by omega)
        have hadd : (⟨b, off, none⟩ : Addr).add i = ⟨b, off + i, none⟩ := by unfold Addr.add; split <;> simp_all
        rw [hadd] at e1
        refine ⟨A i, C i, e1, r1, ?_⟩
        by_cases h1 : Ln i = 0
        · exact .inl h1
        · rcases e : A i with _ | x
          · have := r5 e; omega
          · obtain ⟨_, hc⟩ := r6 x e
            obtain ⟨b2, off2, spot2⟩ := x
            have hs2 : spot2 = none := by simpa [Addr.add] using World.cell?_spot (hc 0 (by omega))
            subst hs2
            refine .inr ⟨b2, off2, rfl, fun j hj => ?_⟩
            have hadd2 : (⟨b2, off2, none⟩ : Addr).add j = ⟨b2, off2 + j, none⟩ := by unfold Addr.add; split <;> simp_all
            have h3 := hc j (by omega)
            rw [hadd2] at h3
            rw [h3]
            have hzj : 0 ≤ (Z i).getD j 0 := by
              have hjl : j < (Z i).length := by omega
              rw [List.getD_eq_getElem?_getD, List.getElem?_eq_getElem hjl]
              exact (hz i (by omega) _ (List.getElem_mem hjl)).1
            congr 2
            show (Z i).getD j 0 = (((Z i).getD j 0).toNat : Int)
            omega
    · have hjl : j < (Z i).length := by have := (hr i (by omega)).2.1; have := (hr i (by omega)).2.2.2.1; omega
      show ((Z i).getD j 0).toNat < 65536
      rw [List.getD_eq_getElem?_getD, List.getElem?_eq_getElem hjl]
      have := hz i (by omega) _ (List.getElem_mem hjl)
      simp only [Option.getD_some]
      omega

/-- A frame that came in, with its sizes. -/
theorem open_frameS {H : Type} {enc : TypeId × Value → H} {W : World} {r : Reach} {b0 : Nat} {v : Value} {d : DataW H} {p : List MemPlace} (hv : Value.okWide Try.prog W r b0 38 v) (h : DataW.Trod enc Try.prog W 0 (fun _ => true) true 38 v d p) (hs : ∀ n ∈ d.weights Try.prog 38, n ≤ reachBytes) :
    ∃ a b c x po n k ln F, v = frv a b c x po n k ∧ Pc W po n ln F ∧ (∀ i, i < n → ∀ j, j < ln i → F i j < 65536) ∧ n ≤ 5864062014634 ∧ (∀ i, i < n → ln i ≤ 70368744175616) := by
  obtain ⟨cs, rfl, hsz⟩ := okWide_struct Try.underlying38 hv
  obtain ⟨x0, x1, x2, x3, x4, rfl⟩ := array5 (hsz.trans Try.cells26)
  obtain ⟨fuel, hf⟩ := h
  obtain ⟨y0, y1, m, hd, _, h0, h1⟩ := trod_struct2 Try.underlying38 hf
  simp only [Value.cells, Try.cells23, Try.cells24] at h0 h1
  have hd1 : d = .agg [y0.1, y1.1] := congrArg Prod.fst hd
  rw [hd1] at hs
  simp only [DataW.weights, Try.underlying38, DataW.weightsEach, List.map_cons, List.map_nil, List.mem_append, List.append_nil] at hs
  obtain ⟨z0, z1, z2, z3, m2, _, _, t0, t1, t2, t3⟩ := Joins.trod_struct4 Try.underlying23 h0
  simp only [Try.cells3, Try.cells4] at t0 t1 t2 t3
  obtain ⟨a, rfl, _⟩ := one_int t0
  obtain ⟨b, rfl, _⟩ := one_int t1
  obtain ⟨c, rfl, _⟩ := one_int t2
  obtain ⟨x, rfl⟩ := one_bool t3
  obtain ⟨po, n, k, ln, F, rfl, g1, g2, g3, g4⟩ := open_planesS h1 (fun n hn => hs n (.inr hn))
  exact ⟨a, b, c, x, po, n, k, ln, F, rfl, g1, g2, g3, g4⟩
end Go.Proofs.Ythihennifigchaa

namespace Go.Proofs.Ythihennifigchaa
open Go.ChangeShapes Go.WideShapes Go.ChangeAt Go.RowKit Go.Deep

theorem Try.cellsPut : Try.prog.cellsOf 61 = 6 := by kernel_rfl
theorem Try.cellsBlk : Try.prog.cellsOf 54 = 3 := by kernel_rfl
theorem Try.cellsInt : Try.prog.cellsOf 3 = 1 := by kernel_rfl
theorem array6 {α : Type} {a : Array α} (h : a.size = 6) : ∃ x0 x1 x2 x3 x4 x5, a = #[x0, x1, x2, x3, x4, x5] := by
  obtain ⟨l⟩ := a
  match l, h with
  | [x0, x1, x2, x3, x4, x5], _ => exact ⟨x0, x1, x2, x3, x4, x5, rfl⟩
/-- What is to be put, that came in, with its sizes. -/
theorem open_putS {H : Type} {enc : TypeId × Value → H} {W : World} {r : Reach} {b0 : Nat} {v : Value} {d : DataW H} {p : List MemPlace} (hv : Value.okWide Try.prog W r b0 61 v) (h : DataW.Trod enc Try.prog W 0 (fun _ => true) true 61 v d p) (hs : ∀ n ∈ d.weights Try.prog 61, n ≤ reachBytes) :
    ∃ q x y a b so m k f, v = .agg #[.int .i64 q, .int .i64 x, .int .i64 y, .int .i64 a, .int .i64 b, .slice so m k] ∧ (Lit.int .i64 x).wf = true ∧ (Lit.int .i64 y).wf = true ∧ Rd W so m f ∧ (∀ i, i < m → f i < 65536) ∧ m ≤ 70368744175616 := by
  obtain ⟨cs, rfl, hsz⟩ := okWide_struct Try.underlying61 hv
  obtain ⟨x0, x1, x2, x3, x4, x5, rfl⟩ := array6 (hsz.trans Try.cellsPut)
  obtain ⟨fuel, hf⟩ := h
  obtain ⟨y0, y1, y2, y3, n1, hd, _, h0, h1, h2, h3⟩ := Joins.trod_struct4 Try.underlying61 hf
  simp only [Value.cells, Try.cellsInt, Try.cellsBlk] at h0 h1 h2 h3
  have hd1 : d = .agg [y0.1, y1.1, y2.1, y3.1] := congrArg Prod.fst hd
  rw [hd1] at hs
  simp only [DataW.weights, Try.underlying61, DataW.weightsEach, List.map_cons, List.map_nil, List.mem_append, List.append_nil] at hs
  obtain ⟨q, rfl, _⟩ := one_int h0
  obtain ⟨x, rfl, wx⟩ := one_int h1
  obtain ⟨y, rfl, wy⟩ := one_int h2
  obtain ⟨z0, z1, z2, n2, hz, _, t0, t1, t2⟩ := trod_struct3 Try.underlying54 h3
  simp only [Try.cellsInt, Try.cells37] at t0 t1 t2
  have hz1 : y3.1 = .agg [z0.1, z1.1, z2.1] := congrArg Prod.fst hz
  obtain ⟨a, rfl, _⟩ := one_int t0
  obtain ⟨b, rfl, _⟩ := one_int t1
  have hs3 : ∀ n ∈ z2.1.weights Try.prog 52, n ≤ reachBytes := fun n hn => hs n (by
    rw [hz1]
    simp only [DataW.weights, Try.underlying54, DataW.weightsEach, List.map_cons, List.map_nil, List.mem_append, List.append_nil]
    exact .inr (.inr (.inr (.inr (.inr hn)))))
  rcases open_ints Try.underlying52 Try.underlying65 Try.cells65 t2 with ⟨hcs, _⟩ | ⟨ad, len, cap, zs, hcs, _, hl, hm, hzl, hx, hc, hw⟩
  · simp at hcs
    subst hcs
    exact ⟨q, x, y, a, b, none, 0, 0, fun _ => 0, rfl, wx, wy, .inl rfl, fun i hi => by omega, by decide⟩
  · simp at hcs
    subst hcs
    simp only [if_true] at hzl
    have hx1 : z2.1 = .slice (lits .u16 (zs.take len)) (lits .u16 (zs.drop len)) := congrArg Prod.fst hx
    rw [hx1] at hs3
    have h5 := hs3 (((lits (H := H) .u16 (zs.take len)).length + (lits (H := H) .u16 (zs.drop len)).length) * Try.prog.bytesOf 65) (by simp [DataW.weights, Try.underlying52])
    rw [Try.bytesU] at h5
    simp only [lits, List.length_map, List.length_take, List.length_drop, reachBytes] at h5
    have hwf : ∀ z ∈ zs, 0 ≤ z ∧ z < 65536 := fun z hz => by
      have := hw z hz
      simp [Lit.wf] at this
      have h1 : IntKind.u16.min = 0 := by decide
      have h2 : IntKind.u16.max = 65535 := by decide
      omega
    have hg : ∀ i, i < len → 0 ≤ zs.getD i 0 ∧ zs.getD i 0 < 65536 := fun i hi => by
      have hil : i < zs.length := by omega
      rw [List.getD_eq_getElem?_getD, List.getElem?_eq_getElem hil]
      exact hwf _ (List.getElem_mem hil)
    refine ⟨q, x, y, a, b, some ad, len, cap, fun i => (zs.getD i 0).toNat, rfl, wx, wy, ?_, fun i hi => by have := hg i hi; show (zs.getD i 0).toNat < 65536; omega, by omega⟩
    by_cases h0 : len = 0
    · exact .inl h0
    · obtain ⟨bb, off, spot⟩ := ad
      have hspot : spot = none := by simpa [Addr.add] using World.cell?_spot (hc 0 (by omega))
      subst hspot
      refine .inr ⟨bb, off, rfl, fun i hi => ?_⟩
      have hadd : (⟨bb, off, none⟩ : Addr).add i = ⟨bb, off + i, none⟩ := by unfold Addr.add; split <;> simp_all
      have h3 := hc i (by omega)
      rw [hadd] at h3
      rw [h3]
      congr 2
      have := hg i hi
      show zs.getD i 0 = ((zs.getD i 0).toNat : Int)
      omega
end Go.Proofs.Ythihennifigchaa
