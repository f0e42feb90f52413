import Derived.Test.YthhegomjipbdbaaGreatDoorpG
import Derived.ProofKit
import Derived.OpenShut
import Derived.ShutString
import Derived.ChangeOld
import Derived.SizedLaws
import Derived.Lib.SmallJoins
import Derived.Deep.Matrix
import Derived.ChangeSlices
namespace Go.Proofs.YthhegomjipbdbaaGreatDoor.Pc
open Go.ChangeShapes Go.WideShapes Go.ChangeAt Go.RowKit Go.Deep

theorem cellsFrame : Tryz.prog.cellsOf 42 = 5 := by kernel_rfl
theorem cellsShape : Tryz.prog.cellsOf 23 = 4 := by kernel_rfl
theorem cellsPlanes : Tryz.prog.cellsOf 40 = 1 := by kernel_rfl
theorem cellsPlane : Tryz.prog.cellsOf 94 = 1 := by kernel_rfl
theorem cellsSample : Tryz.prog.cellsOf 93 = 1 := by kernel_rfl
theorem cellsInt : Tryz.prog.cellsOf 3 = 1 := by kernel_rfl
theorem cellsBool : Tryz.prog.cellsOf 4 = 1 := by kernel_rfl
theorem cellsConfig : Tryz.prog.cellsOf 45 = 5 := by kernel_rfl
theorem cellsLadder : Tryz.prog.cellsOf 43 = 1 := by kernel_rfl
theorem cellsRung : Tryz.prog.cellsOf 25 = 4 := by kernel_rfl
theorem arr5 {α : Type} {a : Array α} (h : a.size = 5) : ∃ x0 x1 x2 x3 x4, a = #[x0, x1, x2, x3, x4] := by
  obtain ⟨l⟩ := a
  match l, h with
  | [x0, x1, x2, x3, x4], _ => exact ⟨x0, x1, x2, x3, x4, rfl⟩
theorem o_int {H : Type} {enc : TypeId × Value → H} {w : World} {n : Nat} {v : Value} {y : DataW H × List MemPlace} (h : DataW.trod enc Tryz.prog w 0 (fun _ => true) true n 3 [v] = some y) : ∃ a, v = .int .i64 a ∧ (Lit.int .i64 a).wf = true := by
  obtain ⟨a, e, _, wa⟩ := DataW.trod_int Tryz.underlying3 h
  simp at e
  exact ⟨a, e, wa⟩
theorem o_bool {H : Type} {enc : TypeId × Value → H} {w : World} {n : Nat} {v : Value} {y : DataW H × List MemPlace} (h : DataW.trod enc Tryz.prog w 0 (fun _ => true) true n 4 [v] = some y) : ∃ a, v = .bool a := by
  obtain ⟨a, e, _⟩ := DataW.trod_bool Tryz.underlying4 h
  simp at e
  exact ⟨a, e⟩

/-- Planes that came in. -/
theorem o_planes {H : Type} {enc : TypeId × Value → H} {W : World} {fuel : Nat} {v : Value} {y : DataW H × List MemPlace} (h : DataW.trod enc Tryz.prog W 0 (fun _ => true) true fuel 40 [v] = some y) :
    ∃ po n c ln F, v = .slice po n c ∧ Plc W po n ln F ∧ (∀ i, i < n → ∀ j, j < ln i → F i j < 65536) ∧ n ≤ 9223372036854775807 ∧ ∀ i, i < n → ln i ≤ 9223372036854775807 := by
  rcases open_int_rows Tryz.underlying40 Tryz.underlying94 Tryz.underlying93 cellsPlane cellsSample h with ⟨hcs, _⟩ | ⟨a, len, cap, A, Ln, C, Z, hcs, _, hl, hm, _, hr⟩
  · simp at hcs
    subst hcs
    exact ⟨none, 0, 0, fun _ => 0, fun _ _ => 0, rfl, .inl rfl, fun i hi => by omega, by decide, fun i hi => by omega⟩
  · simp at hcs
    subst hcs
    have hml : maxLen ≤ 9223372036854775807 := by unfold maxLen; decide
    have hz : ∀ r, r < cap → ∀ z ∈ Z r, 0 ≤ z ∧ z < 65536 := fun r hr0 z hz => by
      have := (hr r hr0).2.2.2.2.1 z hz
      simp [Lit.wf] at this
      have h1 : IntKind.u16.min = 0 := by decide
      have h2 : IntKind.u16.max = 65535 := by decide
      omega
    refine ⟨some a, len, cap, Ln, fun r j => ((Z r).getD j 0).toNat, rfl, ?_, fun i hi j hj => ?_, by omega, fun i hi => by have := (hr i (by omega)).2.1; have := (hr i (by omega)).2.2.1; omega⟩
    · by_cases h0 : len = 0
      · exact .inl h0
      · obtain ⟨b, off, spot⟩ := a
        have hspot : spot = none := by simpa [Addr.add] using World.cell?_spot (hr 0 (by omega)).1
        subst hspot
        refine .inr ⟨b, off, rfl, fun i hi => ?_⟩
        obtain ⟨e1, r1, r2, r3, r4, r5, r6⟩ := hr i (by omega)
        have hadd : (⟨b, off, none⟩ : Addr).add i = ⟨b, off + i, none⟩ := by unfold Addr.add; split <;> simp_all
        rw [hadd] at e1
        refine ⟨A i, C i, e1, r1, ?_⟩
        by_cases h1 : Ln i = 0
        · exact .inl h1
        · rcases e : A i with _ | x
          · have := r5 e; omega
          · obtain ⟨_, hc⟩ := r6 x e
            obtain ⟨b2, off2, spot2⟩ := x
            have hs2 : spot2 = none := by simpa [Addr.add] using World.cell?_spot (hc 0 (by omega))
            subst hs2
            refine .inr ⟨b2, off2, rfl, fun j hj => ?_⟩
            have hadd2 : (⟨b2, off2, none⟩ : Addr).add j = ⟨b2, off2 + j, none⟩ := by unfold Addr.add; split <;> simp_all
            have h3 := hc j (by omega)
            rw [hadd2] at h3
            rw [h3]
            have hzj : 0 ≤ (Z i).getD j 0 := by
              have hjl : j < (Z i).length := by omega
              rw [List.getD_eq_getElem?_getD, List.getElem?_eq_getElem hjl]
              exact (hz i (by omega) _ (List.getElem_mem hjl)).1
            congr 2
            show (Z i).getD j 0 = (((Z i).getD j 0).toNat : Int)
            omega
    · have hjl : j < (Z i).length := by have := (hr i (by omega)).2.1; have := (hr i (by omega)).2.2.2.1; omega
      show ((Z i).getD j 0).toNat < 65536
      rw [List.getD_eq_getElem?_getD, List.getElem?_eq_getElem hjl]
      have := hz i (by omega) _ (List.getElem_mem hjl)
      simp only [Option.getD_some]
      omega

set_option maxRecDepth 100000 in
/-- A frame that came in. -/
theorem o_frame {H : Type} {enc : TypeId × Value → H} {W : World} {r : Reach} {b0 : Nat} {v : Value} {d : DataW H} {p : List MemPlace} (hv : Value.okWide Tryz.prog W r b0 42 v) (h : DataW.Trod enc Tryz.prog W 0 (fun _ => true) true 42 v d p) :
    ∃ a b c x po n k ln F, v = Tl.frv a b c x po n k ∧ Plc W po n ln F ∧ (∀ i, i < n → ∀ j, j < ln i → F i j < 65536) ∧ n ≤ 9223372036854775807 ∧ (∀ i, i < n → ln i ≤ 9223372036854775807) := by
  obtain ⟨cs, rfl, hsz⟩ := okWide_struct Tryz.underlying42 hv
  obtain ⟨x0, x1, x2, x3, x4, rfl⟩ := arr5 (hsz.trans cellsFrame)
  obtain ⟨fuel, hf⟩ := h
  obtain ⟨y0, y1, m, _, _, h0, h1⟩ := trod_struct2 Tryz.underlying42 hf
  simp only [Value.cells, cellsShape, cellsPlanes] at h0 h1
  obtain ⟨z0, z1, z2, z3, m2, _, _, t0, t1, t2, t3⟩ := Joins.trod_struct4 Tryz.underlying23 h0
  simp only [cellsInt, cellsBool] at t0 t1 t2 t3
  obtain ⟨a, rfl, _⟩ := o_int t0
  obtain ⟨b, rfl, _⟩ := o_int t1
  obtain ⟨c, rfl, _⟩ := o_int t2
  obtain ⟨x, rfl⟩ := o_bool t3
  obtain ⟨po, n, k, ln, F, rfl, g1, g2, g3, g4⟩ := o_planes h1
  exact ⟨a, b, c, x, po, n, k, ln, F, rfl, g1, g2, g3, g4⟩

set_option maxRecDepth 100000 in
/-- A ladder that came in. -/
theorem o_ladder {H : Type} {enc : TypeId × Value → H} {W : World} {fuel : Nat} {v : Value} {y : DataW H × List MemPlace} (h : DataW.trod enc Tryz.prog W 0 (fun _ => true) true fuel 43 [v] = some y) :
    ∃ lo n c L, v = .slice lo n c ∧ Ldr W lo n L ∧ n ≤ 9223372036854775807 := by
  rcases DataW.trod_slice Tryz.underlying43 h with ⟨hcs, _⟩ | ⟨a, len, cap, elems, rest, k, _, hcs, _, _, hl, hm, hlen, hel, _, _⟩
  · simp at hcs
    subst hcs
    exact ⟨none, 0, 0, fun _ _ => 0, rfl, .inl rfl, by decide⟩
  · simp at hcs
    subst hcs
    have hml : maxLen ≤ 9223372036854775807 := by unfold maxLen; decide
    rw [cellsRung] at hel
    have each : ∀ i, i < len → ∃ r : Nat → Int, ∀ j, j < 4 → W.cell? ((a.add (i * 4)).add j) = some (.int .i64 (r j)) := fun i hi => by
      have h1 := hel i hi
      rw [List.getElem?_eq_getElem (by omega), Option.bind_eq_some_iff] at h1
      obtain ⟨cs, hc, ht⟩ := h1
      obtain ⟨xs, m, _, _, hl4, hx, hj⟩ := DataW.trod_array Tryz.underlying25 ht
      obtain ⟨_, hlen4, hat⟩ := World.cells?_some hc
      rw [cellsInt] at hj
      have one : ∀ j, j < 4 → ∃ z, W.cell? ((a.add (i * 4)).add j) = some (.int .i64 z) := fun j hj4 => by
        have h2 := hj j hj4
        rw [List.getElem?_eq_getElem (by omega), Nat.mul_one] at h2
        obtain ⟨z, hz, _, _⟩ := DataW.trod_int Tryz.underlying3 h2
        refine ⟨z, ?_⟩
        rw [hat j hj4]
        have h3 : ((cs.drop j).take 1)[0]? = some (.int .i64 z) := by rw [hz]; rfl
        rw [List.getElem?_take_of_lt (by omega), List.getElem?_drop] at h3
        simpa using h3
      exact ⟨fun j => if h : j < 4 then (one j h).choose else 0, fun j hj4 => by
        show _ = some (Value.int .i64 (if h : j < 4 then (one j h).choose else 0))
        rw [dif_pos hj4]
        exact (one j hj4).choose_spec⟩
    refine ⟨some a, len, cap, fun i => if h : i < len then (each i h).choose else fun _ => 0, rfl, ?_, by omega⟩
    by_cases h0 : len = 0
    · exact .inl h0
    · obtain ⟨b, off, spot⟩ := a
      have hspot : spot = none := by
        obtain ⟨r, hr⟩ := each 0 (by omega)
        simpa [Addr.add] using World.cell?_spot (hr 0 (by omega))
      subst hspot
      refine .inr ⟨b, off, rfl, fun i hi j hj => ?_⟩
      have h4 := (each i hi).choose_spec j hj
      have hadd : ((⟨b, off, none⟩ : Addr).add (i * 4)).add j = ⟨b, off + i * 4 + j, none⟩ := by
        have e1 : ∀ (o k : Nat), (⟨b, o, none⟩ : Addr).add k = ⟨b, o + k, none⟩ := fun o k => by unfold Addr.add; split <;> simp_all
        rw [e1, e1]
      rw [hadd] at h4
      rw [h4]
      show _ = some (Value.int .i64 ((if h : i < len then (each i h).choose else fun _ => 0) j))
      rw [dif_pos hi]

theorem t_struct5 {H : Type} {enc : TypeId × Value → H} {P : Program} {w : World} {base : Nat} {spare : Nat → Bool} {held : Bool} {t : TypeId} {f0 f1 f2 f3 f4 : Field} {fuel : Nat} {cs : List Value} {x : DataW H × List MemPlace} (ht : P.underlying t = some (.struct #[f0, f1, f2, f3, f4])) (h : DataW.trod enc P w base spare held fuel t cs = some x) :
    ∃ y0 y1 y2 y3 y4 n, x.1 = .agg [y0.1, y1.1, y2.1, y3.1, y4.1] ∧ DataW.trod enc P w base spare held n f0.type ((cs.drop f0.offset).take (P.cellsOf f0.type)) = some y0 ∧
      DataW.trod enc P w base spare held n f1.type ((cs.drop f1.offset).take (P.cellsOf f1.type)) = some y1 ∧ DataW.trod enc P w base spare held n f2.type ((cs.drop f2.offset).take (P.cellsOf f2.type)) = some y2 ∧
      DataW.trod enc P w base spare held n f3.type ((cs.drop f3.offset).take (P.cellsOf f3.type)) = some y3 ∧ DataW.trod enc P w base spare held n f4.type ((cs.drop f4.offset).take (P.cellsOf f4.type)) = some y4 := by
  obtain ⟨xs, n, _, rfl, hl, hlen, hf⟩ := DataW.trod_struct ht h
  match xs, hlen with
  | [y0, y1, y2, y3, y4], _ => exact ⟨y0, y1, y2, y3, y4, n, by simp, by simpa using hf 0 f0 rfl, by simpa using hf 1 f1 rfl, by simpa using hf 2 f2 rfl, by simpa using hf 3 f3 rfl, by simpa using hf 4 f4 rfl⟩

theorem wf_in {a : Int} (h : (Lit.int .i64 a).wf = true) : -9223372036854775808 ≤ a ∧ a ≤ 9223372036854775807 := by
  simp [Lit.wf] at h
  have h1 : IntKind.i64.min = -9223372036854775808 := by decide
  have h2 : IntKind.i64.max = 9223372036854775807 := by decide
  omega

set_option maxRecDepth 100000 in
/-- A configuration that came in. -/
theorem o_config {H : Type} {enc : TypeId × Value → H} {W : World} {r : Reach} {b0 : Nat} {v : Value} {d : DataW H} {p : List MemPlace} (hv : Value.okWide Tryz.prog W r b0 45 v) (h : DataW.Trod enc Tryz.prog W 0 (fun _ => true) true 45 v d p) :
    ∃ sw sh lo n c L cap pa, v = cfv sw sh lo n c cap pa ∧ Ldr W lo n L ∧ n ≤ 9223372036854775807 ∧ (-9223372036854775808 ≤ sw ∧ sw ≤ 9223372036854775807) ∧ (-9223372036854775808 ≤ sh ∧ sh ≤ 9223372036854775807) ∧ (-9223372036854775808 ≤ cap ∧ cap ≤ 9223372036854775807) ∧ (-9223372036854775808 ≤ pa ∧ pa ≤ 9223372036854775807) := by
  obtain ⟨cs, rfl, hsz⟩ := okWide_struct Tryz.underlying45 hv
  obtain ⟨x0, x1, x2, x3, x4, rfl⟩ := arr5 (hsz.trans cellsConfig)
  obtain ⟨fuel, hf⟩ := h
  obtain ⟨y0, y1, y2, y3, y4, m, _, h0, h1, h2, h3, h4⟩ := t_struct5 Tryz.underlying45 hf
  simp only [Value.cells, cellsInt, cellsLadder] at h0 h1 h2 h3 h4
  obtain ⟨a, rfl, wa⟩ := o_int h0
  obtain ⟨b, rfl, wb⟩ := o_int h1
  obtain ⟨lo, n, c, L, rfl, hL, hn⟩ := o_ladder h2
  obtain ⟨x, rfl, wx⟩ := o_int h3
  obtain ⟨y, rfl, wy⟩ := o_int h4
  exact ⟨a, b, lo, n, c, L, x, y, rfl, hL, hn, wf_in wa, wf_in wb, wf_in wx, wf_in wy⟩
end Go.Proofs.YthhegomjipbdbaaGreatDoor.Pc
