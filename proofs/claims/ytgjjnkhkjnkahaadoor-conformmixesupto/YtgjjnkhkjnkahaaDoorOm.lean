import Derived.Test.YtgjjnkhkjnkahaaDoorPz
import Derived.Test.YtgjjnkhkjnkahaaDoorOq
import Derived.Test.YtgjjnkhkjnkahaaDoorCd
import Derived.Deep.Slices
import Derived.JoinedCond
namespace Go.Proofs.YtgjjnkhkjnkahaaDoor
open Go.ChangeShapes Go.WideShapes Go.ChangeAt Go.RowKit Go.Deep

theorem bulk_one {H : Type} (d : DataW H) : 1 ≤ Rows.uptoBulk d := by
  rcases d with l | _ | _ | _ | _ | _ | _ | _
  · unfold Rows.uptoBulk; split <;> omega
  all_goals simp [Rows.uptoBulk]
theorem bulk_sum {H : Type} (l : List (DataW H)) : Rows.uptoBulkAll l = (l.map Rows.uptoBulk).sum := by
  induction l with
  | nil => simp [Rows.uptoBulkAll]
  | cons x r ih => rw [Rows.uptoBulkAll, ih]; simp
theorem bulk_part {H : Type} {d : DataW H} {l : List (DataW H)} (h : d ∈ l) : Rows.uptoBulk d ≤ Rows.uptoBulkAll l := by
  obtain ⟨l1, l2, rfl⟩ := List.append_of_mem h
  rw [bulk_sum]
  simp
  omega
theorem bulk_len {H : Type} (l : List (DataW H)) : l.length ≤ Rows.uptoBulkAll l := by
  induction l with
  | nil => simp [Rows.uptoBulkAll]
  | cons x r ih =>
    have h1 := bulk_one x
    simp only [Rows.uptoBulkAll, List.length_cons]
    omega
set_option maxRecDepth 100000 in
/-- Planes that came in, with their bulk. -/
theorem open_planesU {H : Type} {enc : TypeId × Value → H} {W : World} {fuel : Nat} {v : Value} {y : DataW H × List MemPlace} (h : DataW.trod enc Tryd.prog W 0 (fun _ => true) true fuel 27 [v] = some y) :
    ∃ po n c ln F, v = .slice po n c ∧ Pn W po n ln F ∧ (∀ i, i < n → ∀ j, j < ln i → F i j < 65536) ∧ n ≤ Rows.uptoBulk y.1 ∧ ∀ i, i < n → ln i ≤ Rows.uptoBulk y.1 := by
  rcases open_int_rows Tryd.underlying27 Tryd.underlying37 Tryd.underlying38 Tryd.cells28 Tryd.cells38 h with ⟨hcs, _⟩ | ⟨a, len, cap, A, Ln, C, Z, hcs, _, hl, hm, hx, hr⟩
  · simp at hcs
    subst hcs
    exact ⟨none, 0, 0, fun _ => 0, fun _ _ => 0, rfl, .inl rfl, fun i hi => by omega, by omega, fun i hi => by omega⟩
  · simp at hcs
    subst hcs
    have hd : y.1 = .slice ((List.range len).map fun r => intRow .u16 (A r) (Ln r) (Z r)) ((List.range (cap - len)).map fun j => intRow .u16 (A (len + j)) (Ln (len + j)) (Z (len + j))) := congrArg Prod.fst hx
    have hB : Rows.uptoBulk y.1 = Rows.uptoBulkAll ((List.range len).map fun r => intRow (H := H) .u16 (A r) (Ln r) (Z r)) + Rows.uptoBulkAll ((List.range (cap - len)).map fun j => intRow (H := H) .u16 (A (len + j)) (Ln (len + j)) (Z (len + j))) + 1 := by rw [hd]; simp only [Rows.uptoBulk]
    have hlen : len ≤ Rows.uptoBulk y.1 := by
      have := bulk_len ((List.range len).map fun r => intRow (H := H) .u16 (A r) (Ln r) (Z r))
      simp only [List.length_map, List.length_range] at this
      omega
    have hw : ∀ r, r < len → Ln r ≤ Rows.uptoBulk y.1 := fun r hr0 => by
      have h0 : Ln r ≤ Rows.uptoBulk (intRow (H := H) .u16 (A r) (Ln r) (Z r)) := by
        rcases e : A r with _ | x
        · have h1 := (hr r (by omega)).2.2.2.2.2.1 e
          have h3 := (hr r (by omega)).2.1
          omega
        · simp only [intRow, Rows.uptoBulk]
          have h3 := bulk_len (lits (H := H) .u16 ((Z r).take (Ln r)))
          have h6 : (lits (H := H) .u16 ((Z r).take (Ln r))).length = min (Ln r) (Z r).length := by simp [lits]
          have h4 := (hr r (by omega)).2.1
          have h5 := (hr r (by omega)).2.2.2.1
          omega
      have h2 := bulk_part (H := H) (List.mem_map.2 ⟨r, List.mem_range.2 hr0, rfl⟩ : intRow (H := H) .u16 (A r) (Ln r) (Z r) ∈ (List.range len).map fun r => intRow (H := H) .u16 (A r) (Ln r) (Z r))
      omega
    have hz : ∀ r, r < cap → ∀ z ∈ Z r, 0 ≤ z ∧ z < 65536 := fun r hr0 z hz => by
      have := (hr r hr0).2.2.2.2.1 z hz
      simp [Lit.wf] at this
      have h1 : IntKind.u16.min = 0 := by decide
      have h2 : IntKind.u16.max = 65535 := by decide
      omega
    refine ⟨some a, len, cap, Ln, fun r j => ((Z r).getD j 0).toNat, rfl, ?_, fun i hi j hj => ?_, hlen, hw⟩
    · by_cases h0 : len = 0
      · exact .inl h0
      · obtain ⟨b, off, spot⟩ := a
        have hspot : spot = none := by simpa [Addr.add] using World.cell?_spot (hr 0 (by omega)).1
        subst hspot
        refine .inr ⟨b, off, rfl, fun i hi => ?_⟩
        obtain ⟨e1, r1, r2, r3, r4, r5, r6⟩ := hr i (by omega)
        have hadd : (⟨b, off, none⟩ : Addr).add i = ⟨b, off + i, none⟩ := by unfold Addr.add; split <;> simp_all
        rw [hadd] at e1
        refine ⟨A i, C i, e1, ?_, fun e => ⟨by have := r5 e; omega, r5 e⟩⟩
        by_cases h1 : Ln i = 0
        · exact .inl h1
        · rcases e : A i with _ | x
          · have := r5 e; omega
          · obtain ⟨_, hc⟩ := r6 x e
            obtain ⟨b2, off2, spot2⟩ := x
            have hs2 : spot2 = none := by simpa [Addr.add] using World.cell?_spot (hc 0 (by omega))
            subst hs2
            refine .inr ⟨b2, off2, rfl, fun j hj => ?_⟩
            have hadd2 : (⟨b2, off2, none⟩ : Addr).add j = ⟨b2, off2 + j, none⟩ := by unfold Addr.add; split <;> simp_all
            have h3 := hc j (by omega)
            rw [hadd2] at h3
            rw [h3]
            have hzj : 0 ≤ (Z i).getD j 0 := by
              have hjl : j < (Z i).length := by omega
              rw [List.getD_eq_getElem?_getD, List.getElem?_eq_getElem hjl]
              exact (hz i (by omega) _ (List.getElem_mem hjl)).1
            congr 2
            show (Z i).getD j 0 = (((Z i).getD j 0).toNat : Int)
            omega
    · have hjl : j < (Z i).length := by have := (hr i (by omega)).2.1; have := (hr i (by omega)).2.2.2.1; omega
      show ((Z i).getD j 0).toNat < 65536
      rw [List.getD_eq_getElem?_getD, List.getElem?_eq_getElem hjl]
      have := hz i (by omega) _ (List.getElem_mem hjl)
      simp only [Option.getD_some]
      omega

theorem bounds_of {x : Int} (h : (Lit.int .i64 x).wf = true) : -9223372036854775808 ≤ x ∧ x ≤ 9223372036854775807 := by
  simp [Lit.wf] at h
  have h1 : IntKind.i64.min = -9223372036854775808 := by decide
  have h2 : IntKind.i64.max = 9223372036854775807 := by decide
  omega
set_option maxRecDepth 100000 in
/-- A frame's cells. -/
theorem open_fr {H : Type} {enc : TypeId × Value → H} {W : World} {m : Nat} {x0 x1 x2 x3 x4 : Value} {y : DataW H × List MemPlace} (hf : DataW.trod enc Tryd.prog W 0 (fun _ => true) true m 29 [x0, x1, x2, x3, x4] = some y) :
    ∃ f : Fi, x0 = .int .i64 f.W ∧ x1 = .int .i64 f.H ∧ x2 = .int .i64 f.D ∧ x3 = .bool f.A ∧ x4 = .slice f.po f.n f.c ∧ Pn W f.po f.n f.ln f.F ∧ (∀ i, i < f.n → ∀ j, j < f.ln i → f.F i j < 65536) ∧ f.n ≤ Rows.uptoBulk y.1 ∧ ∀ i, i < f.n → f.ln i ≤ Rows.uptoBulk y.1 := by
  obtain ⟨y0, y1, m2, hd, _, h0, h1⟩ := trod_struct2 Tryd.underlying29 hf
  simp only [Tryd.cells26, Tryd.cells23] at h0 h1
  have hd1 : y.1 = .agg [y0.1, y1.1] := congrArg Prod.fst hd
  obtain ⟨z0, z1, z2, z3, m3, _, _, t0, t1, t2, t3⟩ := Joins.trod_struct4 Tryd.underlying26 h0
  simp only [Tryd.cells3, Tryd.cells4] at t0 t1 t2 t3
  obtain ⟨a, rfl, _⟩ := one_int t0
  obtain ⟨b, rfl, _⟩ := one_int t1
  obtain ⟨c, rfl, _⟩ := one_int t2
  obtain ⟨x, rfl⟩ := one_bool t3
  obtain ⟨po, n, k, ln, F, rfl, g1, g2, g3, g4⟩ := open_planesU h1
  have hle : Rows.uptoBulk y1.1 ≤ Rows.uptoBulk y.1 := by rw [hd1]; simp only [Rows.uptoBulk, Rows.uptoBulkAll]; omega
  exact ⟨⟨a, b, c, x, po, n, k, ln, F⟩, rfl, rfl, rfl, rfl, rfl, g1, g2, Nat.le_trans g3 hle, fun i hi => Nat.le_trans (g4 i hi) hle⟩
theorem list12 {α : Type} {l : List α} (h : l.length = 12) : ∃ a b c d e f a2 b2 c2 d2 e2 f2, l = [a, b, c, d, e, f, a2, b2, c2, d2, e2, f2] := by
  match l, h with
  | [a, b, c, d, e, f, a2, b2, c2, d2, e2, f2], _ => exact ⟨a, b, c, d, e, f, a2, b2, c2, d2, e2, f2, rfl⟩
/-- So one of the list lies. -/
def IsMix (W : World) (a : Addr) (i : Nat) (x : Mi) : Prop :=
  ((W.cell? (a.add (i * 12)) = some (.int .i64 x.a.W) ∧ W.cell? (a.add (i * 12 + 1)) = some (.int .i64 x.a.H) ∧ W.cell? (a.add (i * 12 + 2)) = some (.int .i64 x.a.D) ∧ W.cell? (a.add (i * 12 + 3)) = some (.bool x.a.A) ∧ W.cell? (a.add (i * 12 + 4)) = some (.slice x.a.po x.a.n x.a.c)) ∧
    (W.cell? (a.add (i * 12 + 5)) = some (.int .i64 x.b.W) ∧ W.cell? (a.add (i * 12 + 6)) = some (.int .i64 x.b.H) ∧ W.cell? (a.add (i * 12 + 7)) = some (.int .i64 x.b.D) ∧ W.cell? (a.add (i * 12 + 8)) = some (.bool x.b.A) ∧ W.cell? (a.add (i * 12 + 9)) = some (.slice x.b.po x.b.n x.b.c)) ∧
    W.cell? (a.add (i * 12 + 10)) = some (.int .i64 x.p) ∧ W.cell? (a.add (i * 12 + 11)) = some (.int .i64 x.o)) ∧
  x.a.Ok W ∧ x.b.Ok W ∧ (-9223372036854775808 ≤ x.p ∧ x.p ≤ 9223372036854775807) ∧ (-9223372036854775808 ≤ x.o ∧ x.o ≤ 9223372036854775807)
theorem Tryd.cellsMx : Tryd.prog.cellsOf 32 = 12 := by kernel_rfl
set_option maxRecDepth 100000 in
theorem open_mix {H : Type} {enc : TypeId × Value → H} {W : World} {a : Addr} {i n : Nat} {cs : List Value} {d : DataW H} {pl : List MemPlace} (h1 : W.cells? 0 (a.add (i * 12)) 12 = some cs) (h2 : DataW.trod enc Tryd.prog W 0 (fun _ => true) true n 32 cs = some (d, pl)) (hB : Rows.uptoBulk d ≤ 1048576) :
    ∃ q, IsMix W a i q := by
  obtain ⟨_, hlen, hcell⟩ := World.cells?_some h1
  obtain ⟨y0, y1, y2, y3, k, hx, _, g0, g1, g2, g3⟩ := Joins.trod_struct4 Tryd.underlying32 h2
  obtain ⟨c0, c1, c2, c3, c4, c5, c6, c7, c8, c9, c10, c11, rfl⟩ := list12 hlen
  simp only [Tryd.cells64, Tryd.cells3] at g0 g1 g2 g3
  obtain ⟨fa, rfl, rfl, rfl, rfl, rfl, a1, a2, a3, a4⟩ := open_fr g0
  obtain ⟨fb, rfl, rfl, rfl, rfl, rfl, b1, b2, b3, b4⟩ := open_fr g1
  obtain ⟨p, rfl, w0⟩ := one_int g2
  obtain ⟨o, rfl, w1⟩ := one_int g3
  have hd : d = .agg [y0.1, y1.1, y2.1, y3.1] := congrArg Prod.fst hx
  have hle : Rows.uptoBulk y0.1 ≤ 1048576 ∧ Rows.uptoBulk y1.1 ≤ 1048576 := by
    rw [hd] at hB
    simp only [Rows.uptoBulk, Rows.uptoBulkAll] at hB
    omega
  have e := fun j hj => hcell j hj
  have e0 := hcell 0 (by omega)
  have e1 := hcell 1 (by omega)
  have e2 := hcell 2 (by omega)
  have e3 := hcell 3 (by omega)
  have e4 := hcell 4 (by omega)
  have e5 := hcell 5 (by omega)
  have e6 := hcell 6 (by omega)
  have e7 := hcell 7 (by omega)
  have e8 := hcell 8 (by omega)
  have e9 := hcell 9 (by omega)
  have e10 := hcell 10 (by omega)
  have e11 := hcell 11 (by omega)
  clear e
  rw [add_add] at e0 e1 e2 e3 e4 e5 e6 e7 e8 e9 e10 e11
  simp at e0 e1 e2 e3 e4 e5 e6 e7 e8 e9 e10 e11
  exact ⟨⟨fa, fb, p, o⟩, ⟨⟨e0, e1, e2, e3, e4⟩, ⟨e5, e6, e7, e8, e9⟩, e10, e11⟩, ⟨a1, Nat.le_trans a3 hle.1, fun i hi => Nat.le_trans (a4 i hi) hle.1, a2⟩, ⟨b1, Nat.le_trans b3 hle.2, fun i hi => Nat.le_trans (b4 i hi) hle.2, b2⟩, bounds_of w0, bounds_of w1⟩
end Go.Proofs.YtgjjnkhkjnkahaaDoor
