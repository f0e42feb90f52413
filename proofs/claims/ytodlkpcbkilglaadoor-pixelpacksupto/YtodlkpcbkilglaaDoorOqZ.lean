import Derived.Test.YtodlkpcbkilglaaDoorOp
import Derived.Test.YtodlkpcbkilglaaDoorUp
import Derived.Deep.Matrix
import Derived.Test.YtodlkpcbkilglaaDoorRows
namespace Go.Proofs.YtodlkpcbkilglaaDoor
open Go.ChangeShapes Go.WideShapes Go.ChangeAt Go.RowKit Go.Deep

/-- Planes that are read, with their room. -/
def Pc (w : World) (po : Option Addr) (n : Nat) (ln : Nat → Nat) (F : Nat → Nat → Nat) : Prop := n = 0 ∨ ∃ g off, po = some ⟨g, off, none⟩ ∧ ∀ i, i < n → ∃ bo c, w.cell? ⟨g, off + i, none⟩ = some (.slice bo (ln i) c) ∧ ln i ≤ c ∧ Rd w bo (ln i) (F i)
theorem Pc.pl {w : World} {po : Option Addr} {n : Nat} {ln : Nat → Nat} {F : Nat → Nat → Nat} (h : Pc w po n ln F) : Pl w po n ln F := by
  rcases h with h | ⟨g, off, e, hc⟩
  · exact .inl h
  · exact .inr ⟨g, off, e, fun i hi => by obtain ⟨bo, c, h1, _, h2⟩ := hc i hi; exact ⟨bo, c, h1, h2⟩⟩
theorem Pc.keep {w w' : World} {po : Option Addr} {n : Nat} {ln : Nat → Nat} {F : Nat → Nat → Nat} (h : Pc w po n ln F) (hk : Kept [] w w') : Pc w' po n ln F := by
  rcases h with h | ⟨g, off, e, hc⟩
  · exact .inl h
  · refine .inr ⟨g, off, e, fun i hi => ?_⟩
    obtain ⟨bo, c, h1, h3, h2⟩ := hc i hi
    exact ⟨bo, c, cell_keep hk h1 (by simp), h3, h2.keep hk⟩
theorem Pc.at {w : World} {po : Option Addr} {n : Nat} {ln : Nat → Nat} {F : Nat → Nat → Nat} (h : Pc w po n ln F) {i : Nat} (hi : i < n) : ∃ g off bo c, po = some ⟨g, off, none⟩ ∧ w.cell? ⟨g, off + i, none⟩ = some (.slice bo (ln i) c) ∧ ln i ≤ c ∧ Rd w bo (ln i) (F i) := by
  rcases h with h | ⟨g, off, e, hc⟩
  · omega
  · obtain ⟨bo, c, h1, h3, h2⟩ := hc i hi
    exact ⟨g, off, bo, c, e, h1, h3, h2⟩
theorem Mk.pc {w0 w : World} {G n : Nat} {bs ln : Nat → Nat} {F : Nat → Nat → Nat} (h : Mk w0 w G n n bs ln F) : Pc w (some ⟨G, 0, none⟩) n ln F :=
  .inr ⟨G, 0, rfl, fun i hi => ⟨_, _, by rw [Nat.zero_add]; exact h.cell hi (Nat.le_refl _), Nat.le_refl _, (h.row i hi).rd⟩⟩
theorem Tryd.cells64 : Tryd.prog.cellsOf 31 = 5 := by kernel_rfl
theorem Tryd.cells26 : Tryd.prog.cellsOf 24 = 4 := by kernel_rfl
theorem Tryd.cells23 : Tryd.prog.cellsOf 29 = 1 := by kernel_rfl
theorem Tryd.cells28 : Tryd.prog.cellsOf 68 = 1 := by kernel_rfl
theorem Tryd.cells38 : Tryd.prog.cellsOf 70 = 1 := by kernel_rfl
theorem Tryd.cells3 : Tryd.prog.cellsOf 3 = 1 := by kernel_rfl
theorem Tryd.cells4 : Tryd.prog.cellsOf 4 = 1 := by kernel_rfl
theorem array5 {α : Type} {a : Array α} (h : a.size = 5) : ∃ x0 x1 x2 x3 x4, a = #[x0, x1, x2, x3, x4] := by
  obtain ⟨l⟩ := a
  match l, h with
  | [x0, x1, x2, x3, x4], _ => exact ⟨x0, x1, x2, x3, x4, rfl⟩

set_option maxRecDepth 100000 in
/-- Planes that came in. -/
theorem open_planes {H : Type} {enc : TypeId × Value → H} {W : World} {fuel : Nat} {v : Value} {y : DataW H × List MemPlace} (h : DataW.trod enc Tryd.prog W 0 (fun _ => true) true fuel 29 [v] = some y) :
    ∃ po n c ln F, v = .slice po n c ∧ Pc W po n ln F ∧ (∀ i, i < n → ∀ j, j < ln i → F i j < 65536) ∧ n ≤ 9223372036854775807 ∧ ∀ i, i < n → ln i ≤ 9223372036854775807 := by
  rcases open_int_rows Tryd.underlying29 Tryd.underlying68 Tryd.underlying70 Tryd.cells28 Tryd.cells38 h with ⟨hcs, _⟩ | ⟨a, len, cap, A, Ln, C, Z, hcs, _, hl, hm, _, hr⟩
  · simp at hcs
    subst hcs
    exact ⟨none, 0, 0, fun _ => 0, fun _ _ => 0, rfl, .inl rfl, fun i hi => by omega, by decide, fun i hi => by omega⟩
  · simp at hcs
    subst hcs
    have hml : maxLen ≤ 9223372036854775807 := by unfold maxLen; decide
    have hz : ∀ r, r < cap → ∀ z ∈ Z r, 0 ≤ z ∧ z < 65536 := fun r hr0 z hz => by
      have := (hr r hr0).2.2.2.2.1 z hz
      simp [Lit.wf] at this
      have h1 : IntKind.u16.min = 0 := by decide
      have h2 : IntKind.u16.max = 65535 := by decide
      omega
    refine ⟨some a, len, cap, Ln, fun r j => ((Z r).getD j 0).toNat, rfl, ?_, fun i hi j hj => ?_, by omega, fun i hi => by have := (hr i (by omega)).2.1; have := (hr i (by omega)).2.2.1; omega⟩
    · by_cases h0 : len = 0
      · exact .inl h0
      · obtain ⟨b, off, spot⟩ := a
        have hspot : spot = none := by simpa [Addr.add] using World.cell?_spot (hr 0 (by omega)).1
        subst hspot
        refine .inr ⟨b, off, rfl, fun i hi => ?_⟩
        obtain ⟨e1, r1, r2, r3, r4, r5, r6⟩ := hr i (by omega)
        have hadd : (⟨b, off, none⟩ : Addr).add i = ⟨b, off + i, none⟩ := by unfold Addr.add; split <;> simp_all
        rw [hadd] at e1
        refine ⟨A i, C i, e1, r1, ?_⟩
        by_cases h1 : Ln i = 0
        · exact .inl h1
        · rcases e : A i with _ | x
          · have := r5 e; omega
          · obtain ⟨_, hc⟩ := r6 x e
            obtain ⟨b2, off2, spot2⟩ := x
            have hs2 : spot2 = none := by simpa [Addr.add] using World.cell?_spot (hc 0 (by omega))
            subst hs2
            refine .inr ⟨b2, off2, rfl, fun j hj => ?_⟩
            have hadd2 : (⟨b2, off2, none⟩ : Addr).add j = ⟨b2, off2 + j, none⟩ := by unfold Addr.add; split <;> simp_all
            have h3 := hc j (by omega)
            rw [hadd2] at h3
            rw [h3]
            have hzj : 0 ≤ (Z i).getD j 0 := by
              have hjl : j < (Z i).length := by omega
              rw [List.getD_eq_getElem?_getD, List.getElem?_eq_getElem hjl]
              exact (hz i (by omega) _ (List.getElem_mem hjl)).1
            congr 2
            show (Z i).getD j 0 = (((Z i).getD j 0).toNat : Int)
            omega
    · have hjl : j < (Z i).length := by have := (hr i (by omega)).2.1; have := (hr i (by omega)).2.2.2.1; omega
      show ((Z i).getD j 0).toNat < 65536
      rw [List.getD_eq_getElem?_getD, List.getElem?_eq_getElem hjl]
      have := hz i (by omega) _ (List.getElem_mem hjl)
      simp only [Option.getD_some]
      omega

set_option maxRecDepth 100000 in
/-- A frame that came in. -/
theorem open_frame {H : Type} {enc : TypeId × Value → H} {W : World} {r : Reach} {b0 : Nat} {v : Value} {d : DataW H} {p : List MemPlace} (hv : Value.okWide Tryd.prog W r b0 31 v) (h : DataW.Trod enc Tryd.prog W 0 (fun _ => true) true 31 v d p) :
    ∃ a b c x po n k ln F, v = frv a b c x po n k ∧ Pc W po n ln F ∧ (∀ i, i < n → ∀ j, j < ln i → F i j < 65536) ∧ n ≤ 9223372036854775807 ∧ (∀ i, i < n → ln i ≤ 9223372036854775807) := by
  obtain ⟨cs, rfl, hsz⟩ := okWide_struct Tryd.underlying31 hv
  obtain ⟨x0, x1, x2, x3, x4, rfl⟩ := array5 (hsz.trans Tryd.cells64)
  obtain ⟨fuel, hf⟩ := h
  obtain ⟨y0, y1, m, _, _, h0, h1⟩ := trod_struct2 Tryd.underlying31 hf
  simp only [Value.cells, Tryd.cells26, Tryd.cells23] at h0 h1
  obtain ⟨z0, z1, z2, z3, m2, _, _, t0, t1, t2, t3⟩ := Joins.trod_struct4 Tryd.underlying24 h0
  simp only [Tryd.cells3, Tryd.cells4] at t0 t1 t2 t3
  obtain ⟨a, rfl, _⟩ := one_int t0
  obtain ⟨b, rfl, _⟩ := one_int t1
  obtain ⟨c, rfl, _⟩ := one_int t2
  obtain ⟨x, rfl⟩ := one_bool t3
  obtain ⟨po, n, k, ln, F, rfl, g1, g2, g3, g4⟩ := open_planes h1
  exact ⟨a, b, c, x, po, n, k, ln, F, rfl, g1, g2, g3, g4⟩
end Go.Proofs.YtodlkpcbkilglaaDoor

namespace Go.Proofs.YtodlkpcbkilglaaDoor
open Go.ChangeShapes Go.WideShapes Go.ChangeAt Go.RowKit Go.Deep

theorem bulk_one {H : Type} (d : DataW H) : 1 ≤ Rows.uptoBulk d := by
  rcases d with l | _ | _ | _ | _ | _ | _ | _
  · unfold Rows.uptoBulk; split <;> omega
  all_goals simp [Rows.uptoBulk]
theorem bulk_sum {H : Type} (l : List (DataW H)) : Rows.uptoBulkAll l = (l.map Rows.uptoBulk).sum := by
  induction l with
  | nil => simp [Rows.uptoBulkAll]
  | cons x r ih => rw [Rows.uptoBulkAll, ih]; simp
theorem bulk_part {H : Type} {d : DataW H} {l : List (DataW H)} (h : d ∈ l) : Rows.uptoBulk d ≤ Rows.uptoBulkAll l := by
  obtain ⟨l1, l2, rfl⟩ := List.append_of_mem h
  rw [bulk_sum]
  simp
  omega
theorem bulk_len {H : Type} (l : List (DataW H)) : l.length ≤ Rows.uptoBulkAll l := by
  induction l with
  | nil => simp [Rows.uptoBulkAll]
  | cons x r ih =>
    have h1 := bulk_one x
    simp only [Rows.uptoBulkAll, List.length_cons]
    omega
set_option maxRecDepth 100000 in
/-- Planes that came in. -/
theorem open_planesU {H : Type} {enc : TypeId × Value → H} {W : World} {fuel : Nat} {v : Value} {y : DataW H × List MemPlace} (h : DataW.trod enc Tryd.prog W 0 (fun _ => true) true fuel 29 [v] = some y) :
    ∃ po n c ln F, v = .slice po n c ∧ Pc W po n ln F ∧ (∀ i, i < n → ∀ j, j < ln i → F i j < 65536) ∧ n ≤ Rows.uptoBulk y.1 ∧ ∀ i, i < n → ln i ≤ Rows.uptoBulk y.1 := by
  rcases open_int_rows Tryd.underlying29 Tryd.underlying68 Tryd.underlying70 Tryd.cells28 Tryd.cells38 h with ⟨hcs, _⟩ | ⟨a, len, cap, A, Ln, C, Z, hcs, _, hl, hm, hx, hr⟩
  · simp at hcs
    subst hcs
    exact ⟨none, 0, 0, fun _ => 0, fun _ _ => 0, rfl, .inl rfl, fun i hi => by omega, by omega, fun i hi => by omega⟩
  · simp at hcs
    subst hcs
    have hd : y.1 = .slice ((List.range len).map fun r => intRow .u16 (A r) (Ln r) (Z r)) ((List.range (cap - len)).map fun j => intRow .u16 (A (len + j)) (Ln (len + j)) (Z (len + j))) := congrArg Prod.fst hx
    have hB : Rows.uptoBulk y.1 = Rows.uptoBulkAll ((List.range len).map fun r => intRow (H := H) .u16 (A r) (Ln r) (Z r)) + Rows.uptoBulkAll ((List.range (cap - len)).map fun j => intRow (H := H) .u16 (A (len + j)) (Ln (len + j)) (Z (len + j))) + 1 := by rw [hd]; simp only [Rows.uptoBulk]
    have hlen : len ≤ Rows.uptoBulk y.1 := by
      have := bulk_len ((List.range len).map fun r => intRow (H := H) .u16 (A r) (Ln r) (Z r))
      simp only [List.length_map, List.length_range] at this
      omega
    have hw : ∀ r, r < len → Ln r ≤ Rows.uptoBulk y.1 := fun r hr0 => by
      have h0 : Ln r ≤ Rows.uptoBulk (intRow (H := H) .u16 (A r) (Ln r) (Z r)) := by
        rcases e : A r with _ | x
        · have h1 := (hr r (by omega)).2.2.2.2.2.1 e
          have h3 := (hr r (by omega)).2.1
          omega
        · simp only [intRow, Rows.uptoBulk]
          have h3 := bulk_len (lits (H := H) .u16 ((Z r).take (Ln r)))
          have h6 : (lits (H := H) .u16 ((Z r).take (Ln r))).length = min (Ln r) (Z r).length := by simp [lits]
          have h4 := (hr r (by omega)).2.1
          have h5 := (hr r (by omega)).2.2.2.1
          omega
      have h2 := bulk_part (H := H) (List.mem_map.2 ⟨r, List.mem_range.2 hr0, rfl⟩ : intRow (H := H) .u16 (A r) (Ln r) (Z r) ∈ (List.range len).map fun r => intRow (H := H) .u16 (A r) (Ln r) (Z r))
      omega
    have hz : ∀ r, r < cap → ∀ z ∈ Z r, 0 ≤ z ∧ z < 65536 := fun r hr0 z hz => by
      have := (hr r hr0).2.2.2.2.1 z hz
      simp [Lit.wf] at this
      have h1 : IntKind.u16.min = 0 := by decide
      have h2 : IntKind.u16.max = 65535 := by decide
      omega
    refine ⟨some a, len, cap, Ln, fun r j => ((Z r).getD j 0).toNat, rfl, ?_, fun i hi j hj => ?_, hlen, hw⟩
    · by_cases h0 : len = 0
      · exact .inl h0
      · obtain ⟨b, off, spot⟩ := a
        have hspot : spot = none := by simpa [Addr.add] using World.cell?_spot (hr 0 (by omega)).1
        subst hspot
        refine .inr ⟨b, off, rfl, fun i hi => ?_⟩
        obtain ⟨e1, r1, r2, r3, r4, r5, r6⟩ := hr i (by omega)
        have hadd : (⟨b, off, none⟩ : Addr).add i = ⟨b, off + i, none⟩ := by unfold Addr.add; split <;> simp_all
        rw [hadd] at e1
        refine ⟨A i, C i, e1, r1, ?_⟩
        by_cases h1 : Ln i = 0
        · exact .inl h1
        · rcases e : A i with _ | x
          · have := r5 e; omega
          · obtain ⟨_, hc⟩ := r6 x e
            obtain ⟨b2, off2, spot2⟩ := x
            have hs2 : spot2 = none := by simpa [Addr.add] using World.cell?_spot (hc 0 (by omega))
            subst hs2
            refine .inr ⟨b2, off2, rfl, fun j hj => ?_⟩
            have hadd2 : (⟨b2, off2, none⟩ : Addr).add j = ⟨b2, off2 + j, none⟩ := by unfold Addr.add; split <;> simp_all
            have h3 := hc j (by omega)
            rw [hadd2] at h3
            rw [h3]
            have hzj : 0 ≤ (Z i).getD j 0 := by
              have hjl : j < (Z i).length := by omega
              rw [List.getD_eq_getElem?_getD, List.getElem?_eq_getElem hjl]
              exact (hz i (by omega) _ (List.getElem_mem hjl)).1
            congr 2
            show (Z i).getD j 0 = (((Z i).getD j 0).toNat : Int)
            omega
    · have hjl : j < (Z i).length := by have := (hr i (by omega)).2.1; have := (hr i (by omega)).2.2.2.1; omega
      show ((Z i).getD j 0).toNat < 65536
      rw [List.getD_eq_getElem?_getD, List.getElem?_eq_getElem hjl]
      have := hz i (by omega) _ (List.getElem_mem hjl)
      simp only [Option.getD_some]
      omega

set_option maxRecDepth 100000 in
/-- A frame that came in. -/
theorem open_frameU {H : Type} {enc : TypeId × Value → H} {W : World} {r : Reach} {b0 : Nat} {v : Value} {d : DataW H} {p : List MemPlace} (hv : Value.okWide Tryd.prog W r b0 31 v) (h : DataW.Trod enc Tryd.prog W 0 (fun _ => true) true 31 v d p) :
    ∃ a b c x po n k ln F, v = frv a b c x po n k ∧ Pc W po n ln F ∧ (∀ i, i < n → ∀ j, j < ln i → F i j < 65536) ∧ n ≤ Rows.uptoBulk d ∧ (∀ i, i < n → ln i ≤ Rows.uptoBulk d) := by
  obtain ⟨cs, rfl, hsz⟩ := okWide_struct Tryd.underlying31 hv
  obtain ⟨x0, x1, x2, x3, x4, rfl⟩ := array5 (hsz.trans Tryd.cells64)
  obtain ⟨fuel, hf⟩ := h
  obtain ⟨y0, y1, m, hd0, _, h0, h1⟩ := trod_struct2 Tryd.underlying31 hf
  simp only [Value.cells, Tryd.cells26, Tryd.cells23] at h0 h1
  obtain ⟨z0, z1, z2, z3, m2, _, _, t0, t1, t2, t3⟩ := Joins.trod_struct4 Tryd.underlying24 h0
  simp only [Tryd.cells3, Tryd.cells4] at t0 t1 t2 t3
  obtain ⟨a, rfl, _⟩ := one_int t0
  obtain ⟨b, rfl, _⟩ := one_int t1
  obtain ⟨c, rfl, _⟩ := one_int t2
  obtain ⟨x, rfl⟩ := one_bool t3
  obtain ⟨po, n, k, ln, F, rfl, g1, g2, g3, g4⟩ := open_planesU h1
  have hd1 : d = .agg [y0.1, y1.1] := congrArg Prod.fst hd0
  have hle : Rows.uptoBulk y1.1 ≤ Rows.uptoBulk d := by rw [hd1]; simp only [Rows.uptoBulk, Rows.uptoBulkAll]; omega
  exact ⟨a, b, c, x, po, n, k, ln, F, rfl, g1, g2, Nat.le_trans g3 hle, fun i hi => Nat.le_trans (g4 i hi) hle⟩

/-- Samples that are read, and no others. -/
def clF (n : Nat) (ln : Nat → Nat) (F : Nat → Nat → Nat) : Nat → Nat → Nat := fun i j => if i < n ∧ j < ln i then F i j else 0
theorem Pl.cl {w : World} {po : Option Addr} {n : Nat} {ln : Nat → Nat} {F : Nat → Nat → Nat} (h : Pl w po n ln F) : Pl w po n ln (clF n ln F) := by
  rcases h with h | ⟨g, off, e, hc⟩
  · exact .inl h
  · refine .inr ⟨g, off, e, fun i hi => ?_⟩
    obtain ⟨bo, c, h1, h2⟩ := hc i hi
    exact ⟨bo, c, h1, h2.congr (fun j hj => by unfold clF; rw [if_pos ⟨hi, hj⟩])⟩
theorem clF_lt {n : Nat} {ln : Nat → Nat} {F : Nat → Nat → Nat} (h : ∀ i, i < n → ∀ j, j < ln i → F i j < 65536) (i j : Nat) : clF n ln F i j < 65536 := by
  unfold clF
  split
  · rename_i e; exact h i e.1 j e.2
  · decide
theorem clF_no {n : Nat} {ln : Nat → Nat} {F : Nat → Nat → Nat} (i j : Nat) (h : ¬ (i < n ∧ j < ln i)) : clF n ln F i j = 0 := by unfold clF; rw [if_neg h]
end Go.Proofs.YtodlkpcbkilglaaDoor
