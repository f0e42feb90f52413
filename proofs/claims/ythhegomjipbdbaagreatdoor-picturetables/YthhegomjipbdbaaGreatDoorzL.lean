import Derived.Test.YthhegomjipbdbaaGreatDoorzK
import Derived.Test.YthhegomjipbdbaaGreatDoorqH
namespace Go.Proofs.YthhegomjipbdbaaGreatDoor.Pc
open Go.ChangeShapes Go.WideShapes Go.ChangeAt Go.RowKit Go.Deep Go.Lib

theorem cellsBytes : Tryz.prog.cellsOf 28 = 1 := by kernel_rfl
theorem cellsByte : Tryz.prog.cellsOf 5 = 1 := by kernel_rfl
theorem bytesByte : Tryz.prog.bytesOf 5 = 1 := by kernel_rfl
theorem cellsHead : Tryz.prog.cellsOf 27 = 13 := by kernel_rfl

set_option maxRecDepth 100000 in
/-- Bytes that came in, by size. -/
theorem o_bytes {H : Type} {enc : TypeId × Value → H} {W : World} {r : Reach} {b0 : Nat} {v : Value} {d : DataW H} {p : List MemPlace} (hv : Value.okWide Tryz.prog W r b0 28 v) (h0 : DataW.Trod enc Tryz.prog W 0 (fun _ => true) true 28 v d p) (hs : ∀ n ∈ d.weights Tryz.prog 28, n ≤ reachBytes) :
    ∃ so m k l, v = .slice so m k ∧ Reads W so l ∧ Byts l ∧ l.length = m ∧ m ≤ k ∧ k ≤ 140737488351232 := by
  obtain ⟨sa, la, ca, rfl⟩ := okWide_slice Tryz.underlying28 hv
  obtain ⟨fuel, h⟩ := h0
  rcases open_ints Tryz.underlying28 Tryz.underlying5 cellsByte h with ⟨hcs, _⟩ | ⟨x, len, cap, zs, hcs, _, hl, hm, hz, hy, hc, hw⟩
  · simp [Value.cells] at hcs
    obtain ⟨rfl, rfl, rfl⟩ := hcs
    exact ⟨none, 0, 0, [], rfl, .inl rfl, by simp [Byts], rfl, Nat.le_refl _, by decide⟩
  · simp [Value.cells] at hcs
    obtain ⟨rfl, rfl, rfl⟩ := hcs
    simp only [if_true] at hz
    have hy1 : d = .slice (lits .u8 (zs.take la)) (lits .u8 (zs.drop la)) := congrArg Prod.fst hy
    rw [hy1] at hs
    have h3 := hs (((lits (H := H) .u8 (zs.take la)).length + (lits (H := H) .u8 (zs.drop la)).length) * Tryz.prog.bytesOf 5) (by simp [DataW.weights, Tryz.underlying28])
    rw [bytesByte] at h3
    simp only [lits, List.length_map, List.length_take, List.length_drop, reachBytes] at h3
    have hwf : ∀ n ∈ zs, 0 ≤ n ∧ n < 256 := fun n hn => by
      have := hw n hn
      simp [Lit.wf] at this
      have h1 : IntKind.u8.min = 0 := by decide
      have h2 : IntKind.u8.max = 255 := by decide
      omega
    refine ⟨some x, la, ca, (zs.take la).map Int.toNat, rfl, ?_, ?_, by simp; omega, by omega, by omega⟩
    · by_cases h0 : la = 0
      · subst h0; exact .inl (by simp)
      · right
        obtain ⟨b, off, spot⟩ := x
        have hc0 := hc 0 (by omega)
        have hspot : spot = none := by simpa [Addr.add] using World.cell?_spot hc0
        subst hspot
        refine ⟨b, off, rfl, fun i hi => ?_⟩
        have hil : i < la := by simp at hi; omega
        have h1 := hc i (by omega)
        have hadd : (⟨b, off, none⟩ : Addr).add i = ⟨b, off + i, none⟩ := by unfold Addr.add; split <;> simp_all
        rw [hadd] at h1
        rw [h1]
        have hiz : i < zs.length := by omega
        have := hwf zs[i] (List.getElem_mem hiz)
        simp [byt, hiz, hil]
        omega
    · intro b hb
      simp only [List.mem_map] at hb
      obtain ⟨z, hz1, rfl⟩ := hb
      have := hwf z (List.mem_of_mem_take hz1)
      omega

theorem arr13 {α : Type} {a : Array α} (h : a.size = 13) : ∃ x0 x1 x2 x3 x4 x5 x6 x7 x8 x9 x10 x11 x12, a = #[x0, x1, x2, x3, x4, x5, x6, x7, x8, x9, x10, x11, x12] := by
  obtain ⟨l⟩ := a
  match l, h with
  | [x0, x1, x2, x3, x4, x5, x6, x7, x8, x9, x10, x11, x12], _ => exact ⟨x0, x1, x2, x3, x4, x5, x6, x7, x8, x9, x10, x11, x12, rfl⟩
theorem t_struct7 {H : Type} {enc : TypeId × Value → H} {P : Program} {w : World} {base : Nat} {spare : Nat → Bool} {held : Bool} {t : TypeId} {f0 f1 f2 f3 f4 f5 f6 : Field} {fuel : Nat} {cs : List Value} {x : DataW H × List MemPlace} (ht : P.underlying t = some (.struct #[f0, f1, f2, f3, f4, f5, f6])) (h : DataW.trod enc P w base spare held fuel t cs = some x) :
    ∃ y0 y1 y2 y3 y4 y5 y6 n, DataW.trod enc P w base spare held n f0.type ((cs.drop f0.offset).take (P.cellsOf f0.type)) = some y0 ∧
      DataW.trod enc P w base spare held n f1.type ((cs.drop f1.offset).take (P.cellsOf f1.type)) = some y1 ∧ DataW.trod enc P w base spare held n f2.type ((cs.drop f2.offset).take (P.cellsOf f2.type)) = some y2 ∧
      DataW.trod enc P w base spare held n f3.type ((cs.drop f3.offset).take (P.cellsOf f3.type)) = some y3 ∧ DataW.trod enc P w base spare held n f4.type ((cs.drop f4.offset).take (P.cellsOf f4.type)) = some y4 ∧
      DataW.trod enc P w base spare held n f5.type ((cs.drop f5.offset).take (P.cellsOf f5.type)) = some y5 ∧ DataW.trod enc P w base spare held n f6.type ((cs.drop f6.offset).take (P.cellsOf f6.type)) = some y6 := by
  obtain ⟨xs, n, _, rfl, hl, hlen, hf⟩ := DataW.trod_struct ht h
  match xs, hlen with
  | [y0, y1, y2, y3, y4, y5, y6], _ => exact ⟨y0, y1, y2, y3, y4, y5, y6, n, by simpa using hf 0 f0 rfl, by simpa using hf 1 f1 rfl, by simpa using hf 2 f2 rfl, by simpa using hf 3 f3 rfl, by simpa using hf 4 f4 rfl, by simpa using hf 5 f5 rfl, by simpa using hf 6 f6 rfl⟩

set_option maxRecDepth 100000 in
/-- A head that came in. -/
theorem o_head {H : Type} {enc : TypeId × Value → H} {W : World} {r : Reach} {b0 : Nat} {v : Value} {d : DataW H} {p : List MemPlace} (hv : Value.okWide Tryz.prog W r b0 27 v) (h : DataW.Trod enc Tryz.prog W 0 (fun _ => true) true 27 v d p) :
    ∃ a b c x sw sh q N pa ln, v = hvv a b c x sw sh q N pa ln ∧ (-9223372036854775808 ≤ sw ∧ sw ≤ 9223372036854775807) := by
  obtain ⟨cs, rfl, hsz⟩ := okWide_struct Tryz.underlying27 hv
  obtain ⟨x0, x1, x2, x3, x4, x5, x6, x7, x8, x9, x10, x11, x12, rfl⟩ := arr13 (hsz.trans cellsHead)
  obtain ⟨fuel, hf⟩ := h
  obtain ⟨y0, y1, y2, y3, y4, y5, y6, m, h0, h1, h2, h3, h4, h5, h6⟩ := t_struct7 Tryz.underlying27 hf
  simp only [Value.cells, cellsShape, cellsInt, cellsRung] at h0 h1 h2 h3 h4 h5 h6
  obtain ⟨z0, z1, z2, z3, m2, _, _, t0, t1, t2, t3⟩ := Joins.trod_struct4 Tryz.underlying23 h0
  simp only [cellsInt, cellsBool] at t0 t1 t2 t3
  obtain ⟨a, rfl, _⟩ := o_int t0
  obtain ⟨b, rfl, _⟩ := o_int t1
  obtain ⟨c, rfl, _⟩ := o_int t2
  obtain ⟨x, rfl⟩ := o_bool t3
  obtain ⟨sw, rfl, ws⟩ := o_int h1
  obtain ⟨sh, rfl, _⟩ := o_int h2
  obtain ⟨N, rfl, _⟩ := o_int h4
  obtain ⟨pa, rfl, _⟩ := o_int h5
  obtain ⟨ln, rfl, _⟩ := o_int h6
  obtain ⟨xs, m3, _, _, hl4, hx, hj⟩ := DataW.trod_array Tryz.underlying25 h3
  rw [cellsInt] at hj
  have q0 := hj 0 (by decide)
  have q1 := hj 1 (by decide)
  have q2 := hj 2 (by decide)
  have q3 := hj 3 (by decide)
  rw [List.getElem?_eq_getElem (by omega)] at q0 q1 q2 q3
  simp at q0 q1 q2 q3
  obtain ⟨r0, rfl, _⟩ := o_int q0
  obtain ⟨r1, rfl, _⟩ := o_int q1
  obtain ⟨r2, rfl, _⟩ := o_int q2
  obtain ⟨r3, rfl, _⟩ := o_int q3
  exact ⟨a, b, c, x, sw, sh, fun i => if i = 0 then r0 else if i = 1 then r1 else if i = 2 then r2 else r3, N, pa, ln, rfl, wf_in ws⟩

theorem tables_row (a b c : Int) (x : Bool) (sw sh : Int) (q : Nat → Int) (N pa ln : Int) (so : Option Addr) (m cp : Nat) (l : List Nat) (W : World) (hT : Tab W) (hs : -9223372036854775808 ≤ sw ∧ sw ≤ 9223372036854775807) (hr : Reads W so l) (hb : Byts l) (hl : l.length = m) (hmc : m ≤ cp) (hc : cp ≤ 140737488351232) :
    Calls Tryz.prog 3 #[hvv a b c x sw sh q N pa ln, .slice so m cp] W fun e w' => e = .returned (.bool true) ∧ Kept [] W w' :=
  tables_any so m cp l a b c x sw sh q N pa ln W hT hr hb hl hmc hc hs.1 hs.2
end Go.Proofs.YthhegomjipbdbaaGreatDoor.Pc
