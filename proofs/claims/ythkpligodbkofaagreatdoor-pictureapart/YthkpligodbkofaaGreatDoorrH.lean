import Derived.Test.YthkpligodbkofaaGreatDoorrDZ
import Derived.Test.YthkpligodbkofaaGreatDoorqHZ
namespace Go.Proofs.YthkpligodbkofaaGreatDoor.Pc
open Go.ChangeShapes Go.WideShapes Go.ChangeAt Go.RowKit Go.Deep

theorem cellsEdit : Tryz.prog.cellsOf 55 = 3 := by kernel_rfl
theorem bytesEdit : Tryz.prog.bytesOf 55 = 24 := by kernel_rfl
theorem t_struct3 {H : Type} {enc : TypeId × Value → H} {P : Program} {w : World} {base : Nat} {spare : Nat → Bool} {held : Bool} {t : TypeId} {f0 f1 f2 : Field} {fuel : Nat} {cs : List Value} {x : DataW H × List MemPlace} (ht : P.underlying t = some (.struct #[f0, f1, f2])) (h : DataW.trod enc P w base spare held fuel t cs = some x) :
    ∃ y0 y1 y2 n, DataW.trod enc P w base spare held n f0.type ((cs.drop f0.offset).take (P.cellsOf f0.type)) = some y0 ∧
      DataW.trod enc P w base spare held n f1.type ((cs.drop f1.offset).take (P.cellsOf f1.type)) = some y1 ∧ DataW.trod enc P w base spare held n f2.type ((cs.drop f2.offset).take (P.cellsOf f2.type)) = some y2 := by
  obtain ⟨xs, n, _, rfl, hl, hlen, hf⟩ := DataW.trod_struct ht h
  match xs, hlen with
  | [y0, y1, y2], _ => exact ⟨y0, y1, y2, n, by simpa using hf 0 f0 rfl, by simpa using hf 1 f1 rfl, by simpa using hf 2 f2 rfl⟩

set_option maxRecDepth 100000 in
/-- Edits that came in. -/
theorem o_edits {H : Type} {enc : TypeId × Value → H} {W : World} {r : Reach} {b0 : Nat} {v : Value} {d : DataW H} {p : List MemPlace} (hv : Value.okWide Tryz.prog W r b0 52 v) (h0 : DataW.Trod enc Tryz.prog W 0 (fun _ => true) true 52 v d p) (hs : ∀ n ∈ d.weights Tryz.prog 52, n ≤ reachBytes) :
    ∃ eo n c E, v = .slice eo n c ∧ Ed W eo n E ∧ n ≤ 9000000000000000000 ∧ ∀ i, i < n → ∀ j, j < 3 → -9223372036854775808 ≤ E i j ∧ E i j ≤ 9223372036854775807 := by
  obtain ⟨v0, vn, vc, rfl⟩ := okWide_slice Tryz.underlying52 hv
  obtain ⟨fuel, h⟩ := h0
  simp only [Value.cells] at h
  rcases DataW.trod_slice Tryz.underlying52 h with ⟨hcs, _⟩ | ⟨a, len, cap, elems, rest, k, _, hcs, hx, _, hl, hm, hlen, hel, _, _⟩
  · simp at hcs
    obtain ⟨rfl, rfl, rfl⟩ := hcs
    exact ⟨none, 0, 0, fun _ _ => 0, rfl, .inl rfl, by decide, fun i hi => by omega⟩
  · simp at hcs
    obtain ⟨rfl, rfl, rfl⟩ := hcs
    have hy : d = .slice (elems.map (·.1)) (rest.map (·.1)) := congrArg Prod.fst hx
    rw [hy] at hs
    have hsz := hs (((elems.map (·.1)).length + (rest.map (·.1)).length) * Tryz.prog.bytesOf 55) (by simp [DataW.weights, Tryz.underlying52])
    rw [bytesEdit, List.length_map, List.length_map] at hsz
    unfold reachBytes at hsz
    rw [cellsEdit] at hel
    have each : ∀ i, i < vn → ∃ r : Nat → Int, ∀ j, j < 3 → W.cell? ((a.add (i * 3)).add j) = some (.int .i64 (r j)) ∧ -9223372036854775808 ≤ r j ∧ r j ≤ 9223372036854775807 := fun i hi => by
      have h1 := hel i hi
      rw [List.getElem?_eq_getElem (by omega), Option.bind_eq_some_iff] at h1
      obtain ⟨cs, hc, ht⟩ := h1
      obtain ⟨y0, y1, y2, m, g0, g1, g2⟩ := t_struct3 Tryz.underlying55 ht
      obtain ⟨_, hlen3, hat⟩ := World.cells?_some hc
      simp only [cellsInt] at g0 g1 g2
      obtain ⟨z0, hz0, _, wz0⟩ := DataW.trod_int Tryz.underlying3 g0
      obtain ⟨z1, hz1, _, wz1⟩ := DataW.trod_int Tryz.underlying3 g1
      obtain ⟨z2, hz2, _, wz2⟩ := DataW.trod_int Tryz.underlying3 g2
      have one : ∀ j z, ((cs.drop j).take 1) = [.int .i64 z] → j < 3 → W.cell? ((a.add (i * 3)).add j) = some (.int .i64 z) := fun j z hz hj => by
        rw [hat j hj]
        have h3 : ((cs.drop j).take 1)[0]? = some (.int .i64 z) := by rw [hz]; rfl
        rw [List.getElem?_take_of_lt (by omega), List.getElem?_drop] at h3
        simpa using h3
      refine ⟨fun j => if j = 0 then z0 else if j = 1 then z1 else z2, fun j hj => ?_⟩
      match j, hj with
      | 0, _ => exact ⟨one 0 z0 hz0 (by decide), wf_in wz0⟩
      | 1, _ => exact ⟨one 1 z1 hz1 (by decide), wf_in wz1⟩
      | 2, _ => exact ⟨one 2 z2 hz2 (by decide), wf_in wz2⟩
    refine ⟨some a, vn, vc, fun i => if h : i < vn then (each i h).choose else fun _ => 0, rfl, ?_, by omega, fun i hi j hj => ?_⟩
    · by_cases h0 : vn = 0
      · exact .inl h0
      · obtain ⟨b, off, spot⟩ := a
        have hspot : spot = none := by
          obtain ⟨r, hr⟩ := each 0 (by omega)
          simpa [Addr.add] using World.cell?_spot (hr 0 (by omega)).1
        subst hspot
        refine .inr ⟨b, off, rfl, fun i hi j hj => ?_⟩
        have h4 := ((each i hi).choose_spec j hj).1
        have hadd : ((⟨b, off, none⟩ : Addr).add (i * 3)).add j = ⟨b, off + i * 3 + j, none⟩ := by
          have e1 : ∀ (o k : Nat), (⟨b, o, none⟩ : Addr).add k = ⟨b, o + k, none⟩ := fun o k => by unfold Addr.add; split <;> simp_all
          rw [e1, e1]
        rw [hadd] at h4
        rw [h4]
        show _ = some (Value.int .i64 ((if h : i < vn then (each i h).choose else fun _ => 0) j))
        rw [dif_pos hi]
    · show -9223372036854775808 ≤ (if h : i < vn then (each i h).choose else fun _ => 0) j ∧ (if h : i < vn then (each i h).choose else fun _ => 0) j ≤ 9223372036854775807
      rw [dif_pos hi]
      exact ((each i hi).choose_spec j hj).2

set_option maxHeartbeats 8000000 in
set_option maxRecDepth 1000000 in
theorem apart_no (W H D : Int) (A : Bool) (po : Option Addr) (m d : Nat) (ln : Nat → Nat) (F : Nat → Nat → Nat) (sw sh : Int) (lo : Option Addr) (n c : Nat) (L : Nat → Nat → Int) (cap p : Int) (eo : Option Addr) (en ec : Nat) (w : World) (hT : Tab w)
    (hP : Tl.Pl w po m ln F) (hm : m ≤ 9223372036854775807) (hln : ∀ i, i < m → ln i ≤ 9223372036854775807) (hF : ∀ i, i < m → ∀ j, j < ln i → F i j < 65536) (hL : Ldr w lo n L) (hn9 : n ≤ 9223372036854775807)
    (hE : ¬ (cfE W H D A sw sh n L cap p = 0 ∧ Tl.vE W H D A m ln F = 0 ∧ 1 ≤ en)) :
    Calls Tryz.prog 5 #[Tl.frv W H D A po m d, cfv sw sh lo n c cap p, .slice eo en ec] w fun e w' => e = .returned (.bool true) ∧ Kept [] w w' := by
  obtain ⟨w1, e1⟩ : ∃ w1, w.alloc (.cells #[.int .i64 W, .int .i64 H, .int .i64 D, .bool A, .slice po m d] 38 (0, 0)) = w1 := ⟨_, rfl⟩
  obtain ⟨w2, e2⟩ : ∃ w2, w1.alloc (.cells #[.int .i64 sw, .int .i64 sh, .slice lo n c, .int .i64 cap, .int .i64 p] 24 (0, 0)) = w2 := ⟨_, rfl⟩
  obtain ⟨B, eB⟩ : ∃ B, w.heap.size = B := ⟨_, rfl⟩
  have z1 : w1.heap.size = B + 1 := by rw [← e1, ← eB]; exact Array.size_push _
  have k1 : Kept [] w w1 := by rw [← e1]; exact (Kept.refl [] w).alloc _
  have k2 : Kept [] w1 w2 := by rw [← e2]; exact (Kept.refl [] w1).alloc _
  have HS := Hid.mk (k2.heap (show w1.heap[B]? = some (.cells #[.int .i64 W, .int .i64 H, .int .i64 D, .bool A, .slice po m d] 38 (0, 0)) by rw [← e1, ← eB]; exact heap_alloc_new _ _) (by simp))
  have HC := Hid.mk (show w2.heap[B + 1]? = some (.cells #[.int .i64 sw, .int .i64 sh, .slice lo n c, .int .i64 cap, .int .i64 p] 24 (0, 0)) by rw [← e2, ← z1]; exact heap_alloc_new _ _)
  have K2 := Hid.mk (k1.trans k2)
  have C0 := Hid.mk (pshown_any w2 (hT.kept K2.out (by simp)))
  have C1 := Hid.mk (fun u (ku : Kept [] w u) => rValid_any W H D A sw sh lo n c L cap p u (hL.keep ku) hn9)
  have C2 := Hid.mk (fun u (ku : Kept [] w u) => Tl.rvalid_any W H D A po m d ln F u (hP.keep ku) hm hln hF)
  obtain ⟨E1, eE1⟩ : ∃ E, Tl.vE W H D A m ln F = E := ⟨_, rfl⟩
  obtain ⟨E2, eE2⟩ : ∃ E, cfE W H D A sw sh n L cap p = E := ⟨_, rfl⟩
  rw [eE1] at C2 hE
  rw [eE2] at C1 hE
  obtain ⟨q0, q1, q2, q3, q4⟩ := cel5 HC.out
  obtain ⟨t0, t1, t2, t3, t4⟩ := cel5 HS.out
  clear hT hP hm hln hF hL hn9 k1 k2 eE1 eE2
  go_enter Tryz.func5, Tryz.ntmps5
  go_wp2_with (fail)
  clear e1 e2 z1 eB q0 q1 q2 q3 q4 t0 t1 t2 t3 t4
  refine C0.out.mono ?_
  rintro e w3 ⟨rfl, k3⟩
  have K3 := Hid.mk k3
  clear k3 C0
  obtain ⟨q0, q1, q2, q3, q4⟩ := cel5 (K3.out.heap HC.out (by simp))
  obtain ⟨t0, t1, t2, t3, t4⟩ := cel5 (K3.out.heap HS.out (by simp))
  go_wp2_with (fail)
  refine (C1.out _ (K2.out.trans K3.out)).mono ?_
  rintro e w4 ⟨rfl, k4⟩
  have K4 := Hid.mk (K3.out.trans k4)
  clear k4 q0 q1 q2 q3 q4 t0 t1 t2 t3 t4
  by_cases h2 : E2 = 0
  · subst h2
    obtain ⟨t0, t1, t2, t3, t4⟩ := cel5 (K4.out.heap HS.out (by simp))
    by_cases h3 : E1 = 0
    · subst h3
      obtain rfl : en = 0 := by
        by_cases h9 : en = 0
        · exact h9
        · exact absurd ⟨rfl, rfl, by omega⟩ hE
      clear hE
      go_wp2_with (fail)
      refine (C2.out _ (K2.out.trans K4.out)).mono ?_
      rintro e w5 ⟨rfl, k5⟩
      have K5 := Hid.mk (K4.out.trans k5)
      clear k5 t0 t1 t2 t3 t4
      go_wp2
      go_ret
      exact ⟨rfl, K2.out.trans K5.out⟩
    · have h1 : (E1 != 0) = true := by simpa using h3
      clear hE h3
      go_wp2_with (fail)
      refine (C2.out _ (K2.out.trans K4.out)).mono ?_
      rintro e w5 ⟨rfl, k5⟩
      have K5 := Hid.mk (K4.out.trans k5)
      clear k5 t0 t1 t2 t3 t4
      go_wp2
      go_ret
      exact ⟨rfl, K2.out.trans K5.out⟩
  · have h1 : (E2 != 0) = true := by simpa using h2
    clear hE h2
    go_wp2
    go_ret
    exact ⟨rfl, K2.out.trans K4.out⟩

/-- PictureApart holds of every frame, configuration and edits. -/
theorem apart_row (W H D : Int) (A : Bool) (po : Option Addr) (m d : Nat) (ln : Nat → Nat) (F : Nat → Nat → Nat) (sw sh : Int) (lo : Option Addr) (n c : Nat) (L : Nat → Nat → Int) (cap p : Int) (eo : Option Addr) (en ec : Nat) (E : Nat → Nat → Int) (w : World) (hT : Tab w)
    (hP : Plc w po m ln F) (hm : m ≤ 9223372036854775807) (hln : ∀ i, i < m → ln i ≤ 9223372036854775807) (hF : ∀ i, i < m → ∀ j, j < ln i → F i j < 65536) (hL : Ldr w lo n L) (hn : n ≤ 9223372036854775807) (_ : -9223372036854775808 ≤ sw ∧ sw ≤ 9223372036854775807)
    (_ : -9223372036854775808 ≤ sh ∧ sh ≤ 9223372036854775807) (_ : -9223372036854775808 ≤ cap ∧ cap ≤ 9223372036854775807) (_ : -9223372036854775808 ≤ p ∧ p ≤ 9223372036854775807) (hEd : Ed w eo en E) (hen : en ≤ 9000000000000000000) (hEb : ∀ i, i < en → ∀ j, j < 3 → -9223372036854775808 ≤ E i j ∧ E i j ≤ 9223372036854775807) :
    Calls Tryz.prog 5 #[Tl.frv W H D A po m d, cfv sw sh lo n c cap p, .slice eo en ec] w fun e w' => e = .returned (.bool true) ∧ Kept [] w w' := by
  by_cases hE : cfE W H D A sw sh n L cap p = 0 ∧ Tl.vE W H D A m ln F = 0 ∧ 1 ≤ en
  · exact apart_yes W H D A po m d ln F sw sh lo n c L cap p eo en ec E w hT (Tl.vE_zero.1 hE.2.1) (cfE_zero.1 hE.1) hP hF hL hEd hE.2.2 hen hEb
  · exact apart_no W H D A po m d ln F sw sh lo n c L cap p eo en ec w hT hP.pl hm hln hF hL hn hE
end Go.Proofs.YthkpligodbkofaaGreatDoor.Pc
