import Derived.Test.YthkpligodbkofaaGreatDoorpGZ
import Derived.Test.YthkpligodbkofaaGreatDoorpJ
import Derived.Laws.CopyRow
import Derived.Laws.IdiomCopy
namespace Go.Proofs.YthkpligodbkofaaGreatDoor.Pc
open Go.RowKit

theorem Tryz.infoR4 : (Tryz.prog.info? 43).map (fun i => (i.zero, i.size, i.bytes)) = some (some (.agg #[.int .i64 0, .int .i64 0, .int .i64 0, .int .i64 0]), 4, 32) := by kernel_rfl
/-- A ladder's cells. -/
def ldC (L : Nat → Nat → Int) (n : Nat) : List Value := Tl.fl (fun i => .int .i64 (L (i / 4) (i % 4))) (n * 4)
theorem ldC_len (L : Nat → Nat → Int) (n : Nat) : (ldC L n).length = n * 4 := Tl.fl_length _ _
theorem ldC_at {L : Nat → Nat → Int} {n i j : Nat} (hi : i < n) (hj : j < 4) : (ldC L n)[i * 4 + j]? = some (.int .i64 (L i j)) := by
  unfold ldC
  rw [Tl.fl_at _ _ _ (by omega), show (i * 4 + j) / 4 = i by omega, show (i * 4 + j) % 4 = j by omega]
theorem ldC_mem {L : Nat → Nat → Int} {n : Nat} {v : Value} (h : v ∈ ldC L n) : v.oneCell' = true := by
  obtain ⟨i, hi, e⟩ := List.mem_iff_getElem.1 h
  rw [ldC_len] at hi
  have h2 : (ldC L n)[i]? = some v := by rw [← e]; exact List.getElem?_eq_getElem _
  unfold ldC at h2
  rw [Tl.fl_at _ _ _ hi] at h2
  cases h2
  rfl
theorem made4 (n : Nat) : (madeCells (Value.agg #[.int .i64 0, .int .i64 0, .int .i64 0, .int .i64 0]).cells (n * 4)).toList = List.replicate (n * 4) (.int .i64 0) := by
  apply List.ext_getElem?
  intro i
  unfold madeCells
  by_cases h : i < n * 4
  · have h4 : i % 4 = 0 ∨ i % 4 = 1 ∨ i % 4 = 2 ∨ i % 4 = 3 := by omega
    simp [Value.cells, h]
    rcases h4 with e | e | e | e <;> rw [e] <;> rfl
  · simp [h]
theorem row_heap4 {w : World} {base e n g : Nat} {xs : List Value} (h : w.ownsRow base e 4 (.slice (some ⟨g, 0, none⟩) n n) n xs) : w.heap[g]? = some (.cells xs.toArray e (0, 0)) := by
  rcases h.2 with ⟨h1, _⟩ | ⟨g', cap', cur, h1, _, hg, _, _, hs, ht⟩
  · cases h1
  · cases h1
    rw [List.take_of_length_le (by rw [Array.length_toList, hs]; exact Nat.le_refl _)] at ht
    rw [hg, ← ht]
theorem make_rungs (r : Nat) (hr : r ≤ 8796093022208) (w : World) : ∃ w', Sem.run Tryz.prog (Instr.makeSlice 22 (.int .i64 (r : Int)) (.int .i64 (r : Int))) w = .ok (.slice (some ⟨w.heap.size, 0, none⟩) r r) w' ∧ w'.heap[w.heap.size]? = some (.cells (List.replicate (r * 4) (Value.int .i64 0)).toArray 43 (0, 0)) ∧ Kept [] w w' := by
  obtain ⟨j0, gi, gz0, gz1, gz2⟩ := info_parts Tryz.infoR4
  obtain ⟨w', hrun, r1, r2⟩ := run_make_full (P := Tryz.prog) w 0 22 43 j0 (.agg #[.int .i64 0, .int .i64 0, .int .i64 0, .int .i64 0]) 4 Tryz.underlying22 gi gz0 gz1 .i64 .i64 r (by rw [gz2]; omega) (by unfold maxLen; omega) (by omega)
  have hr3 := row_heap4 r1
  rw [made4] at hr3
  exact ⟨w', hrun, hr3, (Kept.of_grown r2).mono (by simp)⟩
theorem run_copy4 (w : World) (g dLen dCap : Nat) (a : Addr) (sLen sCap k : Nat) (cur : Array Value) (t : TypeId) (cs : List Value)
    (hg : w.heap[g]? = some (.cells cur t (0, 0))) (hk : Nat.min sLen dLen = k) (hn : cs.length = k * 4)
    (hsrc : ∀ j v, cs[j]? = some v → w.cell? (a.add j) = some v) (hfit : cs.length ≤ cur.size) (h1 : ∀ v ∈ cs, v.oneCell' = true) :
    (Builtin.copy_ #[22, 22] 3 #[.slice (some ⟨g, 0, none⟩) dLen dCap, .slice (some a) sLen sCap]).run Tryz.prog w =
      .ok (goInt k) (w.setRow g (cs ++ cur.toList.drop cs.length).toArray) := by
  obtain ⟨j0, gi, gz0, gz1, gz2⟩ := info_parts Tryz.infoR4
  have hl := run_loadCells_list (P := Tryz.prog) w a cs hsrc
  have hst := run_storeCells_at Tryz.prog g 0 t cs 0 cur w hg (by simpa using hfit) h1
  rw [hn] at hl
  simp only [Nat.add_zero, Nat.zero_add, List.take_zero, List.nil_append] at hst
  simp [Builtin.copy_, run_underlying Tryz.underlying22, Builtin.lenOf, Builtin.firstCells, sizeOf, typeInfo, gi, gz1, hk, hl, hst]
theorem run_copy0 (w : World) (d : Addr) (dLen dCap sCap : Nat) :
    (Builtin.copy_ #[22, 22] 3 #[.slice (some d) dLen dCap, .slice none 0 sCap]).run Tryz.prog w = .ok (goInt 0) w := by
  obtain ⟨j0, gi, gz0, gz1, gz2⟩ := info_parts Tryz.infoR4
  have hz : Nat.min 0 dLen = 0 := Nat.zero_min _
  simp [Builtin.copy_, run_underlying Tryz.underlying22, Builtin.lenOf, Builtin.firstCells, sizeOf, typeInfo, gi, hz, storeCells]
/-- A ladder, copied. -/
theorem copy_ladder (w : World) (A n c : Nat) (lo : Option Addr) (L : Nat → Nat → Int) (hL : Ldr w lo n L) (hA : w.heap[A]? = some (.cells (List.replicate ((n + 2) * 4) (Value.int .i64 0)).toArray 43 (0, 0))) :
    ∃ w', (Builtin.copy_ #[22, 22] 3 #[.slice (some ⟨A, 0, none⟩) (n + 2) (n + 2), .slice lo n c]).run Tryz.prog w = .ok (goInt n) w' ∧
      w'.heap[A]? = some (.cells (ldC L n ++ List.replicate 8 (Value.int .i64 0)).toArray 43 (0, 0)) ∧ Kept [A] w w' := by
  by_cases h0 : n = 0
  · subst h0
    rcases lo with _ | a
    · exact ⟨w, run_copy0 w _ _ _ _, hA, Kept.refl _ _⟩
    · obtain ⟨w', e1, e2, e3⟩ := row_set (List.replicate 8 (Value.int .i64 0)).toArray hA
      refine ⟨w', ?_, e2, e3⟩
      rw [run_copy4 w A (0 + 2) (0 + 2) a 0 c 0 _ _ [] hA (Nat.zero_min _) rfl (fun j v hv => by simp at hv) (Nat.zero_le _) (fun v hv => by simp at hv), ← e1]
      rfl
  · rcases hL with h | ⟨g, off, rfl, hc⟩
    · exact absurd h h0
    · obtain ⟨w', e1, e2, e3⟩ := row_set (ldC L n ++ List.replicate 8 (Value.int .i64 0)).toArray hA
      refine ⟨w', ?_, e2, e3⟩
      rw [run_copy4 w A (n + 2) (n + 2) ⟨g, off, none⟩ n c n _ _ (ldC L n) hA (Nat.min_eq_left (by omega)) (ldC_len _ _) (fun j v hv => ?_) (by simp [ldC_len]; omega) (fun v hv => ldC_mem hv)]
      · have hd : (List.replicate ((n + 2) * 4) (Value.int .i64 0)).toArray.toList.drop (n * 4) = List.replicate 8 (Value.int .i64 0) := by
          rw [List.toList_toArray, List.drop_replicate, show (n + 2) * 4 - n * 4 = 8 by omega]
        rw [← e1, ldC_len, hd]
      · have hj : j < n * 4 := by rw [← ldC_len L n]; exact (List.getElem?_eq_some_iff.1 hv).1
        have h9 := hc (j / 4) (by omega) (j % 4) (by omega)
        have hadd : (⟨g, off, none⟩ : Addr).add j = ⟨g, off + j / 4 * 4 + j % 4, none⟩ := by
          have h8 : off + j / 4 * 4 + j % 4 = off + j := by omega
          rw [h8]
          unfold Addr.add; split <;> simp_all
        rw [hadd, h9]
        have h7 := ldC_at (L := L) (n := n) (i := j / 4) (j := j % 4) (by omega) (by omega)
        rw [show j / 4 * 4 + j % 4 = j by omega, hv] at h7
        exact h7.symm
/-- The lent ladder's cells. -/
def lentC (L : Nat → Nat → Int) (n : Nat) : List Value := ldC L n ++ [.int .i64 91, .int .i64 92, .int .i64 93, .int .i64 94, .int .i64 95, .int .i64 96, .int .i64 97, .int .i64 98]
theorem lentC_at {L : Nat → Nat → Int} {n i j : Nat} (hi : i < n) (hj : j < 4) : (lentC L n)[i * 4 + j]? = some (.int .i64 (L i j)) := by
  unfold lentC
  rw [List.getElem?_append_left (by rw [ldC_len]; omega)]
  exact ldC_at hi hj
theorem lentC_end {L : Nat → Nat → Int} {n j : Nat} : (lentC L n)[n * 4 + j]? = [Value.int .i64 91, .int .i64 92, .int .i64 93, .int .i64 94, .int .i64 95, .int .i64 96, .int .i64 97, .int .i64 98][j]? := by
  unfold lentC
  rw [List.getElem?_append_right (by rw [ldC_len]; omega), ldC_len]
  congr 1
  omega
theorem lent_ldr {w : World} {A n : Nat} {L : Nat → Nat → Int} (h : w.heap[A]? = some (.cells (lentC L n).toArray 43 (0, 0))) : Ldr w (some ⟨A, 0, none⟩) n L :=
  .inr ⟨A, 0, rfl, fun i hi j hj => cellAt (i := 0 + i * 4 + j) h (by rw [Nat.zero_add, List.getElem?_toArray]; exact lentC_at hi hj)⟩
end Go.Proofs.YthkpligodbkofaaGreatDoor.Pc

namespace Go.Proofs.YthkpligodbkofaaGreatDoor.Pc
open Go.RowKit

theorem Tryz.infoCf : (Tryz.prog.info? 24).map (·.size) = some 5 := by kernel_rfl

theorem setAll_seg {B t : Nat} (vs post : List Value) : ∀ (i : Nat) (w : World) (pre old : List Value), w.heap[B]? = some (.cells (pre ++ (old ++ post)).toArray t (0, 0)) → pre.length = i → old.length = vs.length → (setAll w B i vs).heap[B]? = some (.cells (pre ++ (vs ++ post)).toArray t (0, 0)) ∧ Kept [B] w (setAll w B i vs) := by
  induction vs with
  | nil =>
    intro i w pre old h hi hl
    have : old = [] := List.eq_nil_of_length_eq_zero hl
    subst this
    exact ⟨h, Kept.refl _ _⟩
  | cons v vs ih =>
    intro i w pre old h hi hl
    cases old with
    | nil => simp at hl
    | cons x old =>
      have h1 := heap_setCell_at (i := i) (u := v) h
      have e : (pre ++ (x :: old ++ post)).toArray.setIfInBounds i v = ((pre ++ [v]) ++ (old ++ post)).toArray := by
        rw [List.setIfInBounds_toArray, List.cons_append, set_mid pre (old ++ post) x v i hi]; simp
      rw [e] at h1
      have h2 := ih (i + 1) _ (pre ++ [v]) old h1 (by simp [hi]) (by simpa using hl)
      refine ⟨?_, ((Kept.refl [B] w).setCell (p := ⟨B, i, none⟩) (.inl (by simp)) v).trans h2.2⟩
      have h3 := h2.1
      rw [List.append_assoc] at h3
      exact h3

set_option maxHeartbeats 8000000 in
set_option maxRecDepth 1000000 in
theorem lentConfig_any (sw sh : Int) (lo : Option Addr) (n c : Nat) (L : Nat → Nat → Int) (cap p : Int) (w : World) (hL : Ldr w lo n L) (hn : n ≤ 4398046511104) :
    Calls Tryz.prog 8 #[cfv sw sh lo n c cap p] w fun e w' => ∃ A, e = .returned (.tuple #[cfv sw sh (some ⟨A, 0, none⟩) n (n + 2) cap p, .slice (some ⟨A, 0, none⟩) (n + 2) (n + 2)]) ∧ w.heap.size ≤ A ∧ w'.heap[A]? = some (.cells (lentC L n).toArray 43 (0, 0)) ∧ Kept [] w w' := by
  obtain ⟨w1, e1⟩ : ∃ w1, w.alloc (.cells #[.int .i64 sw, .int .i64 sh, .slice lo n c, .int .i64 cap, .int .i64 p] 24 (0, 0)) = w1 := ⟨_, rfl⟩
  obtain ⟨w2, e2⟩ : ∃ w2, w1.alloc (.cells #[.int .i64 0, .int .i64 0, .slice none 0 0, .int .i64 0, .int .i64 0] 24 (0, 0)) = w2 := ⟨_, rfl⟩
  obtain ⟨B, eB⟩ : ∃ B, w.heap.size = B := ⟨_, rfl⟩
  have z1 : w1.heap.size = B + 1 := by rw [← e1, ← eB]; exact Array.size_push _
  have k1 : Kept [] w w1 := by rw [← e1]; exact (Kept.refl [] w).alloc _
  have k2 : Kept [] w1 w2 := by rw [← e2]; exact (Kept.refl [] w1).alloc _
  have HC := Hid.mk (k2.heap (show w1.heap[B]? = some (.cells #[.int .i64 sw, .int .i64 sh, .slice lo n c, .int .i64 cap, .int .i64 p] 24 (0, 0)) by rw [← e1, ← eB]; exact heap_alloc_new _ _) (by simp))
  have HR := Hid.mk (show w2.heap[B + 1]? = some (.cells #[.int .i64 0, .int .i64 0, .slice none 0 0, .int .i64 0, .int .i64 0] 24 (0, 0)) by rw [← e2, ← z1]; exact heap_alloc_new _ _)
  have K2 := Hid.mk (k1.trans k2)
  obtain ⟨w3, m3, h3, k3⟩ := make_rungs (n + 2) (by omega) w2
  obtain ⟨A, eA⟩ : ∃ A, w2.heap.size = A := ⟨_, rfl⟩
  rw [eA] at m3 h3
  obtain ⟨w4, m4, h4, k4⟩ := copy_ladder w3 A n c lo L ((hL.keep K2.out).keep k3) h3
  have HAB : Hid (B + 1 < A) := Hid.mk (by rw [← eA]; exact lt_of_block HR.out)
  have K4 := Hid.mk (k3.step k4 (fun x hx => by simp at hx; subst hx; exact .inr (Nat.le_of_eq eA)))
  have v1 : wrap64 ((n : Int) + 2) = ((n + 2 : Nat) : Int) := by rw [show (n : Int) + 2 = ((n + 2 : Nat) : Int) by omega]; exact Tl.w64_in (by omega) (by omega)
  have v2 : IntKind.i64.wrap ((n : Int) + 2) = ((n + 2 : Nat) : Int) := by rw [show (n : Int) + 2 = ((n + 2 : Nat) : Int) by omega]; exact Tl.wrap_i (by omega) (by omega)
  obtain ⟨N, eN⟩ : ∃ N, n + 2 = N := ⟨_, rfl⟩
  rw [eN] at m3 m4 v1 v2
  obtain ⟨q0, q1, q2, q3, q4⟩ := cel5 HC.out
  have HB := Hid.mk eB
  have H4 := Hid.mk h4
  obtain ⟨y0, y1, y2, y3, y4⟩ := cel5 (k3.heap HC.out (by simp))
  have HCA := (K4.out.heap HC.out (by simp))
  obtain ⟨x0, x1, x2, x3, x4⟩ := cel5 HCA
  have v3 : wrap64 ((n : Int) + 1) = ((n + 1 : Nat) : Int) := by rw [show (n : Int) + 1 = ((n + 1 : Nat) : Int) by omega]; exact Tl.w64_in (by omega) (by omega)
  have v4 : IntKind.i64.wrap ((n : Int) + 1) = ((n + 1 : Nat) : Int) := by rw [show (n : Int) + 1 = ((n + 1 : Nat) : Int) by omega]; exact Tl.wrap_i (by omega) (by omega)
  have i1 : (n : Int) < (N : Int) := by omega
  have i2 : ((n + 1 : Nat) : Int) < (N : Int) := by omega
  have i3 : (n : Int) ≤ (N : Int) := by omega
  have EN := Hid.mk eN
  have EA := Hid.mk eA
  clear hL k1 k2 k3 k4 h3 h4 HCA
  go_enter Tryz.func8, Tryz.ntmps8
  go_upto_region 3 with (fail)
  clear m3 m4 e1 e2 z1 eB q0 q1 q2 q3 q4 y0 y1 y2 y3 y4 v1 v2 eA eN hn
  have fz := row_fz H4.out
  have ac : ∀ j, j < 8 → w4.cell? ⟨A, n * 4 + j, none⟩ = some (.int .i64 0) := fun j hj => cellAt H4.out (by rw [List.getElem?_toArray, List.getElem?_append_right (by rw [ldC_len]; omega), ldC_len, show n * 4 + j - n * 4 = j by omega, List.getElem?_replicate, if_pos hj])
  have a0 : w4.cell? ⟨A, n * 4, none⟩ = some (.int .i64 0) := ac 0 (by decide)
  have a1 := ac 1 (by decide)
  have a2 := ac 2 (by decide)
  have a3 := ac 3 (by decide)
  clear ac
  go_cut [] (fun wc => Hid (wc.heap[A]? = some (.cells (ldC L n ++ ([Value.int .i64 91, Value.int .i64 92, Value.int .i64 93, Value.int .i64 94] ++ [Value.int .i64 0, Value.int .i64 0, Value.int .i64 0, Value.int .i64 0])).toArray 43 (0, 0)) ∧ Kept [A] w4 wc))
  case first =>
    have S := Hid.mk (setAll_seg [.int .i64 91, .int .i64 92, .int .i64 93, .int .i64 94] [.int .i64 0, .int .i64 0, .int .i64 0, .int .i64 0] (n * 4) w4 (ldC L n) [.int .i64 0, .int .i64 0, .int .i64 0, .int .i64 0] H4.out (ldC_len _ _) rfl)
    simp only [setAll] at S
    go_wp2
    go_meet
    exact Hid.mk ⟨S.out.1, S.out.2⟩
  case rest =>
    have H5 := Hid.mk hcut.out.1
    have K5 := Hid.mk (K4.out.step hcut.out.2 (fun x hx => by simp at hx; subst hx; exact .inr (Nat.le_of_eq EA.out)))
    clear hcut a0 a1 a2 a3 fz x0 x1 x2 x3 x4
    obtain ⟨x0, x1, x2, x3, x4⟩ := cel5 (K5.out.heap HC.out (by simp))
    have fz := row_fz H5.out
    have ac : ∀ j, j < 4 → wc.cell? ⟨A, (n + 1) * 4 + j, none⟩ = some (.int .i64 0) := fun j hj => cellAt H5.out (by
      rw [List.getElem?_toArray, List.getElem?_append_right (by rw [ldC_len]; omega), ldC_len, show (n + 1) * 4 + j - n * 4 = 4 + j by omega]
      rcases (show j = 0 ∨ j = 1 ∨ j = 2 ∨ j = 3 by omega) with rfl | rfl | rfl | rfl <;> rfl)
    have a0 : wc.cell? ⟨A, (n + 1) * 4, none⟩ = some (.int .i64 0) := ac 0 (by decide)
    have a1 := ac 1 (by decide)
    have a2 := ac 2 (by decide)
    have a3 := ac 3 (by decide)
    clear ac
    have S := Hid.mk (setAll_seg [Value.int .i64 95, Value.int .i64 96, Value.int .i64 97, Value.int .i64 98] [] ((n + 1) * 4) wc (ldC L n ++ [Value.int .i64 91, Value.int .i64 92, Value.int .i64 93, Value.int .i64 94]) [Value.int .i64 0, Value.int .i64 0, Value.int .i64 0, Value.int .i64 0] (by rw [List.append_nil, List.append_assoc]; exact H5.out) (by rw [List.length_append, ldC_len]; show n * 4 + 4 = _; omega) rfl)
    simp only [setAll] at S
    generalize wc = w5 at *
    go_upto_region 4 with (fail)
    go_cut [] (fun wd => Hid (wd.heap[A]? = some (.cells (lentC L n).toArray 43 (0, 0)) ∧ Kept [A] w5 wd))
    case first =>
      go_wp2
      go_meet
      refine Hid.mk ⟨?_, S.out.2⟩
      have h9 := S.out.1
      rw [List.append_nil, List.append_assoc] at h9
      exact h9
    case rest =>
      have H6 := Hid.mk hcut.out.1
      have K6 := Hid.mk (K5.out.step hcut.out.2 (fun x hx => by simp at hx; subst hx; exact .inr (Nat.le_of_eq EA.out)))
      clear hcut a0 a1 a2 a3 fz x0 x1 x2 x3 x4 S
      generalize wc = w6 at *
      have HC6 := Hid.mk (K6.out.heap HC.out (by simp))
      obtain ⟨x0, x1, x2, x3, x4⟩ := cel5 HC6.out
      have fz := row_fz HC6.out
      have i4 : decide ((n : Int) ≤ (N : Int)) = true := decide_eq_true i3
      clear v3 v4 i1 i2 H4 H5 K4 K5
      go_upto_region 5 with (fail)
      go_cut [] (fun wd => Hid (wd.heap[B]? = some (.cells #[.int .i64 sw, .int .i64 sh, .slice (some ⟨A, 0, none⟩) n N, .int .i64 cap, .int .i64 p] 24 (0, 0)) ∧ Kept [B] w6 wd))
      case first =>
        have S := Hid.mk (heap_setCell_at (i := 2) (u := .slice (some ⟨A, 0, none⟩) n N) HC6.out)
        have KS := Hid.mk ((Kept.refl [B] w6).setCell (p := ⟨B, 2, none⟩) (.inl (by simp)) (.slice (some ⟨A, 0, none⟩) n N))
        go_wp2
        go_meet
        exact Hid.mk ⟨S.out, KS.out⟩
      case rest =>
        generalize wc = w7 at *
        have H7 := Hid.mk hcut.out.1
        have K7 := Hid.mk hcut.out.2
        clear hcut x0 x1 x2 x3 x4 fz
        obtain ⟨x0, x1, x2, x3, x4⟩ := cel5 H7.out
        have HR7 := Hid.mk (K7.out.heap (K6.out.heap HR.out (by simp)) (by simp))
        obtain ⟨y0, y1, y2, y3, y4⟩ := cel5 HR7.out
        have fz := row_fz HR7.out
        have S := Hid.mk (setAll_row [.int .i64 sw, .int .i64 sh, .slice (some ⟨A, 0, none⟩) n N, .int .i64 cap, .int .i64 p] 0 w7 [] _ HR7.out rfl rfl)
        simp only [setAll] at S
        go_wp2
        refine bodyPost_ret (v := .tuple #[.agg #[.int .i64 sw, .int .i64 sh, .slice (some ⟨A, 0, none⟩) n N, .int .i64 cap, .int .i64 p], .slice (some ⟨A, 0, none⟩) N N]) ?_ rfl ⟨A, ?_, ?_, ?_, ?_⟩
        · exact Tl.results_two rfl _ _ (B + 1) 24 _ (0, 0) _ _ rfl S.out.1 Tryz.underlying24 Tryz.infoCf rfl
        · rw [EN.out]
        · have h1 := HB.out
          have h2 := HAB.out
          omega
        · exact S.out.2.heap (K7.out.heap H6.out (by have := HAB.out; simp; omega)) (by have := HAB.out; simp; omega)
        · refine ((K2.out.trans K6.out).step K7.out (fun x hx => ?_)).step S.out.2 (fun x hx => ?_)
          · simp at hx; subst hx; exact .inr (Nat.le_of_eq HB.out)
          · simp at hx; subst hx; exact .inr (by have := HB.out; omega)
end Go.Proofs.YthkpligodbkofaaGreatDoor.Pc

namespace Go.Proofs.YthkpligodbkofaaGreatDoor.Pc
open Go.RowKit

set_option maxHeartbeats 8000000 in
set_option maxRecDepth 1000000 in
theorem ladderStays_any (A : Nat) (lo : Option Addr) (n c : Nat) (L : Nat → Nat → Int) (w : World) (hA : w.heap[A]? = some (.cells (lentC L n).toArray 43 (0, 0))) (hL : Ldr w lo n L) (hn : n ≤ 4398046511104) :
    Calls Tryz.prog 11 #[.slice (some ⟨A, 0, none⟩) (n + 2) (n + 2), .slice lo n c] w fun e w' => e = .returned (.bool true) ∧ Kept [] w w' := by
  obtain ⟨N, eN⟩ : ∃ N, n + 2 = N := ⟨_, rfl⟩
  rw [eN]
  have HA := Hid.mk hA
  have HL := Hid.mk hL
  have HNN := Hid.mk hn
  have HN := Hid.mk eN
  have AC : Hid (∀ u, Kept [] w u → ∀ i j, i < n → j < 4 → u.cell? ⟨A, i * 4 + j, none⟩ = some (.int .i64 (L i j))) := Hid.mk (fun u k i j hi hj => cellAt (k.heap HA.out (by simp)) (by rw [List.getElem?_toArray]; exact lentC_at hi hj))
  have AE : Hid (∀ u, Kept [] w u → ∀ j v, [Value.int .i64 91, Value.int .i64 92, Value.int .i64 93, Value.int .i64 94, Value.int .i64 95, Value.int .i64 96, Value.int .i64 97, Value.int .i64 98][j]? = some v → u.cell? ⟨A, n * 4 + j, none⟩ = some v) := Hid.mk (fun u k j v hv => cellAt (k.heap HA.out (by simp)) (by rw [List.getElem?_toArray, lentC_end]; exact hv))
  clear hA hL
  go_enter Tryz.func11, Tryz.ntmps11
  go_wp2
  go_loopw [5] (fun i wr => ∃ k : Nat, k ≤ n ∧ i = .int .i64 (k : Int) ∧ Hid (Kept [] w wr)) (fun i _ => n - (intOf i).toNat)
  case atStart => exact ⟨0, Nat.zero_le _, rfl, Hid.mk (Kept.refl _ _)⟩
  case round =>
    obtain ⟨k, hk, rfl, HI⟩ := hrel
    by_cases hlt : k < n
    · have ik : (k : Int) < (n : Int) := by omega
      have iN : (k : Int) < (N : Int) := by omega
      obtain ⟨g, off, rfl, l0, l1, l2, l3⟩ := (HL.out.keep HI.out).at hlt
      have c0 : wr.cell? ⟨A, k * 4, none⟩ = some (.int .i64 (L k 0)) := AC.out wr HI.out k 0 hlt (by decide)
      have c1 := AC.out wr HI.out k 1 hlt (by decide)
      have c2 := AC.out wr HI.out k 2 hlt (by decide)
      have c3 := AC.out wr HI.out k 3 hlt (by decide)
      obtain ⟨a0, ea0⟩ : ∃ x, L k 0 = x := ⟨_, rfl⟩
      obtain ⟨a1, ea1⟩ : ∃ x, L k 1 = x := ⟨_, rfl⟩
      obtain ⟨a2, ea2⟩ : ∃ x, L k 2 = x := ⟨_, rfl⟩
      obtain ⟨a3, ea3⟩ : ∃ x, L k 3 = x := ⟨_, rfl⟩
      rw [ea0] at c0 l0
      rw [ea1] at c1 l1
      rw [ea2] at c2 l2
      rw [ea3] at c3 l3
      have REQ := rung_eql a0 a1 a2 a3
      have HLT := Hid.mk hlt
      clear ea0 ea1 ea2 ea3 hlt hk eN hn
      go_wp2_with (fail)
      go_quiet (fail)
      have v5 : wrap64 ((k : Int) + 1) = ((k + 1 : Nat) : Int) := by
        have h1 := HLT.out
        have h2 := HNN.out
        rw [show (k : Int) + 1 = ((k + 1 : Nat) : Int) by omega]; exact Tl.w64_in (by omega) (by omega)
      have v6 : IntKind.i64.wrap ((k : Int) + 1) = ((k + 1 : Nat) : Int) := by
        have h1 := HLT.out
        have h2 := HNN.out
        rw [show (k : Int) + 1 = ((k + 1 : Nat) : Int) by omega]; exact Tl.wrap_i (by omega) (by omega)
      go_wp2
      clear v5 v6
      go_roundw
      case rel => exact ⟨k + 1, HLT.out, rfl, Hid.mk (HI.out.drewN _)⟩
      case measure => (clear ik iN; simp [intOf]; have := HLT.out; omega)
    · obtain rfl : n = k := by omega
      have e0 : wr.cell? ⟨A, n * 4, none⟩ = some (.int .i64 91) := AE.out wr HI.out 0 _ rfl
      have e1 := AE.out wr HI.out 1 _ rfl
      have e2 := AE.out wr HI.out 2 _ rfl
      have e3 := AE.out wr HI.out 3 _ rfl
      have h44 : (n + 1) * 4 = n * 4 + 4 := by omega
      have e4 : wr.cell? ⟨A, (n + 1) * 4, none⟩ = some (.int .i64 95) := by rw [h44]; exact AE.out wr HI.out 4 _ rfl
      have e5 : wr.cell? ⟨A, (n + 1) * 4 + 1, none⟩ = some (.int .i64 96) := by rw [h44]; exact AE.out wr HI.out 5 _ rfl
      have e6 : wr.cell? ⟨A, (n + 1) * 4 + 2, none⟩ = some (.int .i64 97) := by rw [h44]; exact AE.out wr HI.out 6 _ rfl
      have e7 : wr.cell? ⟨A, (n + 1) * 4 + 3, none⟩ = some (.int .i64 98) := by rw [h44]; exact AE.out wr HI.out 7 _ rfl
      have R1 := rung_eql 91 92 93 94
      have R2 := rung_eql 95 96 97 98
      have v3 : wrap64 ((n : Int) + 1) = ((n + 1 : Nat) : Int) := by rw [show (n : Int) + 1 = ((n + 1 : Nat) : Int) by omega]; exact Tl.w64_in (by omega) (by omega)
      have v4 : IntKind.i64.wrap ((n : Int) + 1) = ((n + 1 : Nat) : Int) := by rw [show (n : Int) + 1 = ((n + 1 : Nat) : Int) by omega]; exact Tl.wrap_i (by omega) (by omega)
      have i1 : (n : Int) < (N : Int) := by omega
      have i2 : ((n + 1 : Nat) : Int) < (N : Int) := by omega
      clear hlt hk eN hn h44
      go_wp2
      go_ret
      exact ⟨rfl, HI.out⟩
end Go.Proofs.YthkpligodbkofaaGreatDoor.Pc
