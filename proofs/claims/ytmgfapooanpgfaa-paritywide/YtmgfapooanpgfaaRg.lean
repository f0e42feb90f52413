import Derived.Test.YtmgfapooanpgfaaRf
namespace Go.Proofs.Ytmgfapooanpgfaa
open Go.RowKit

/-- What was handed in: the rows, and behind them the rows more. -/
def gvn (Lr Lm : List (List Nat)) (n k : Nat) : List Nat := if k < n then Lr.getD k [] else Lm.getD (k - n) []
/-- What is known of it. -/
def aF (go : Nat → Bool) (Lr Lm : List (List Nat)) (n k x : Nat) : Nat := if go k then 0 else (gvn Lr Lm n k).getD x 0
/-- The rows as they come out, bytes beyond their sizes nought. -/
def rF (go : Nat → Bool) (ln : Nat → Nat) (A E : Nat → Nat → Nat) (j x : Nat) : Nat := if x < ln j then (if go j then E j x else A j x) else 0
/-- All rows as they come out. -/
def oF (go : Nat → Bool) (n : Nat) (ln : Nat → Nat) (A E : Nat → Nat → Nat) (k x : Nat) : Nat :=
  if k < n then (if go k then E k x else A k x) else if go k then sm (fun j => mu (cf (k - n) j) (rF go ln A E j x)) n else A k x

/-- What Restore comes to, where numbers and sizes are good. -/
def RsPost (w : World) (n p : Nat) (sz : Nat → Nat) (go : Nat → Bool) (Lr Lm : List (List Nat)) (e : Ending) (w' : World) : Prop :=
  if alg (fun k => (gvn Lr Lm n k).length) (lnf sz n) go (n + p) = false then e = .returned (.tuple #[.slice none 0 0, .int .i64 52]) ∧ Kept [] w w'
  else if p < cnt go (n + p) then e = .returned (.tuple #[.slice none 0 0, .int .i64 53]) ∧ Kept [] w w'
  else ∃ g B Z E, e = .returned (.tuple #[.slice (some ⟨g, 0, none⟩) (n + p) (n + p), .int .i64 0]) ∧ Slv go n p (aF go Lr Lm n) E ∧ (∀ j x, E j x < 256) ∧ Ct w' g B (n + p) (lnf sz n) Z ∧ Cn Z (lnf sz n) (n + p) (oF go n (lnf sz n) (aF go Lr Lm n) E) ∧ (∀ q, Z q < 256) ∧ w.heap.size ≤ g ∧ w.heap.size ≤ B ∧ Kept [] w w'

theorem lnf_le {sz : Nat → Nat} (h : ∀ i, sz i ≤ 16777216) (n k : Nat) : lnf sz n k ≤ 16777216 := by
  unfold lnf
  split
  · exact h k
  · exact wx_le (fun i _ => h i)
/-- Copied into a part of a flat row. -/
def cpy (Z : Nat → Nat) (o n : Nat) (l : List Nat) : Nat → Nat := fun q => if o ≤ q ∧ q < o + n then l.getD (q - o) 0 else Z q
theorem cpy_lo {Z : Nat → Nat} (h : ∀ q, Z q < 256) (o n : Nat) {l : List Nat} (hl : Byts l) : ∀ q, cpy Z o n l q < 256 := by
  intro q
  unfold cpy
  split
  · exact getD_lt _ _ hl
  · exact h q
theorem pcopy_run (w : World) (B o n dcap T cp : Nat) (bo : Option Addr) (Z : Nat → Nat) (l : List Nat) (hr : Row w B (rg Z T)) (hoT : o + n ≤ T) (hl : l.length = n) (hs : Reads w bo l) :
    ∃ w2, Sem.run Try.prog (Builtin.copy_ #[40, 40] 3 #[.slice (some ⟨B, o, none⟩) n dcap, .slice bo n cp]) w = .ok (goInt n) w2 ∧ Row w2 B (rg (cpy Z o n l) T) ∧ Kept [B] w w2 := by
  obtain ⟨i0, hi, hz0, hz1, hz2⟩ := info_parts Try.info5
  have hsz : (Try.prog.info? 5).map (·.size) = some 1 := by rw [hi]; simp [hz1]
  by_cases h0 : n = 0
  · subst h0
    refine ⟨w, run_copy_none w 40 40 3 5 _ _ _ _ _ _ Try.underlying40 hsz (by simp), ?_, Kept.refl _ _⟩
    rw [rg_congr (p := cpy Z o 0 l) (q := Z) (n := T) (fun j _ => if_neg (by omega))]
    exact hr
  · obtain ⟨ad, rfl, hsrc⟩ := reads_src hs (by omega)
    have h := run_copy_row (P := Try.prog) w 40 40 3 5 B o n dcap ad n cp ((rg Z T).map byt).toArray 5 (l.map byt) Try.underlying40 hsz hr (by rw [List.length_map, hl]; show n = min n n; omega) hsrc (by simp [rg_length]; omega) (bytes_one _)
    rw [List.length_map, hl] at h
    have h3 : ((rg Z T).map byt).take o ++ l.map byt ++ ((rg Z T).map byt).drop (o + n) = (rg (cpy Z o n l) T).map byt := by
     rw [← List.map_take, ← List.map_append, ← List.map_drop, ← List.map_append]
     refine congrArg (List.map byt) ?_
     apply List.ext_getElem?
     intro j
     by_cases hj : j < T
     · rw [rg_at _ _ _ hj]
       unfold cpy
       by_cases h1 : j < o
       · rw [List.getElem?_append_left (by simp [rg_length]; omega), List.getElem?_append_left (by simp [rg_length]; omega), List.getElem?_take, if_pos h1, rg_at _ _ _ hj, if_neg (by omega)]
       · by_cases h2 : j < o + n
         · rw [List.getElem?_append_left (by simp [rg_length]; omega), List.getElem?_append_right (by simp [rg_length]; omega), if_pos (by omega)]
           rw [List.length_take, rg_length, Nat.min_eq_left (by omega), List.getD_eq_getElem?_getD, List.getElem?_eq_getElem (by omega)]
           rfl
         · rw [List.getElem?_append_right (by simp [rg_length]; omega), List.getElem?_drop, if_neg (by omega)]
           rw [List.length_append, List.length_take, rg_length, hl, Nat.min_eq_left (by omega), show o + n + (j - (o + n)) = j by omega, rg_at _ _ _ hj]
     · rw [List.getElem?_eq_none (by simp [rg_length]; omega), List.getElem?_eq_none (by rw [rg_length]; omega)]
    refine ⟨_, h, ?_, setRow_kept _ _ _⟩
    unfold Row
    rw [setRow_heap w B _ _ 5 _ hr, ← h3]
theorem Cn.cpy {Z : Nat → Nat} {ln : Nat → Nat} {N k : Nat} {X : Nat → Nat → Nat} {l : List Nat} (h : Cn Z ln N X) : Cn (Go.Proofs.Ytmgfapooanpgfaa.cpy Z (po ln k) (ln k) l) ln N (fun i x => if i = k then l.getD x 0 else X i x) := by
  intro i hi x hx
  show (if po ln k ≤ ofs ln i + x ∧ ofs ln i + x < po ln k + ln k then l.getD (ofs ln i + x - po ln k) 0 else Z (ofs ln i + x)) = (if i = k then l.getD x 0 else X i x)
  by_cases e : i = k
  · subst e
    have hp : po ln i = ofs ln i := if_neg (by omega)
    rw [hp, if_pos (by omega), if_pos rfl, Nat.add_sub_cancel_left]
  · rw [if_neg e, if_neg, h i hi x hx]
    unfold po
    by_cases h0 : ln k = 0
    · rw [if_pos h0]; omega
    · rw [if_neg h0]
      rcases Nat.lt_or_gt_of_ne e with h1 | h1
      · have := ofs_mono ln h1; omega
      · have := ofs_mono ln h1; omega
theorem rg_rF (go : Nat → Bool) (ln : Nat → Nat) (A E : Nat → Nat → Nat) (j x : Nat) : (rg (fun x => if go j then E j x else A j x) (ln j)).getD x 0 = rF go ln A E j x := by
  unfold rF
  by_cases hx : x < ln j
  · rw [rg_getD _ _ _ hx, if_pos hx]
  · rw [List.getD_eq_getElem?_getD, List.getElem?_eq_none (by rw [rg_length]; omega), if_neg hx]; rfl

set_option maxHeartbeats 8000000 in
set_option maxRecDepth 1000000 in
theorem restore_any (ao so mo lo : Option Addr) (n ca cs p cm m cl : Nat) (Lr Lm : List (List Nat)) (sz lf : Nat → Nat) (w : World) (hLr : MC w ao Lr) (hLm : MC w mo Lm) (bLr : Bm Lr) (bLm : Bm Lm) (hn : Lr.length = n) (hp : Lm.length = p) (h1 : n ≤ 200) (h2 : p ≤ 16)
    (na : ao = none → n = 0 ∧ ca = 0) (nm_ : mo = none → p = 0 ∧ cm = 0) (ns : so = none → n = 0 ∧ cs = 0) (hs : RdI w so (fun i => (sz i : Int)) n) (hsz : ∀ i, sz i ≤ 16777216) (hl : RdI w lo (fun i => (lf i : Int)) m) (hlf : ∀ i, i < m → lf i < n + p) (hm : m ≤ 140737488355328) :
    Calls Try.prog 14 #[.slice ao n ca, .slice so n cs, .slice mo p cm, .slice lo m cl] w fun e w' => RsPost w n p sz (gon lf m) Lr Lm e w' := by
  have d1 : decide ((200 : Int) < (n : Int)) = false := by simp; omega
  have d2 : decide ((16 : Int) < (p : Int)) = false := by simp; omega
  have C1 : Hid (Calls Try.prog 31 #[.slice so n cs, .int .i64 16777216] w fun e w' => e = .returned (.bool true) ∧ w' = w) := Hid.mk (by
    refine (within_any so n cs _ 16777216 w hs (by omega)).mono ?_
    rintro e w' ⟨rfl, rfl⟩
    exact ⟨by rw [wi_true.2 (fun i _ => ⟨by omega, by have := hsz i; omega⟩)], rfl⟩)
  have C2 : Hid (Calls Try.prog 31 #[.slice lo m cl, .int .i64 ((n : Int) + (p : Int) - 1)] w fun e w' => e = .returned (.bool true) ∧ w' = w) := Hid.mk (by
    refine (within_any lo m cl _ ((n : Int) + (p : Int) - 1) w hl hm).mono ?_
    rintro e w' ⟨rfl, rfl⟩
    exact ⟨by rw [wi_true.2 (fun i hi => ⟨by omega, by have := hlf i hi; omega⟩)], rfl⟩)
  obtain ⟨bo1, cp1, hv1, hq1⟩ := hLr.view
  obtain ⟨bo2, cp2, hv2, hq2⟩ := hLm.view
  rw [hn] at hv1 hq1
  rw [hp] at hv2 hq2
  have hka : Kept [] w (w.alloc (.cells #[.slice ao n ca, .slice mo p cm] 34)) := (Kept.refl [] w).alloc _
  have C3 : Hid (Calls Try.prog 32 #[.slice (some ⟨w.heap.size, 0, none⟩) 2 2] (w.alloc (.cells #[.slice ao n ca, .slice mo p cm] 34)) fun e w' => ∃ xo xc, e = .returned (.slice xo (n + p) xc) ∧ Sv w' xo (n + p) (vS (fun k => if k < n then bo1 k else bo2 (k - n)) (fun k => (gvn Lr Lm n k).length) (fun k => if k < n then cp1 k else cp2 (k - n))) ∧ Kept [] w w') := Hid.mk (by
    refine (concatR w.heap.size 2 n ca p cm ao mo (vS bo1 (fun j => (Lr.getD j []).length) cp1) (vS bo2 (fun j => (Lm.getD j []).length) cp2) _ (by rw [cell_of_row _ _ _ _ _ _ (heap_alloc_new w _)]; rfl) (by rw [cell_of_row _ _ _ _ _ _ (heap_alloc_new w _)]; rfl) (Sv.keep (show Sv w ao n _ from hv1) hka) (Sv.keep (show Sv w mo p _ from hv2) hka) na nm_ (fun _ _ => rfl) (fun _ _ => rfl) (by omega) (by omega)).mono ?_
    rintro e w2 ⟨V, rfl, hV, hk2⟩
    rw [fl_app] at hV
    rw [fl_congr (g := vS (fun k => if k < n then bo1 k else bo2 (k - n)) (fun k => (gvn Lr Lm n k).length) (fun k => if k < n then cp1 k else cp2 (k - n))) (fun i _ => by
      unfold vS gvn
      by_cases h : i < n
      · simp only [if_pos h]
      · simp only [if_neg h])] at hV
    obtain ⟨xo, c, rfl, hsv, _, _⟩ := own_sv hV
    exact ⟨xo, c, rfl, hsv, hka.trans hk2⟩)
  have C4 := Hid.mk (fun w1 (hk : Kept [] w w1) => allLen_any so n cs p sz w1 (hs.keep hk) ns h1 h2 hsz)
  have C5 : Hid (∀ w1, Kept [] w w1 → Calls Try.prog 34 #[.slice lo m cl, .int .i64 ((n : Int) + (p : Int))] w1 fun e w' => ∃ g, e = .returned (.tuple #[.slice (some ⟨g, 0, none⟩) (n + p) (n + p), .int .i64 (cnt (gon lf m) (n + p) : Int)]) ∧ Vr w' g 4 (n + p) (vB (gon lf m)) ∧ w1.heap.size ≤ g ∧ Kept [] w1 w') := Hid.mk (fun w1 hk => by
    have := marked_any lo m cl (n + p) lf w1 (hl.keep hk) hlf (by omega) hm
    rw [Int.natCast_add] at this
    exact this)
  have HLR : Hid (∀ j, j < n → (Lr.getD j []).length ≤ cp1 j ∧ Reads w (bo1 j) (Lr.getD j [])) := Hid.mk hq1
  have HLM : Hid (∀ j, j < p → (Lm.getD j []).length ≤ cp2 j ∧ Reads w (bo2 j) (Lm.getD j [])) := Hid.mk hq2
  have BR := Hid.mk bLr
  have BM := Hid.mk bLm
  have Hsz := Hid.mk hsz
  obtain ⟨go, ego⟩ : ∃ go, go = gon lf m := ⟨_, rfl⟩
  rw [← ego] at C5 ⊢
  have C6 : Hid (∀ w3 xo xc no nc gg, Sv w3 xo (n + p) (vS (fun k => if k < n then bo1 k else bo2 (k - n)) (fun k => (gvn Lr Lm n k).length) (fun k => if k < n then cp1 k else cp2 (k - n))) → RdI w3 no (fun k => (lnf sz n k : Int)) (n + p) → Vr w3 gg 4 (n + p) (vB go) → Calls Try.prog 35 #[.slice xo (n + p) xc, .slice no (n + p) nc, .slice (some ⟨gg, 0, none⟩) (n + p) (n + p)] w3 fun e w' => e = .returned (.bool (alg (fun k => (gvn Lr Lm n k).length) (lnf sz n) go (n + p))) ∧ Kept [] w3 w') := Hid.mk (fun w3 xo xc no nc gg hx hno hg =>
    asLong_any xo no (some ⟨gg, 0, none⟩) (n + p) xc (n + p) nc (n + p) (n + p) _ _ _ _ go w3 hx hno (.inr ⟨gg, 0, rfl, fun i hi => by rw [Nat.zero_add]; exact hg.at hi⟩) (Nat.le_refl _) (Nat.le_refl _) (by omega))
  have HL0 : Hid (Lm.length = p) := Hid.mk hp
  clear hka hv1 hv2 hq1 hq2 hLr hLm na nm_ ns hs hsz hl hlf bLr bLm ego hn hp
  cases hal : alg (fun k => (gvn Lr Lm n k).length) (lnf sz n) go (n + p)
  · rw [hal] at C6
    have HP : Hid (alg (fun k => (gvn Lr Lm n k).length) (lnf sz n) go (n + p) = false) := Hid.mk hal
    clear hal
    go_enter Try.func14, Try.ntmps14
    go_wp2_with (first | (go_at_call_of 31 so; refine C1.out.mono ?_; rintro e w' ⟨rfl, hw⟩; obtain rfl := hw.symm) | (go_at_call_of 31 lo; refine C2.out.mono ?_; rintro e w' ⟨rfl, hw⟩; obtain rfl := hw.symm) | (go_at_call 32; refine C3.out.mono ?_; rintro e w1 ⟨xo, xc, rfl, hx1, hk1⟩) | (go_at_call 33; refine (C4.out _ hk1).mono ?_; rintro e w2 ⟨no, nc, rfl, hn2, hk2⟩) | (go_at_call 34; refine (C5.out _ (hk1.trans hk2)).mono ?_; rintro e w3 ⟨gg, rfl, hg3, hgs, hk3⟩) | (go_at_call 35; refine (C6.out _ _ _ _ _ _ ((hx1.keep hk2).keep hk3) (hn2.keep hk3) hg3).mono ?_; rintro e w4 ⟨rfl, hk4⟩))
    try rw [Exit.noGoto_ret]
    go_ret2
    unfold RsPost
    rw [if_pos HP.out]
    exact ⟨rfl, ((hk1.trans hk2).trans hk3).trans hk4⟩
  · rw [hal] at C6
    have HP : Hid (¬ alg (fun k => (gvn Lr Lm n k).length) (lnf sz n) go (n + p) = false) := Hid.mk (by rw [hal]; simp)
    have HAL := Hid.mk (alg_true.1 hal)
    clear hal
    by_cases hcn : p < cnt go (n + p)
    · have dc : decide ((p : Int) < (cnt go (n + p) : Int)) = true := by simp; omega
      have HC := Hid.mk hcn
      obtain ⟨c, ec⟩ : ∃ c, c = cnt go (n + p) := ⟨_, rfl⟩
      rw [← ec] at dc C5 hcn
      clear ec
      go_enter Try.func14, Try.ntmps14
      go_wp2_with (first | (go_at_call_of 31 so; refine C1.out.mono ?_; rintro e w' ⟨rfl, hw⟩; obtain rfl := hw.symm) | (go_at_call_of 31 lo; refine C2.out.mono ?_; rintro e w' ⟨rfl, hw⟩; obtain rfl := hw.symm) | (go_at_call 32; refine C3.out.mono ?_; rintro e w1 ⟨xo, xc, rfl, hx1, hk1⟩) | (go_at_call 33; refine (C4.out _ hk1).mono ?_; rintro e w2 ⟨no, nc, rfl, hn2, hk2⟩) | (go_at_call 34; refine (C5.out _ (hk1.trans hk2)).mono ?_; rintro e w3 ⟨gg, rfl, hg3, hgs, hk3⟩) | (go_at_call 35; refine (C6.out _ _ _ _ _ _ ((hx1.keep hk2).keep hk3) (hn2.keep hk3) hg3).mono ?_; rintro e w4 ⟨rfl, hk4⟩))
      try rw [Exit.noGoto_ret]
      go_ret2
      unfold RsPost
      rw [if_neg HP.out, if_pos HC.out]
      exact ⟨rfl, ((hk1.trans hk2).trans hk3).trans hk4⟩
    · have dc : decide ((p : Int) < (cnt go (n + p) : Int)) = false := by simp; omega
      have HC := Hid.mk hcn
      obtain ⟨c, ec⟩ : ∃ c, c = cnt go (n + p) := ⟨_, rfl⟩
      rw [← ec] at dc C5 hcn
      clear ec
      have C7 := Hid.mk (fun w4 no nc (h : RdI w4 no (fun k => (lnf sz n k : Int)) (n + p)) => cut_any no (n + p) nc (lnf sz n) w4 (by omega) (lnf_le Hsz.out n) h)
      go_enter Try.func14, Try.ntmps14
      go_wp2_with (first | (go_at_call_of 31 so; refine C1.out.mono ?_; rintro e w' ⟨rfl, hw⟩; obtain rfl := hw.symm) | (go_at_call_of 31 lo; refine C2.out.mono ?_; rintro e w' ⟨rfl, hw⟩; obtain rfl := hw.symm) | (go_at_call 32; refine C3.out.mono ?_; rintro e w1 ⟨xo, xc, rfl, hx1, hk1⟩) | (go_at_call 33; refine (C4.out _ hk1).mono ?_; rintro e w2 ⟨no, nc, rfl, hn2, hk2⟩) | (go_at_call 34; refine (C5.out _ (hk1.trans hk2)).mono ?_; rintro e w3 ⟨gg, rfl, hg3, hgs, hk3⟩) | (go_at_call 35; refine (C6.out _ _ _ _ _ _ ((hx1.keep hk2).keep hk3) (hn2.keep hk3) hg3).mono ?_; rintro e w4 ⟨rfl, hk4⟩) | (go_at_call 27; have hz := C7.out _ _ nc ((hn2.keep hk3).keep hk4); refine hz.mono ?_; rintro e w5 ⟨G, B, rfl, hct, hG, hB, hk5⟩))
      have HK4 : Hid (Kept [] w w4) := Hid.mk (((hk1.trans hk2).trans hk3).trans hk4)
      have HX4 := Hid.mk (((hx1.keep hk2).keep hk3).keep hk4)
      have HV4 := Hid.mk (hg3.keep hk4 (by simp))
      have HGL : Hid (gg < w4.heap.size) := Hid.mk HV4.out.lt
      have HCT := Hid.mk hct
      have HGB : Hid (w4.heap.size ≤ G ∧ w4.heap.size ≤ B) := Hid.mk ⟨hG, hB⟩
      have HK5 := Hid.mk hk5
      clear hx1 hk1 hn2 hk2 hg3 hgs hk3 hk4 hct hG hB hk5 C1 C2 C3 C4 C5 C6 C7
      go_loopw [77] (fun i wr => ∃ (k : Nat) (Z : Nat → Nat), k ≤ n + p ∧ i = .int .i64 (k : Int) ∧ Row wr B (rg Z (ofs (lnf sz n) (n + p))) ∧ Cn Z (lnf sz n) (n + p) (fun i x => if i < k then aF go Lr Lm n i x else 0) ∧ (∀ q, Z q < 256) ∧ Kept [B] w5 wr) (fun i _ => n + p - (intOf i).toNat)
      case atStart => exact ⟨0, fun _ => 0, by omega, rfl, HCT.out.row, (Cn.zero _ _).congr (fun i _ x _ => (if_neg (by omega)).symm), fun _ => (by decide : (0 : Nat) < 256), Kept.refl _ _⟩
      case round =>
        obtain ⟨k, Z, hk, rfl, hrow, hcn, hlo, hkr⟩ := hrel
        have hkw : Kept [] w4 wr := HK5.out.step hkr (fun x hx => by simp at hx; subst hx; exact .inr HGB.out.2)
        by_cases hlt : k < n + p
        · have hcg := (HCT.out.out.keep hkr (by simpa using HCT.out.ne)).at hlt
          have hcb := (HV4.out.keep hkw (by simp)).at hlt
          unfold vB at hcb
          obtain ⟨gx, ox, rfl, hcx'⟩ := HX4.out.at hlt
          have hcx : wr.cell? ⟨gx, ox + k, none⟩ = some (.slice (if k < n then bo1 k else bo2 (k - n)) (gvn Lr Lm n k).length (if k < n then cp1 k else cp2 (k - n))) := cell_keep hkw hcx' (by simp)
          have ix : (k : Int) < ((n : Int) + (p : Int)) := by omega
          cases hgk : go k
          · have hlen : (gvn Lr Lm n k).length = lnf sz n k := HAL.out k hlt hgk
            have hrd : Reads wr (if k < n then bo1 k else bo2 (k - n)) (gvn Lr Lm n k) := by
              unfold gvn
              by_cases h : k < n
              · rw [if_pos h, if_pos h]; exact ((HLR.out k h).2.keep HK4.out).keep hkw
              · rw [if_neg h, if_neg h]; exact ((HLM.out (k - n) (by omega)).2.keep HK4.out).keep hkw
            have hby : Byts (gvn Lr Lm n k) := by
              unfold gvn
              split
              · exact BR.out.at _
              · exact BM.out.at _
            rw [hlen] at hcx
            obtain ⟨w6, hcp, hr6, hk6⟩ := pcopy_run wr B (po (lnf sz n) k) (lnf sz n k) (lnf sz n k) (ofs (lnf sz n) (n + p)) (if k < n then cp1 k else cp2 (k - n)) _ Z _ hrow (po_le _ hlt) hlen hrd
            have HN : Hid (∃ Z', Row w6 B (rg Z' (ofs (lnf sz n) (n + p))) ∧ Cn Z' (lnf sz n) (n + p) (fun i x => if i < k + 1 then aF go Lr Lm n i x else 0) ∧ (∀ q, Z' q < 256) ∧ Kept [B] w5 w6) := Hid.mk ⟨_, hr6, (hcn.cpy (k := k) (l := gvn Lr Lm n k)).congr (fun i _ x _ => by
              by_cases e : i = k
              · subst e
                rw [if_pos rfl, if_pos (by omega), aF, hgk, if_neg (by simp)]
              · rw [if_neg e]
                have : (i < k + 1) = (i < k) := by apply propext; omega
                simp only [this]), cpy_lo hlo _ _ hby, hkr.trans hk6⟩
            rw [hgk] at hcb
            obtain ⟨o, eo⟩ : ∃ o, o = po (lnf sz n) k := ⟨_, rfl⟩
            rw [← eo] at hcg hcp
            obtain ⟨l, el⟩ : ∃ l, l = lnf sz n k := ⟨_, rfl⟩
            rw [← el] at hcg hcp hcx
            obtain ⟨bx, eb⟩ : ∃ bx, bx = (if k < n then bo1 k else bo2 (k - n)) := ⟨_, rfl⟩
            rw [← eb] at hcp hcx
            obtain ⟨cx, ec⟩ : ∃ cx, cx = (if k < n then cp1 k else cp2 (k - n)) := ⟨_, rfl⟩
            rw [← ec] at hcp hcx
            clear hrow hcn hlo hkr hr6 hk6 hrd hby hlen hkw eo el eb ec hgk hcx'
            go_wp2
            obtain ⟨Z', q1, q2, q3, q4⟩ := HN.out
            exact ⟨⟨k + 1, Z', by omega, by go_num, q1, q2, q3, q4⟩, by simp [intOf]; omega⟩
          · have HN : Hid (∃ Z', Row wr B (rg Z' (ofs (lnf sz n) (n + p))) ∧ Cn Z' (lnf sz n) (n + p) (fun i x => if i < k + 1 then aF go Lr Lm n i x else 0) ∧ (∀ q, Z' q < 256) ∧ Kept [B] w5 wr) := Hid.mk ⟨Z, hrow, hcn.congr (fun i _ x _ => by
              by_cases e : i = k
              · subst e
                rw [if_neg (by omega), if_pos (by omega), aF, hgk, if_pos rfl]
              · have : (i < k + 1) = (i < k) := by apply propext; omega
                simp only [this]), hlo, hkr⟩
            rw [hgk] at hcb
            obtain ⟨o, eo⟩ : ∃ o, o = po (lnf sz n) k := ⟨_, rfl⟩
            rw [← eo] at hcg
            obtain ⟨l, el⟩ : ∃ l, l = lnf sz n k := ⟨_, rfl⟩
            rw [← el] at hcg
            clear hrow hcn hlo hkr hkw eo el hgk hcx' hcx
            go_wp2
            obtain ⟨Z', q1, q2, q3, q4⟩ := HN.out
            exact ⟨⟨k + 1, Z', by omega, by go_num, q1, q2, q3, q4⟩, by simp [intOf]; omega⟩
        · obtain rfl : k = n + p := by omega
          have HKW := Hid.mk hkw
          have HCT6 : Hid (Ct wr G B (n + p) (lnf sz n) Z) := Hid.mk (HCT.out.upd hrow hkr)
          have HCN6 : Hid (Cn Z (lnf sz n) (n + p) (aF go Lr Lm n)) := Hid.mk (hcn.congr (fun i hi x _ => if_pos hi))
          have HLO6 := Hid.mk hlo
          have HV6 := Hid.mk (HV4.out.keep hkw (by simp))
          clear hrow hcn hlo hkr hkw HX4 HV4 HCT HK5
          obtain ⟨X, Y, hgt⟩ := gt_there h1 h2 (by have := HC.out; omega : cnt go (n + p) ≤ p) (kF go n p) (n + p)
          have HGT := Hid.mk hgt
          clear hgt
          have HA0 : Hid (∀ i x, lnf sz n i ≤ x → aF go Lr Lm n i x = 0) := Hid.mk (fun i x hx => by
            unfold aF
            cases hg : go i
            · rw [if_neg (by simp)]
              by_cases hi : i < n + p
              · have := HAL.out i hi hg
                rw [List.getD_eq_getElem?_getD, List.getElem?_eq_none (by omega)]; rfl
              · have : gvn Lr Lm n i = [] := by
                  unfold gvn
                  rw [if_neg (by omega), List.getD_eq_getElem?_getD, List.getElem?_eq_none (by have := HL0.out; omega)]; rfl
                rw [this]; rfl
            · rfl)
          have HA2 : Hid (∀ i x, aF go Lr Lm n i x < 256) := Hid.mk (fun i x => by
            unfold aF
            split
            · decide
            · apply getD_lt
              unfold gvn
              split
              · exact BR.out.at _
              · exact BM.out.at _)
          have C8 := Hid.mk (fun w6 => pcauchy_any p n h2 h1 w6)
          have C9 := Hid.mk (fun w7 gf (hk : Kept [] wr w7) (hF : Fac w7 gf p n) => fill_any G B gg gf n p go (lnf sz n) Z (aF go Lr Lm n) X Y w7 (HCT6.out.keep hk (by simp) (by simp)) HCN6.out HLO6.out (lnf_le Hsz.out n) HA0.out (fun i x hg => by unfold aF; rw [hg]; rfl) HA2.out HGT.out h1 h2 (HV6.out.keep hk (by simp)) hF (by have := HC.out; omega))
          have HE : Hid (∀ wz Zz, Row wz B (rg Zz (ofs (lnf sz n) (n + p))) → Cn Zz (lnf sz n) (n + p) (oF go n (lnf sz n) (aF go Lr Lm n) (eF go n p Y (aF go Lr Lm n))) → (∀ q, Zz q < 256) → Kept [B] wr wz → RsPost w n p sz go Lr Lm (.returned (.tuple #[.slice (some ⟨G, 0, none⟩) (n + p) (n + p), .int .i64 0])) wz) := Hid.mk (fun wz Zz q1 q2 q3 q4 => by
            unfold RsPost
            rw [if_neg HP.out, if_neg HC.out]
            exact ⟨G, B, Zz, _, rfl, slv_eF (by have := HC.out; omega) HA2.out HGT.out, fun _ _ => eF_lt _ _ _ _ _ _ _, HCT6.out.upd q1 q4, q2, q3, by have := HK4.out.size; have := HGB.out; omega, by have := HK4.out.size; have := HGB.out; omega, (HK4.out.trans HKW.out).step q4 (fun x hx => by simp at hx; subst hx; exact .inr (by have := HK4.out.size; have := HGB.out; omega))⟩)
          have HB9 : Hid (B < wr.heap.size) := Hid.mk HCT6.out.row.lt
          go_wp2_with (first | (go_at_call 29; refine (C8.out _).mono ?_; rintro e w7 ⟨gf, rfl, hgf, hfc, hk7⟩; have hF7 : Fac w7 gf p n := fun i hi => ((hfc i hi).imp fun fo h => h.imp fun c h => ⟨h.1, h.2.1⟩)) | (go_at_call 36; refine (C9.out _ _ hk7 hF7).mono ?_; rintro e w8 ⟨rfl, Z8, hr8, hc8, hl8, hk8⟩))
          · have Hp0 := Hid.mk h
            clear h
            have HF : Hid (RsPost w n p sz go Lr Lm (.returned (.tuple #[.slice (some ⟨G, 0, none⟩) (n + p) (n + p), .int .i64 0])) w8) := Hid.mk (HE.out w8 Z8 hr8 (hc8.congr (fun i hi x _ => by
              have hin : i < n := by have := Hp0.out; omega
              unfold oF
              rw [if_pos hin]
              by_cases hg : go i = true
              · rw [if_pos ⟨hin, hg⟩, if_pos hg]
              · rw [if_neg (fun h => hg h.2), if_neg hg])) hl8 ((hk7.mono (by simp)).step hk8 (fun x hx => .inl hx)))
            clear hgf hfc hk7 hF7 hr8 hc8 hl8 hk8 C8 C9
            go_loopw [105] (fun i wr1 => i = .int .i64 0 ∧ wr1 = w8) (fun i _ => 0)
            case atStart => exact ⟨rfl, rfl⟩
            case round =>
              obtain ⟨rfl, hw⟩ := hrel
              obtain rfl := hw.symm
              have hd : decide ((0 : Int) < (p : Int)) = false := by have := Hp0.out; simp; omega
              have hd2 : ¬ 0 < p := by have := Hp0.out; omega
              go_wp2
              try rw [Exit.noGoto_ret]
              go_ret2
              have hF := HF.out
              have hp := Hp0.out
              subst hp
              exact hF
          · clear h
            have HK8 : Hid (Kept [B] wr w8) := Hid.mk ((hk7.mono (by simp)).step hk8 (fun x hx => .inl hx))
            have HCT8 : Hid (Ct w8 G B (n + p) (lnf sz n) Z8) := Hid.mk (HCT6.out.upd hr8 HK8.out)
            have HGG : Hid (gg ≠ B) := Hid.mk (by
              have := HGL.out
              have := HGB.out.2; omega)
            have HV8 := Hid.mk (HV6.out.keep HK8.out (by simpa using HGG.out))
            have HF8 : Hid (gf ≠ B ∧ ∀ i, i < p → ∃ fo c, w8.cell? ⟨gf, i, none⟩ = some (.slice fo n c) ∧ Reads w8 fo (rg (cf i) n) ∧ (0 < n → ∀ b off, fo = some ⟨b, off, none⟩ → b ≠ B)) := Hid.mk ⟨by have := HB9.out; omega, fun i hi => by
              obtain ⟨fo, c, q1, q2, q3⟩ := hfc i hi
              have hb : 0 < n → ∀ b off, fo = some ⟨b, off, none⟩ → b ≠ B := fun h b off e => by have := q3 h b off e; have := HB9.out; omega
              refine ⟨fo, c, cell_keep hk8 q1 (by have := HB9.out; simp; omega), ?_, hb⟩
              by_cases h0 : n = 0
              · rw [h0]; exact .inl rfl
              · exact q2.kept hk8 (fun g off e => by simpa using hb (by omega) g off e)⟩
            have HC8 : Hid (Cn Z8 (lnf sz n) (n + p) (fun k x => if k < n then (if go k then eF go n p Y (aF go Lr Lm n) k x else aF go Lr Lm n k x) else aF go Lr Lm n k x)) := Hid.mk (hc8.congr (fun i hi x _ => by
              by_cases hin : i < n
              · rw [if_pos hin]
                by_cases hg : go i = true
                · rw [if_pos ⟨hin, hg⟩, if_pos hg]
                · rw [if_neg (fun h => hg h.2), if_neg hg]
              · rw [if_neg hin, if_neg (fun h => hin h.1)]))
            have HL8 := Hid.mk hl8
            clear hgf hfc hk7 hF7 hr8 hc8 hl8 hk8 C8 C9
            obtain ⟨E, eE⟩ : ∃ E, E = eF go n p Y (aF go Lr Lm n) := ⟨_, rfl⟩
            have HEl : Hid (∀ j x, E j x < 256) := Hid.mk (fun j x => by rw [eE]; exact eF_lt _ _ _ _ _ _ _)
            rw [← eE] at HE HC8
            clear eE HGT
            obtain ⟨A, eA⟩ : ∃ A, A = aF go Lr Lm n := ⟨_, rfl⟩
            have HA1 : Hid (∀ i x, go i = true → A i x = 0) := Hid.mk (fun i x hg => by rw [eA]; unfold aF; rw [hg]; rfl)
            rw [← eA] at HE HC8 HA2
            clear eA HA0 HCN6
            obtain ⟨wo, rfl⟩ : ∃ wo, wo = wr := ⟨_, rfl⟩
            have Hln := Hid.mk (lnf_le Hsz.out n)
            go_loopw [105] (fun i wr1 => ∃ (k : Nat) (Z : Nat → Nat), k ≤ p ∧ i = .int .i64 (k : Int) ∧ Row wr1 B (rg Z (ofs (lnf sz n) (n + p))) ∧ Cn Z (lnf sz n) (n + p) (fun q x => if q < n then (if go q then E q x else A q x) else if q < n + k ∧ go q = true then sm (fun j => mu (cf (q - n) j) (rF go (lnf sz n) A E j x)) n else A q x) ∧ (∀ q, Z q < 256) ∧ Kept [B] w8 wr1) (fun i _ => p - (intOf i).toNat)
            case atStart => exact ⟨0, Z8, by omega, rfl, HCT8.out.row, HC8.out.congr (fun i _ x _ => by
              by_cases h : i < n
              · rw [if_pos h, if_pos h]
              · rw [if_neg h, if_neg h, if_neg (by omega)]), HL8.out, Kept.refl _ _⟩
            case round =>
              obtain ⟨k, Z', hk, rfl, hrow, hcn, hlo, hkr⟩ := hrel
              by_cases hlt : k < p
              · have hcg := (HCT8.out.out.keep hkr (by simpa using HCT8.out.ne)).at (i := n + k) (by omega)
                have hcb := (HV8.out.keep hkr (by simpa using HGG.out)).at (i := n + k) (by omega)
                unfold vB at hcb
                have ix : (k : Int) < (p : Int) := by omega
                have ix2 : ((n : Int) + (k : Int)) < ((n : Int) + (p : Int)) := by omega
                cases hgk : go (n + k)
                · have HN : Hid (∃ Z', Row wr B (rg Z' (ofs (lnf sz n) (n + p))) ∧ Cn Z' (lnf sz n) (n + p) (fun q x => if q < n then (if go q then E q x else A q x) else if q < n + (k + 1) ∧ go q = true then sm (fun j => mu (cf (q - n) j) (rF go (lnf sz n) A E j x)) n else A q x) ∧ (∀ q, Z' q < 256) ∧ Kept [B] w8 wr) := Hid.mk ⟨Z', hrow, hcn.congr (fun i _ x _ => by
                    by_cases h : i < n
                    · rw [if_pos h, if_pos h]
                    · rw [if_neg h, if_neg h]
                      by_cases e : i = n + k
                      · rw [if_neg (by omega), if_neg (by rw [e, hgk]; simp)]
                      · have : (i < n + (k + 1) ∧ go i = true) = (i < n + k ∧ go i = true) := by apply propext; constructor <;> (intro h; exact ⟨by omega, h.2⟩)
                        simp only [this]), hlo, hkr⟩
                  rw [hgk] at hcb
                  obtain ⟨o, eo⟩ : ∃ o, o = po (lnf sz n) (n + k) := ⟨_, rfl⟩
                  rw [← eo] at hcg
                  obtain ⟨l, el⟩ : ∃ l, l = lnf sz n (n + k) := ⟨_, rfl⟩
                  rw [← el] at hcg
                  clear hrow hcn hlo hkr eo el hgk
                  go_wp2
                  obtain ⟨Z', q1, q2, q3, q4⟩ := HN.out
                  exact ⟨⟨k + 1, Z', by omega, by go_num, q1, q2, q3, q4⟩, by simp [intOf]; omega⟩
                · obtain ⟨fo, c', hf1', hf2', hf3⟩ := HF8.out.2 k hlt
                  have hf1 := cell_keep hkr hf1' (by simpa using HF8.out.1)
                  have hf2 : Reads wr fo (rg (cf k) n) := by
                    by_cases h0 : n = 0
                    · rw [h0]; exact .inl rfl
                    · exact hf2'.kept hkr (fun g off e => by simpa using hf3 (by omega) g off e)
                  have Hc := Hid.mk (addSum_any B (po (lnf sz n) (n + k)) (lnf sz n (n + k)) (lnf sz n (n + k)) (ofs (lnf sz n) (n + p)) n c' n (n + p) fo (some ⟨G, 0, none⟩) (fun i => some ⟨B, po (lnf sz n) i, none⟩) (lnf sz n) Z' (rg (cf k) n) (fun j => rg (fun x => if go j then E j x else A j x) (lnf sz n j)) wr.drew (show Row wr.drew B _ from hrow) (po_le _ (by omega)) hlo
                    (rg_byts (fun x _ => cf_lo k x)) (rg_length _ _) (Nat.le_refl _) (show Reads wr.drew _ _ from hf2) hf3
                    (.inr ⟨G, 0, rfl, fun i hi => by rw [Nat.zero_add]; have h := (HCT8.out.out.keep hkr (by simpa using HCT8.out.ne)).at (i := i) (by omega); simp only [rg_length]; exact h⟩) (fun _ g off e => by cases e; exact HCT8.out.ne)
                    (fun i hi => ⟨rg_byts (fun x _ => by split; exact HEl.out i x; exact HA2.out i x), by rw [rg_length]; exact Nat.le_refl _, by rw [rg_length]; have := Hln.out i; omega⟩)
                    (fun i hi _ => by
                      refine ⟨show Reads wr.drew _ _ from ct_reads (N := n + p) (X := fun j x => if go j then E j x else A j x) hrow rfl (fun x hx => (hcn i (by omega) x hx).trans (if_pos hi)) (by omega), ?_⟩
                      rw [rg_length]
                      exact ct_apt (by omega))
                    (by have := Hln.out (n + k); omega) (by omega))
                  have HN : Hid (∀ w', Row w' B (rg (asm Z' (po (lnf sz n) (n + k)) (lnf sz n (n + k)) n (fun j => (rg (cf k) n).getD j 0) (fun j => rg (fun x => if go j then E j x else A j x) (lnf sz n j))) (ofs (lnf sz n) (n + p))) → Kept [B] wr.drew w' → ∃ Z', Row w' B (rg Z' (ofs (lnf sz n) (n + p))) ∧ Cn Z' (lnf sz n) (n + p) (fun q x => if q < n then (if go q then E q x else A q x) else if q < n + (k + 1) ∧ go q = true then sm (fun j => mu (cf (q - n) j) (rF go (lnf sz n) A E j x)) n else A q x) ∧ (∀ q, Z' q < 256) ∧ Kept [B] w8 w') := Hid.mk (fun w' q1 q2 => ⟨_, q1, (hcn.add (k := n + k) (M := n) (f := fun j => (rg (cf k) n).getD j 0) (L := fun j => rg (fun x => if go j then E j x else A j x) (lnf sz n j))).congr (fun i _ x _ => by
                    by_cases e : i = n + k
                    · subst e
                      simp only [if_true]
                      rw [if_neg (by omega), if_neg (by omega), if_neg (by omega), if_pos ⟨by omega, hgk⟩, HA1.out _ _ hgk, Nat.zero_xor, Nat.add_sub_cancel_left]
                      exact sm_congr _ (fun j hj => by rw [rg_getD _ _ _ hj, rg_rF])
                    · simp only [if_neg e]
                      by_cases h : i < n
                      · rw [if_pos h, if_pos h]
                      · rw [if_neg h, if_neg h]
                        have : (i < n + (k + 1) ∧ go i = true) = (i < n + k ∧ go i = true) := by apply propext; constructor <;> (intro h; exact ⟨by omega, h.2⟩)
                        simp only [this]), asm_lo hlo _ _ _ _ _, hkr.step q2.undrew (fun x hx => .inl hx)⟩)
                  rw [hgk] at hcb
                  obtain ⟨o, eo⟩ : ∃ o, o = po (lnf sz n) (n + k) := ⟨_, rfl⟩
                  rw [← eo] at hcg Hc HN
                  obtain ⟨l, el⟩ : ∃ l, l = lnf sz n (n + k) := ⟨_, rfl⟩
                  rw [← el] at hcg Hc HN
                  clear hrow hcn hlo hkr eo el hgk hf1' hf2' hf3 hf2
                  have hle : (n : Int) ≤ (n : Int) + (p : Int) := by omega
                  go_wp2
                  go_region_law ((go_simp; go_at_call 30; refine (Hc.out).mono ?_; rintro e w4 ⟨rfl, hrow, hk4⟩))
                  all_goals go_wp2
                  all_goals (obtain ⟨Z', q1, q2, q3, q4⟩ := HN.out _ hrow hk4)
                  all_goals exact ⟨⟨k + 1, Z', by omega, by go_num, q1, q2, q3, q4⟩, by simp [intOf]; omega⟩
              · obtain rfl : k = p := by omega
                have HZ := Hid.mk (HE.out wr Z' hrow (hcn.congr (fun i hi x _ => by
                  unfold oF
                  by_cases h : i < n
                  · rw [if_pos h, if_pos h]
                  · rw [if_neg h, if_neg h]
                    by_cases hg : go i = true
                    · rw [if_pos ⟨hi, hg⟩, if_pos hg]
                    · rw [if_neg (fun h => hg h.2), if_neg hg])) hlo (HK8.out.trans hkr))
                clear hrow hcn hlo hkr
                go_wp2
                try rw [Exit.noGoto_ret]
                go_ret2
                exact HZ.out
end Go.Proofs.Ytmgfapooanpgfaa
