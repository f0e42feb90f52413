import Derived.Test.YthhegomjipbdbaaGreatDooryG2Z
import Derived.Test.YthhegomjipbdbaaGreatDooryK0Z
namespace Go.Proofs.YthhegomjipbdbaaGreatDoor.Py
open Go.RowKit

/-- Values by a function. -/
def fl (f : Nat → Value) (n : Nat) : List Value := (List.range n).map f
theorem fl_length (f : Nat → Value) (n : Nat) : (fl f n).length = n := by simp [fl]
theorem fl_at (f : Nat → Value) (n i : Nat) (h : i < n) : (fl f n)[i]? = some (f i) := by simp [fl, h]
theorem fl_congr {f g : Nat → Value} {n : Nat} (h : ∀ i, i < n → f i = g i) : fl f n = fl g n := List.map_congr_left (fun i hi => h i (by simpa using hi))
theorem fl_rep (v : Value) (n : Nat) : List.replicate n v = fl (fun _ => v) n := by
  apply List.ext_getElem?
  intro i
  by_cases h : i < n
  · rw [fl_at _ _ _ h, List.getElem?_replicate, if_pos h]
  · rw [List.getElem?_eq_none (by simpa using h), List.getElem?_eq_none (by rw [fl_length]; omega)]
theorem fl_set (f : Nat → Value) (n k : Nat) (v : Value) : (fl f n).set k v = fl (fun i => if i = k then v else f i) n := by
  apply List.ext_getElem?
  intro i
  by_cases h : i < n
  · rw [List.getElem?_set, fl_at _ _ _ h, fl_at _ _ _ h, fl_length]
    by_cases e : k = i
    · subst e; simp [h]
    · rw [if_neg e, if_neg (Ne.symm e)]
  · rw [List.getElem?_eq_none (by simp [fl_length]; omega), List.getElem?_eq_none (by rw [fl_length]; omega)]
/-- A block of values. -/
def Vr (w : World) (g t n : Nat) (f : Nat → Value) : Prop := w.heap[g]? = some (.cells (fl f n).toArray t (0, 0))
theorem Vr.at {w : World} {g t n : Nat} {f : Nat → Value} (h : Vr w g t n f) {i : Nat} (hi : i < n) : w.cell? ⟨g, i, none⟩ = some (f i) := by
  unfold Vr at h
  rw [cell_of_row _ _ _ _ _ _ h, List.getElem?_toArray, fl_at _ _ _ hi]
theorem Vr.fz {w : World} {g t n : Nat} {f : Nat → Value} (h : Vr w g t n f) (i : Nat) : w.frozen? ⟨g, i, none⟩ = false := by
  unfold Vr at h
  simp [World.frozen?, h]
theorem Vr.keep {w w' : World} {g t n : Nat} {f : Nat → Value} {ks : List Nat} (h : Vr w g t n f) (hk : Kept ks w w') (hn : g ∉ ks) : Vr w' g t n f := hk.heap h hn
theorem Vr.lt {w : World} {g t n : Nat} {f : Nat → Value} (h : Vr w g t n f) : g < w.heap.size := lt_of_block h
theorem Vr.put {w : World} {g t n k : Nat} {f f' : Nat → Value} {v : Value} (h : Vr w g t n f) (hf : ∀ i, i < n → f' i = if i = k then v else f i) : Vr (w.setCell ⟨g, k, none⟩ v) g t n f' := by
  unfold Vr at h ⊢
  rw [heap_setCell_at h, List.setIfInBounds_toArray, fl_set, fl_congr hf]

/-- Where rows lie that are cut out of one list. -/
def ofs (ln : Nat → Nat) : Nat → Nat
  | 0 => 0
  | k + 1 => ofs ln k + ln k
def po (ln : Nat → Nat) (k : Nat) : Nat := if ln k = 0 then 0 else ofs ln k
theorem ofs_le {ln : Nat → Nat} {M : Nat} (h : ∀ i, ln i ≤ M) (k : Nat) : ofs ln k ≤ k * M := by
  induction k with
  | zero => simp [ofs]
  | succ k ih => have := h k; rw [ofs, Nat.succ_mul]; omega
theorem ofs_mono (ln : Nat → Nat) {i k : Nat} (h : i < k) : ofs ln i + ln i ≤ ofs ln k := by
  induction k with
  | zero => omega
  | succ k ih =>
    rw [ofs]
    by_cases e : i = k
    · subst e; omega
    · have := ih (by omega); omega
theorem po_le (ln : Nat → Nat) {i n : Nat} (h : i < n) : po ln i + ln i ≤ ofs ln n := by
  have := ofs_mono ln h
  unfold po
  split <;> omega

/-- Rows that are cut out of one list: the list of rows in the block g, their bytes in the block L. -/
structure Ct (w : World) (g L N : Nat) (ln : Nat → Nat) (Z : Nat → Nat) : Prop where
  out : Vr w g 28 N (fun k => .slice (some ⟨L, po ln k, none⟩) (ln k) (ln k))
  row : Row w L (rg Z (ofs ln N))
  ne : g ≠ L
theorem Ct.keep {w w' : World} {g L N : Nat} {ln Z : Nat → Nat} {ks : List Nat} (h : Ct w g L N ln Z) (hk : Kept ks w w') (h1 : g ∉ ks) (h2 : L ∉ ks) : Ct w' g L N ln Z := ⟨h.out.keep hk h1, h.row.keep hk h2, h.ne⟩

set_option maxHeartbeats 4000000 in
set_option maxRecDepth 1000000 in
theorem cut_any (ao : Option Addr) (N ca : Nat) (ln : Nat → Nat) (w : World) (hN : N ≤ 216) (hl : ∀ i, ln i ≤ 16777216) (hr : RdI w ao (fun i => (ln i : Int)) N) :
    Calls Tryz.prog 117 #[.slice ao N ca] w fun e w' => ∃ g L, e = .returned (.slice (some ⟨g, 0, none⟩) N N) ∧ Ct w' g L N ln (fun _ => 0) ∧ w.heap.size ≤ g ∧ w.heap.size ≤ L ∧ Kept [] w w' := by
  obtain ⟨i0, hi, hz0, hz1, hz2⟩ := info_parts Tryz.info5
  obtain ⟨j0, gi, gz0, gz1, gz2⟩ := info_parts Tryz.infoR
  have Hr := Hid.mk hr
  have Hl := Hid.mk hl
  clear hr hl
  go_enter Tryz.func117, Tryz.ntmps117
  go_wp2
  have Ho := Hid.mk (ofs_le Hl.out)
  go_loopw [3, 14] (fun t i wr => ∃ k : Nat, k ≤ N ∧ i = .int .i64 (k : Int) ∧ t = .int .i64 (ofs ln k : Int) ∧ wr = w) (fun _ i _ => N - (intOf i).toNat)
  case atStart => exact ⟨0, by omega, rfl, rfl, rfl⟩
  case round =>
    obtain ⟨k, hk, rfl, rfl, hw⟩ := hrel
    obtain rfl := hw.symm
    by_cases hlt : k < N
    · obtain ⟨g, off, rfl, hc⟩ := Hr.out.at hlt
      have hlk := Hl.out k
      have hok := Ho.out k
      have Hs : Hid (ofs ln (k + 1) = ofs ln k + ln k) := Hid.mk rfl
      have hb : k * 16777216 ≤ 3623878656 := by omega
      obtain ⟨x, e⟩ : ∃ x, x = ofs ln k := ⟨_, rfl⟩
      rw [← e] at hok Hs ⊢
      clear e
      obtain ⟨y, e⟩ : ∃ y, y = ln k := ⟨_, rfl⟩
      rw [← e] at hlk hc Hs
      clear e
      have ix : (k : Int) < (N : Int) := by omega
      go_wp2
      go_roundw
      case rel => exact ⟨k + 1, by omega, by go_num, by rw [Hs.out]; go_num, trivial⟩
      case measure => simp [intOf]; omega
    · obtain rfl : N = k := by omega
      have HT : Hid (ofs ln N ≤ 3623878656) := Hid.mk (by have := Ho.out N; omega)
      obtain ⟨T, eT⟩ : ∃ T, T = ofs ln N := ⟨_, rfl⟩
      have ET := Hid.mk eT
      rw [← eT] at HT ⊢
      clear eT
      have hT := HT.out
      go_wp2_with (first | (at_make; refine wpList_make_full _ rfl _ _ 28 rfl 0 5 i0 (.int .u8 0) 1 Tryz.underlying28 hi hz0 hz1 _ _ _ _ T rfl rfl (by omega) (by omega) (by rw [hz2]; omega) (by unfold maxLen; omega) (by omega) ?_; intro w2 ho2 hg2) | (at_make; refine wpList_make_full _ rfl _ _ 103 rfl 0 28 j0 (.slice none 0 0) 1 Tryz.underlying103 gi gz0 gz1 _ _ _ _ N rfl rfl (by omega) (by omega) (by rw [gz2]; omega) (by unfold maxLen; omega) (by omega) ?_; intro w3 ho3 hg3))
      clear hi hz0 hz1 hz2 gi gz0 gz1 gz2
      have hk2 := Kept.of_grown hg2
      have hk3 := Kept.of_grown hg3
      have hr2 := row_heap ho2 rfl
      rw [madeBytes, show List.replicate T (byt 0) = (rg (fun _ => 0) T).map byt from rg_none T] at hr2
      have hr3 := row_heap ho3 rfl
      rw [show (madeCells (Value.slice none 0 0).cells (N * 1)).toList = List.replicate N (.slice none 0 0) by rw [Nat.mul_one]; exact toList_madeCells_one _ _, fl_rep] at hr3
      have HR : Hid (Row w3 w.heap.size (rg (fun _ => 0) T)) := Hid.mk (hk3.heap hr2 (by simp))
      have HV : Hid (Vr w3 w2.heap.size 28 N (fun _ => .slice none 0 0)) := Hid.mk hr3
      have HK : Hid (Kept [] w w3) := Hid.mk ((hk2.mono (by simp)).trans (hk3.mono (by simp)))
      have HN : Hid (w.heap.size < w2.heap.size) := Hid.mk (lt_of_block hr2)
      obtain ⟨G, eG⟩ : ∃ G, G = w2.heap.size := ⟨_, rfl⟩
      rw [← eG] at HV HN ⊢
      obtain ⟨B, eB⟩ : ∃ B, B = w.heap.size := ⟨_, rfl⟩
      rw [← eB] at HR HN ⊢
      have EB := Hid.mk eB
      clear hk2 hk3 hr2 hr3 ho2 ho3 hg2 hg3 eG eB
      go_loopw [7, 29] (fun t i wr => ∃ k : Nat, k ≤ N ∧ i = .int .i64 (k : Int) ∧ t = .int .i64 (ofs ln k : Int) ∧ Row wr B (rg (fun _ => 0) T) ∧ Vr wr G 28 N (fun j => if j < k then .slice (some ⟨B, po ln j, none⟩) (ln j) (ln j) else .slice none 0 0) ∧ Kept [] w wr) (fun _ i _ => N - (intOf i).toNat)
      case atStart => exact ⟨0, by omega, rfl, rfl, HR.out, by unfold Vr; rw [fl_congr (fun i _ => if_neg (by omega))]; exact HV.out, HK.out⟩
      case round =>
        obtain ⟨k, hk, rfl, rfl, hrow, hv, hkr⟩ := hrel
        by_cases hlt : k < N
        · obtain ⟨g, off, rfl, hc0⟩ := Hr.out.at hlt
          have hc := cell_keep hkr hc0 (by simp)
          have hlk := Hl.out k
          have hok := Ho.out k
          have hT2 := ofs_mono ln hlt
          rw [← ET.out] at hT2
          have Hs : Hid (ofs ln (k + 1) = ofs ln k + ln k) := Hid.mk rfl
          have hb : k * 16777216 ≤ 3623878656 := by omega
          obtain ⟨u, hu⟩ : ∃ u, wr.cell? ⟨G, k, none⟩ = some u := ⟨_, hv.at hlt⟩
          have hfz := hv.fz k
          have Hrow : Hid (∀ v, Row (wr.setCell ⟨G, k, none⟩ v) B (rg (fun _ => 0) T)) := Hid.mk (fun v => hrow.keep ((Kept.refl [G] wr).setCell (p := ⟨G, k, none⟩) (.inl (by simp)) v) (by have := HN.out; simp; omega))
          have Hkr : Hid (∀ v, Kept [] w (wr.setCell ⟨G, k, none⟩ v)) := Hid.mk (fun v => hkr.setCell (p := ⟨G, k, none⟩) (.inr (by have := HN.out; have := EB.out; show _ ≤ G; omega)) v)
          have Hv : Hid (Vr (wr.setCell ⟨G, k, none⟩ (.slice (some ⟨B, po ln k, none⟩) (ln k) (ln k))) G 28 N (fun j => if j < k + 1 then .slice (some ⟨B, po ln j, none⟩) (ln j) (ln j) else .slice none 0 0)) := Hid.mk (hv.put (fun i _ => by
            by_cases e : i = k
            · subst e; rw [if_pos (by omega), if_pos rfl]
            · rw [if_neg e]
              have : (i < k + 1) = (i < k) := by apply propext; omega
              simp only [this]))
          have Hp0 : Hid (ln k = 0 → po ln k = 0) := Hid.mk (fun h => if_pos h)
          have Hp1 : Hid (ln k ≠ 0 → po ln k = ofs ln k) := Hid.mk (fun h => if_neg h)
          clear hrow hv hkr hc0
          obtain ⟨x, e⟩ : ∃ x, x = ofs ln k := ⟨_, rfl⟩
          rw [← e] at hok Hs hT2 Hp1 ⊢
          clear e
          obtain ⟨y, e⟩ : ∃ y, y = ln k := ⟨_, rfl⟩
          rw [← e] at hlk hc Hs hT2 Hp0 Hp1 Hv
          clear e
          have ix : (k : Int) < (N : Int) := by omega
          by_cases hy : y = 0
          · rw [Hp0.out hy] at Hv
            subst hy
            clear Hp0 Hp1
            go_wp2
            go_roundw
            case rel => exact ⟨k + 1, by omega, by go_num, by rw [Hs.out]; go_num, Hrow.out _, Hv.out, Hkr.out _⟩
            case measure => simp [intOf]; omega
          · rw [Hp1.out hy] at Hv
            clear Hp0 Hp1
            have hy2 : ¬ x = x + y := by omega
            go_wp2
            go_roundw
            case rel => exact ⟨k + 1, by omega, by go_num, by rw [Hs.out]; go_num, Hrow.out _, Hv.out, Hkr.out _⟩
            case measure => simp [intOf]; omega
        · obtain rfl : N = k := by omega
          have HZ : Hid (Ct wr G B N ln (fun _ => 0)) := Hid.mk ⟨by unfold Vr at hv ⊢; rw [hv, fl_congr (fun i hi => if_pos hi)], by rw [← ET.out]; exact hrow, by have := HN.out; omega⟩
          have Hkr := Hid.mk hkr
          clear hrow hv hkr
          go_wp2
          go_ret
          exact ⟨G, B, rfl, HZ.out, by have := HN.out; have := EB.out; omega, by have := EB.out; omega, Hkr.out⟩
end Go.Proofs.YthhegomjipbdbaaGreatDoor.Py

namespace Go.Proofs.YthhegomjipbdbaaGreatDoor.Py
open Go.RowKit

/-- What rows that are cut out of one list hold. -/
def Cn (Z : Nat → Nat) (ln : Nat → Nat) (N : Nat) (X : Nat → Nat → Nat) : Prop := ∀ i, i < N → ∀ x, x < ln i → Z (ofs ln i + x) = X i x
theorem Cn.add {Z : Nat → Nat} {ln : Nat → Nat} {N k M : Nat} {X : Nat → Nat → Nat} {f : Nat → Nat} {L : Nat → List Nat} (h : Cn Z ln N X) : Cn (asm Z (po ln k) (ln k) M f L) ln N (fun i x => if i = k then X k x ^^^ sm (fun j => mu (f j) ((L j).getD x 0)) M else X i x) := by
  intro i hi x hx
  by_cases e : i = k
  · subst e
    have hp : po ln i = ofs ln i := if_neg (by omega)
    simp only [asm, hp, if_true]
    rw [if_pos (by omega), h i hi x hx, Nat.add_sub_cancel_left]
  · simp only [if_neg e]
    rw [asm_out, h i hi x hx]
    unfold po
    by_cases h0 : ln k = 0
    · rw [if_pos h0]; omega
    · rw [if_neg h0]
      rcases Nat.lt_or_gt_of_ne e with h1 | h1
      · have := ofs_mono ln h1; omega
      · have := ofs_mono ln h1; omega
theorem Cn.congr {Z : Nat → Nat} {ln : Nat → Nat} {N : Nat} {X Y : Nat → Nat → Nat} (h : Cn Z ln N X) (e : ∀ i, i < N → ∀ x, x < ln i → X i x = Y i x) : Cn Z ln N Y := fun i hi x hx => (h i hi x hx).trans (e i hi x hx)
theorem Cn.zero (ln : Nat → Nat) (N : Nat) : Cn (fun _ => 0) ln N (fun _ _ => 0) := fun _ _ _ _ => rfl
theorem Ct.upd {w w' : World} {g L N : Nat} {ln Z Z' : Nat → Nat} (h : Ct w g L N ln Z) (hr : Row w' L (rg Z' (ofs ln N))) (hk : Kept [L] w w') : Ct w' g L N ln Z' := ⟨h.out.keep hk (by simpa using h.ne), hr, h.ne⟩

set_option maxHeartbeats 4000000 in
set_option maxRecDepth 1000000 in
theorem pcauchy_any (p n : Nat) (hp : p ≤ 16) (hn : n ≤ 200) (w : World) :
    Calls Tryz.prog 119 #[.int .i64 (p : Int), .int .i64 (n : Int)] w fun e w' => ∃ g, e = .returned (.slice (some ⟨g, 0, none⟩) p p) ∧ w.heap.size ≤ g ∧ (∀ i, i < p → ∃ fo c, w'.cell? ⟨g, i, none⟩ = some (.slice fo n c) ∧ Reads w' fo (rg (cf i) n) ∧ (0 < n → ∀ b off, fo = some ⟨b, off, none⟩ → w.heap.size ≤ b)) ∧ Kept [] w w' := by
  obtain ⟨j0, gi, gz0, gz1, gz2⟩ := info_parts Tryz.infoR
  by_cases h0 : p = 0 ∨ n = 0
  · have hb : (((p : Int) == 0) || ((n : Int) == 0)) = true := by simp; omega
    have HH : Hid (∀ w2, w2.ownsRow 0 28 1 (.slice (some ⟨w.heap.size, 0, none⟩) p p) p (madeCells (Value.slice none 0 0).cells (p * 1)).toList → ∀ i, i < p → ∃ fo c, w2.cell? ⟨w.heap.size, i, none⟩ = some (.slice fo n c) ∧ Reads w2 fo (rg (cf i) n) ∧ (0 < n → ∀ b off, fo = some ⟨b, off, none⟩ → w.heap.size ≤ b)) := Hid.mk (by
      intro w2 ho2 i hi
      obtain rfl : n = 0 := by omega
      have hr3 := row_heap ho2 rfl
      rw [show (madeCells (Value.slice none 0 0).cells (p * 1)).toList = List.replicate p (.slice none 0 0) by rw [Nat.mul_one]; exact toList_madeCells_one _ _, fl_rep] at hr3
      have hv : Vr w2 w.heap.size 28 p (fun _ => .slice none 0 0) := hr3
      exact ⟨none, 0, hv.at hi, .inl rfl, fun h => by omega⟩)
    by_cases hp0 : p = 0
    · subst hp0
      clear hb h0
      go_enter Tryz.func119, Tryz.ntmps119
      go_wp2_with (at_make; refine wpList_make_full _ rfl _ _ 103 rfl 0 28 j0 (.slice none 0 0) 1 Tryz.underlying103 gi gz0 gz1 _ _ _ _ 0 rfl rfl (by omega) (by omega) (by rw [gz2]; omega) (by unfold maxLen; omega) (by omega) ?_; intro w3 ho3 hg3)
      go_ret
      exact ⟨_, rfl, Nat.le_refl _, HH.out _ ho3, (Kept.of_grown hg3).mono (by simp)⟩
    · obtain rfl : n = 0 := by omega
      have hp1 : ((p : Int) == 0) = false := by simp; omega
      clear hb h0
      go_enter Tryz.func119, Tryz.ntmps119
      go_wp2_with (at_make; refine wpList_make_full _ rfl _ _ 103 rfl 0 28 j0 (.slice none 0 0) 1 Tryz.underlying103 gi gz0 gz1 _ _ _ _ p rfl rfl (by omega) (by omega) (by rw [gz2]; omega) (by unfold maxLen; omega) (by omega) ?_; intro w3 ho3 hg3)
      go_ret
      exact ⟨_, rfl, Nat.le_refl _, HH.out _ ho3, (Kept.of_grown hg3).mono (by simp)⟩
  · have hp1 : ((p : Int) == 0) = false := by simp; omega
    have hn1 : ((n : Int) == 0) = false := by simp; omega
    have C := Hid.mk (cauchy_ok p n w (by omega) (by omega) (by omega))
    clear gi gz0 gz1 gz2
    go_enter Tryz.func119, Tryz.ntmps119
    go_wp2_with (go_at_call 137; refine C.out.mono ?_; rintro e w1 ⟨g, bs, rfl, hM, hg, hbs, hk⟩)
    go_ret
    refine ⟨g, rfl, hg, fun i hi => ⟨_, _, hM.out i hi, (hM.row i hi).reads, fun _ b off e => ?_⟩, hk⟩
    cases e
    exact hbs i hi
end Go.Proofs.YthhegomjipbdbaaGreatDoor.Py

namespace Go.Proofs.YthhegomjipbdbaaGreatDoor.Py
open Go.RowKit

/-- Rows that are read, with their room. -/
def MC (w : World) (ao : Option Addr) (L : List (List Nat)) : Prop :=
  L = [] ∨ ∃ g off, ao = some ⟨g, off, none⟩ ∧ ∀ i, i < L.length → ∃ bo cap, w.cell? ⟨g, off + i, none⟩ = some (.slice bo (L.getD i []).length cap) ∧ (L.getD i []).length ≤ cap ∧ Reads w bo (L.getD i [])
theorem MC.keep {w w' : World} {ao : Option Addr} {L : List (List Nat)} (h : MC w ao L) (hk : Kept [] w w') : MC w' ao L := by
  rcases h with h | ⟨g, off, rfl, hc⟩
  · exact .inl h
  · refine .inr ⟨g, off, rfl, fun i hi => ?_⟩
    obtain ⟨bo, cap, h1, h2, h3⟩ := hc i hi
    exact ⟨bo, cap, cell_keep hk h1 (by simp), h2, h3.keep hk⟩
theorem MC.at {w : World} {ao : Option Addr} {L : List (List Nat)} (h : MC w ao L) {i : Nat} (hi : i < L.length) :
    ∃ g off bo cap, ao = some ⟨g, off, none⟩ ∧ w.cell? ⟨g, off + i, none⟩ = some (.slice bo (L.getD i []).length cap) ∧ (L.getD i []).length ≤ cap ∧ Reads w bo (L.getD i []) := by
  rcases h with h | ⟨g, off, h, hc⟩
  · subst h; simp at hi
  · obtain ⟨bo, cap, h1, h2, h3⟩ := hc i hi
    exact ⟨g, off, bo, cap, h, h1, h2, h3⟩
/-- Their view: each row's place and room, chosen. -/
theorem MC.view {w : World} {ao : Option Addr} {L : List (List Nat)} (h : MC w ao L) : ∃ (bo : Nat → Option Addr) (cp : Nat → Nat), Rv w ao L.length bo (fun j => (L.getD j []).length) cp ∧ ∀ j, j < L.length → (L.getD j []).length ≤ cp j ∧ Reads w (bo j) (L.getD j []) := by
  rcases h with h | ⟨g, off, rfl, hc⟩
  · subst h; exact ⟨fun _ => none, fun _ => 0, .inl rfl, fun j hj => by simp at hj⟩
  · have h1 : ∀ i, ∃ q : Option Addr × Nat, i < L.length → w.cell? ⟨g, off + i, none⟩ = some (.slice q.1 (L.getD i []).length q.2) ∧ (L.getD i []).length ≤ q.2 ∧ Reads w q.1 (L.getD i []) := fun i => by
      by_cases hi : i < L.length
      · obtain ⟨bo, cap, h⟩ := hc i hi
        exact ⟨(bo, cap), fun _ => h⟩
      · exact ⟨(none, 0), fun h => absurd h hi⟩
    obtain ⟨q, hq⟩ := Classical.axiomOfChoice h1
    exact ⟨fun i => (q i).1, fun i => (q i).2, .inr ⟨g, off, rfl, fun j hj => (hq j hj).1⟩, fun j hj => (hq j hj).2⟩

/-- The greatest of some numbers. -/
def wx (ln : Nat → Nat) : Nat → Nat
  | 0 => 0
  | k + 1 => max (wx ln k) (ln k)
theorem wx_ge (ln : Nat → Nat) {i k : Nat} (h : i < k) : ln i ≤ wx ln k := by
  induction k with
  | zero => omega
  | succ k ih =>
    rw [wx]
    by_cases e : i = k
    · subst e; omega
    · have := ih (by omega); omega
theorem wx_le {ln : Nat → Nat} {k M : Nat} (h : ∀ i, i < k → ln i ≤ M) : wx ln k ≤ M := by
  induction k with
  | zero => simp [wx]
  | succ k ih =>
    rw [wx]
    have := ih (fun i hi => h i (by omega))
    have := h k (by omega)
    omega
theorem wx_congr {f g : Nat → Nat} {k : Nat} (h : ∀ i, i < k → f i = g i) : wx f k = wx g k := by
  induction k with
  | zero => rfl
  | succ k ih => rw [wx, wx, ih (fun i hi => h i (by omega)), h k (by omega)]
/-- The width of rows. -/
def wdt (L : List (List Nat)) : Nat := wx (fun j => (L.getD j []).length) L.length
/-- A byte of a row more. -/
def mk (L : List (List Nat)) (i x : Nat) : Nat := sm (fun j => mu (cf i j) (fn L j x)) L.length
theorem mk_lt (L : List (List Nat)) (i x : Nat) : mk L i x < 256 := sm_lt _ _ (fun _ _ => mu_lt _ _)

/-- What Make comes to. -/
def MkPost (w : World) (p : Nat) (L : List (List Nat)) (e : Ending) (w' : World) : Prop :=
  if wdt L ≤ 16777216 then ∃ g B Z, e = .returned (.tuple #[.slice (some ⟨g, 0, none⟩) p p, .int .i64 0]) ∧ Ct w' g B p (fun _ => wdt L) Z ∧ Cn Z (fun _ => wdt L) p (mk L) ∧ (∀ q, Z q < 256) ∧ w.heap.size ≤ g ∧ w.heap.size ≤ B ∧ Kept [] w w'
  else e = .returned (.tuple #[.slice none 0 0, .int .i64 52]) ∧ Kept [] w w'

theorem max_int (x y : Nat) : (if x < y then (y : Int) else (x : Int)) = ((max x y : Nat) : Int) := by
  split <;> omega
theorem mkC_next (L : List (List Nat)) (k : Nat) (i x : Nat) (hi : i ≠ k) : (if i < k then mk L i x else 0) = (if i < k + 1 then mk L i x else 0) := by
  have : (i < k + 1) = (i < k) := by apply propext; omega
  simp only [this]

set_option maxHeartbeats 8000000 in
set_option maxRecDepth 1000000 in
theorem make_any (ao : Option Addr) (N ca p : Nat) (L : List (List Nat)) (w : World) (hL : MC w ao L) (bL : Bm L) (hN : L.length = N) (h1 : N ≤ 200) (hp : p ≤ 16) (hj : ∀ j, j < N → (L.getD j []).length ≤ 140737488355328) :
    Calls Tryz.prog 95 #[.slice ao N ca, .int .i64 (p : Int)] w fun e w' => MkPost w p L e w' := by
  have Hj := Hid.mk hj
  have HL := Hid.mk hL
  have HN := Hid.mk hN
  have BL := Hid.mk bL
  clear hL hN bL hj
  have d1 : decide ((200 : Int) < (N : Int)) = false := by simp; omega
  have d2 : decide ((p : Int) < 0) = false := by simp
  have d3 : decide ((16 : Int) < (p : Int)) = false := by simp; omega
  go_enter Tryz.func95, Tryz.ntmps95
  go_wp2
  go_loopw [6, 26] (fun t i wr => ∃ k : Nat, k ≤ N ∧ i = .int .i64 (k : Int) ∧ t = .int .i64 (wx (fun j => (L.getD j []).length) k : Int) ∧ wr = w) (fun _ i _ => N - (intOf i).toNat)
  case atStart => exact ⟨0, by omega, rfl, rfl, rfl⟩
  case round =>
    obtain ⟨k, hk, rfl, rfl, hw⟩ := hrel
    obtain rfl := hw.symm
    by_cases hlt : k < N
    · obtain ⟨g, off, bo, cap, rfl, hc, _, _⟩ := HL.out.at (i := k) (by have := HN.out; omega)
      have hlk := Hj.out k hlt
      have hok : wx (fun j => (L.getD j []).length) k ≤ 140737488355328 := wx_le (fun i hi => Hj.out i (by omega))
      have Hs : Hid (wx (fun j => (L.getD j []).length) (k + 1) = max (wx (fun j => (L.getD j []).length) k) (L.getD k []).length) := Hid.mk rfl
      obtain ⟨x, e⟩ : ∃ x, x = wx (fun j => (L.getD j []).length) k := ⟨_, rfl⟩
      rw [← e] at hok Hs ⊢
      clear e
      obtain ⟨y, e⟩ : ∃ y, y = (L.getD k []).length := ⟨_, rfl⟩
      rw [← e] at hlk hc Hs
      clear e
      have ix : (k : Int) < (N : Int) := by omega
      go_wp2
      go_roundw
      case rel => exact ⟨k + 1, by omega, by go_num, by rw [Hs.out]; first | (rw [← max_int]; done) | (congr 1; omega), trivial⟩
      case measure => simp [intOf]; omega
    · obtain rfl : N = k := by omega
      have EW : Hid (wdt L = wx (fun j => (L.getD j []).length) N) := Hid.mk (by have := HN.out; unfold wdt; rw [this])
      rw [← EW.out]
      clear EW
      obtain ⟨W, eW⟩ : ∃ W, W = wdt L := ⟨_, rfl⟩
      rw [← eW]
      have EW := Hid.mk eW
      clear eW
      by_cases hW : W ≤ 16777216
      · have C1 := Hid.mk (repeat_any w.heap.size 0 1 p W hp (w.alloc (.cells #[.int .i64 (W : Int)] 3)) (by rw [cell_of_row _ _ _ _ _ _ (heap_alloc_new w _)]; rfl))
        have K1 : Hid (Kept [] w (w.alloc (.cells #[.int .i64 (W : Int)] 3))) := Hid.mk ((Kept.refl [] w).alloc _)
        have C2 := Hid.mk (fun w1 g (h : RdI w1 (some ⟨g, 0, none⟩) (fun _ => (W : Int)) p) => cut_any (some ⟨g, 0, none⟩) p p (fun _ => W) w1 (by omega) (fun _ => hW) h)
        have C3 := Hid.mk (fun w2 => pcauchy_any p N hp h1 w2)
        have HW := Hid.mk hW
        go_wp2_with (first | (go_at_call 118; refine C1.out.mono ?_; rintro e w1 ⟨g1, rfl, hr1, hg1, hk1⟩) | (go_at_call 117; refine (C2.out _ _ hr1).mono ?_; rintro e w2 ⟨G, B, rfl, hct, hG, hB, hk2⟩) | (go_at_call 119; refine (C3.out _).mono ?_; rintro e w3 ⟨gf, rfl, hgf, hfc, hk3⟩))
        have hKw1 := (K1.out.trans hk1)
        have hKw2 := hKw1.trans hk2
        have HB : Hid (w.heap.size ≤ B ∧ w.heap.size ≤ G ∧ B < w2.heap.size) := Hid.mk ⟨by have := hKw1.size; omega, by have := hKw1.size; omega, hct.row.lt⟩
        have HCT : Hid (Ct w3 G B p (fun _ => W) (fun _ => 0)) := Hid.mk (hct.keep hk3 (by simp) (by simp))
        have HKw3 := Hid.mk (hKw2.trans hk3)
        have HF : Hid (∀ i, i < p → ∃ fo c, w3.cell? ⟨gf, i, none⟩ = some (.slice fo N c) ∧ Reads w3 fo (rg (cf i) N) ∧ (0 < N → ∀ b off, fo = some ⟨b, off, none⟩ → b ≠ B)) := Hid.mk (fun i hi => by
          obtain ⟨fo, c, h1, h2, h3⟩ := hfc i hi
          exact ⟨fo, c, h1, h2, fun h b off e => by have := h3 h b off e; have := hct.row.lt; omega⟩)
        have Hgf : Hid (gf ≠ B) := Hid.mk (by have := hct.row.lt; omega)
        have HM : Hid (MC w3 ao L) := Hid.mk (HL.out.keep HKw3.out)
        obtain ⟨bo, cp, hv, hq⟩ := HM.out.view
        have HV := Hid.mk hv
        have HQ := Hid.mk hq
        have HAo : Hid (0 < N → ∀ g off, ao = some ⟨g, off, none⟩ → g ≠ B) := Hid.mk (fun h0 g off e => by
          obtain ⟨g2, off2, b2, c2, e2, hc2, _⟩ := HL.out.at (i := 0) (by have := HN.out; omega)
          have h8 : g2 < w.heap.size := World.block_lt_of_cell? w _ hc2
          have := HB.out.1
          rw [e] at e2
          cases e2
          omega)
        have HBo : Hid (∀ j, j < N → (L.getD j []) ≠ [] → ∀ g off, bo j = some ⟨g, off, none⟩ → g ≠ B) := Hid.mk (fun j hj hne g off e => by
          have hjL : j < L.length := by have := HN.out; omega
          obtain ⟨g2, off2, b2, c2, e2, hc2, _, hrd⟩ := HL.out.at (i := j) hjL
          have hcell := cell_keep HKw3.out hc2 (by simp)
          rcases hv with h | ⟨g3, off3, e3, hc3⟩
          · omega
          · rw [e2] at e3
            cases e3
            have := hc3 j hjL
            rw [hcell] at this
            injection this with this
            injection this with h1 h2 h3
            rw [← h1] at e
            subst e
            rcases hrd with h | ⟨g4, off4, e4, hc4⟩
            · exact absurd h hne
            · cases e4
              have hl : 0 < (L.getD j []).length := by
                cases h : L.getD j [] with
                | nil => exact absurd h hne
                | cons a b => simp
              have h8 : g < w.heap.size := World.block_lt_of_cell? w _ (hc4 0 hl)
              have := HB.out.1
              omega)
        clear hct hgf hfc hk3 hk2 hk1 hr1 hg1 hG hB hKw1 hKw2 C1 C2 C3 K1 hv hq
        go_loopw [48] (fun i wr => ∃ (k : Nat) (Z : Nat → Nat), k ≤ p ∧ i = .int .i64 (k : Int) ∧ Row wr B (rg Z (ofs (fun _ => W) p)) ∧ Cn Z (fun _ => W) p (fun i x => if i < k then mk L i x else 0) ∧ (∀ q, Z q < 256) ∧ Kept [B] w3 wr) (fun i _ => p - (intOf i).toNat)
        case atStart => exact ⟨0, fun _ => 0, by omega, rfl, HCT.out.row, (Cn.zero _ _).congr (fun i _ x _ => (if_neg (by omega)).symm), fun _ => (by decide : (0 : Nat) < 256), Kept.refl _ _⟩
        case round =>
          obtain ⟨k, Z, hk, rfl, hrow, hcn, hlo, hkr⟩ := hrel
          by_cases hlt : k < p
          · obtain ⟨fo, c, hf1, hf2, hf3⟩ := HF.out k hlt
            have hcf := cell_keep hkr hf1 (by simpa using Hgf.out)
            have hcm := cell_keep hkr (HCT.out.out.at hlt) (by simpa using HCT.out.ne)
            have hrf : Reads wr fo (rg (cf k) N) := by
              by_cases h0 : N = 0
              · subst h0; exact .inl rfl
              · exact hf2.kept hkr (fun g off e => by simpa using hf3 (by omega) g off e)
            have Hc := Hid.mk (addSum_any B (po (fun _ => W) k) W W (ofs (fun _ => W) p) N c N ca fo ao bo cp Z (rg (cf k) N) (fun j => L.getD j []) wr hrow (po_le (fun _ => W) hlt) hlo (rg_byts (fun j _ => cf_lo k j)) (rg_length _ _) (Nat.le_refl _) hrf (fun h g off e => hf3 h g off e)
              (by rcases HV.out with h | ⟨g, off, e, hc⟩
                  · exact .inl (by rw [← HN.out]; exact h)
                  · by_cases h0 : N = 0
                    · exact .inl h0
                    · exact .inr ⟨g, off, e, fun j hj => cell_keep hkr (hc j (by rw [HN.out]; exact hj)) (by simpa using HAo.out (by omega) g off e)⟩)
              HAo.out (fun j hj => ⟨BL.out.at j, (HQ.out j (by rw [HN.out]; exact hj)).1, Hj.out j hj⟩)
              (fun j hj _ => by
                by_cases h0 : L.getD j [] = []
                · simp only [h0]
                  exact ⟨.inl rfl, fun h => absurd h (by simp)⟩
                · exact ⟨(HQ.out j (by rw [HN.out]; exact hj)).2.kept hkr (fun g off e => by simpa using HBo.out j hj h0 g off e), fun _ g off e => .inl (HBo.out j hj h0 g off e)⟩)
              (by omega) (by omega))
            have HZ : Hid (∀ w', Row w' B (rg (asm Z (po (fun _ => W) k) W N (fun j => (rg (cf k) N).getD j 0) (fun j => L.getD j [])) (ofs (fun _ => W) p)) → Kept [B] wr w' → ∃ Z', Row w' B (rg Z' (ofs (fun _ => W) p)) ∧ Cn Z' (fun _ => W) p (fun i x => if i < k + 1 then mk L i x else 0) ∧ (∀ q, Z' q < 256) ∧ Kept [B] w3 w') := Hid.mk (fun w' h1 h2 => ⟨_, h1, (hcn.add (k := k) (M := N) (f := fun j => (rg (cf k) N).getD j 0) (L := fun j => L.getD j [])).congr (fun i _ x _ => by
              by_cases e : i = k
              · subst e
                simp only [if_true]
                rw [if_neg (by omega), if_pos (by omega), Nat.zero_xor, mk, HN.out]
                exact sm_congr _ (fun j hj => by rw [rg_getD _ _ _ hj]; rfl)
              · simp only [if_neg e]
                exact mkC_next L k i x e), asm_lo hlo _ _ _ _ _, hkr.trans h2⟩)
            clear hrow hcn hlo hkr hf1 hf2 hf3 hrf
            have ix : (k : Int) < (p : Int) := by omega
            obtain ⟨o, eo⟩ : ∃ o, o = po (fun _ => W) k := ⟨_, rfl⟩
            rw [← eo] at hcm Hc HZ
            clear eo
            go_wp2_with (go_at_call 120; refine (Hc.out).mono ?_; rintro e w4 ⟨rfl, hrow, hk4⟩)
            obtain ⟨Z', h1, h2, h3, h4⟩ := HZ.out _ hrow hk4
            exact ⟨⟨k + 1, Z', by omega, by go_num, h1, h2, h3, h4⟩, by simp [intOf]; omega⟩
          · obtain rfl : p = k := by omega
            have HE : Hid (MkPost w p L (.returned (.tuple #[.slice (some ⟨G, 0, none⟩) p p, .int .i64 0])) wr) := Hid.mk (by
              unfold MkPost
              rw [if_pos (by rw [← EW.out]; exact HW.out), ← EW.out]
              exact ⟨G, B, Z, rfl, HCT.out.upd hrow hkr, hcn.congr (fun i hi x _ => if_pos hi), hlo, HB.out.2.1, HB.out.1, HKw3.out.step hkr (fun x hx => by simp at hx; subst hx; exact .inr HB.out.1)⟩)
            clear hrow hcn hlo hkr
            go_wp2
            try rw [Exit.noGoto_ret]
            go_ret2
            exact HE.out
      · have HP : Hid (¬ wdt L ≤ 16777216) := Hid.mk (by rw [← EW.out]; exact hW)
        have hW2 : decide ((16777216 : Int) < (W : Int)) = true := by simp; omega
        go_wp2
        try rw [Exit.noGoto_ret]
        go_ret2
        unfold MkPost
        rw [if_neg HP.out]
        exact ⟨rfl, Kept.refl _ _⟩
end Go.Proofs.YthhegomjipbdbaaGreatDoor.Py
