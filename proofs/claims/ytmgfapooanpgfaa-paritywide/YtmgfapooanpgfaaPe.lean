import Derived.Test.YtmgfapooanpgfaaPd
import Derived.Test.YtmgfapooanpgfaaG4
namespace Go.Proofs.Ytmgfapooanpgfaa
open Go.RowKit

/-- Values by a function. -/
def fl (f : Nat → Value) (n : Nat) : List Value := (List.range n).map f
theorem fl_length (f : Nat → Value) (n : Nat) : (fl f n).length = n := by simp [fl]
theorem fl_at (f : Nat → Value) (n i : Nat) (h : i < n) : (fl f n)[i]? = some (f i) := by simp [fl, h]
theorem fl_congr {f g : Nat → Value} {n : Nat} (h : ∀ i, i < n → f i = g i) : fl f n = fl g n := List.map_congr_left (fun i hi => h i (by simpa using hi))
theorem fl_rep (v : Value) (n : Nat) : List.replicate n v = fl (fun _ => v) n := by
  apply List.ext_getElem?
  intro i
  by_cases h : i < n
  · rw [fl_at _ _ _ h, List.getElem?_replicate, if_pos h]
  · rw [List.getElem?_eq_none (by simpa using h), List.getElem?_eq_none (by rw [fl_length]; omega)]
theorem fl_set (f : Nat → Value) (n k : Nat) (v : Value) : (fl f n).set k v = fl (fun i => if i = k then v else f i) n := by
  apply List.ext_getElem?
  intro i
  by_cases h : i < n
  · rw [List.getElem?_set, fl_at _ _ _ h, fl_at _ _ _ h, fl_length]
    by_cases e : k = i
    · subst e; simp [h]
    · rw [if_neg e, if_neg (Ne.symm e)]
  · rw [List.getElem?_eq_none (by simp [fl_length]; omega), List.getElem?_eq_none (by rw [fl_length]; omega)]
/-- A block of values. -/
def Vr (w : World) (g t n : Nat) (f : Nat → Value) : Prop := w.heap[g]? = some (.cells (fl f n).toArray t (0, 0))
theorem Vr.at {w : World} {g t n : Nat} {f : Nat → Value} (h : Vr w g t n f) {i : Nat} (hi : i < n) : w.cell? ⟨g, i, none⟩ = some (f i) := by
  unfold Vr at h
  rw [cell_of_row _ _ _ _ _ _ h, List.getElem?_toArray, fl_at _ _ _ hi]
theorem Vr.fz {w : World} {g t n : Nat} {f : Nat → Value} (h : Vr w g t n f) (i : Nat) : w.frozen? ⟨g, i, none⟩ = false := by
  unfold Vr at h
  simp [World.frozen?, h]
theorem Vr.keep {w w' : World} {g t n : Nat} {f : Nat → Value} {ks : List Nat} (h : Vr w g t n f) (hk : Kept ks w w') (hn : g ∉ ks) : Vr w' g t n f := hk.heap h hn
theorem Vr.lt {w : World} {g t n : Nat} {f : Nat → Value} (h : Vr w g t n f) : g < w.heap.size := lt_of_block h
theorem Vr.put {w : World} {g t n k : Nat} {f f' : Nat → Value} {v : Value} (h : Vr w g t n f) (hf : ∀ i, i < n → f' i = if i = k then v else f i) : Vr (w.setCell ⟨g, k, none⟩ v) g t n f' := by
  unfold Vr at h ⊢
  rw [heap_setCell_at h, List.setIfInBounds_toArray, fl_set, fl_congr hf]

/-- Where rows lie that are cut out of one list. -/
def ofs (ln : Nat → Nat) : Nat → Nat
  | 0 => 0
  | k + 1 => ofs ln k + ln k
def po (ln : Nat → Nat) (k : Nat) : Nat := if ln k = 0 then 0 else ofs ln k
theorem ofs_le {ln : Nat → Nat} {M : Nat} (h : ∀ i, ln i ≤ M) (k : Nat) : ofs ln k ≤ k * M := by
  induction k with
  | zero => simp [ofs]
  | succ k ih => have := h k; rw [ofs, Nat.succ_mul]; omega
theorem ofs_mono (ln : Nat → Nat) {i k : Nat} (h : i < k) : ofs ln i + ln i ≤ ofs ln k := by
  induction k with
  | zero => omega
  | succ k ih =>
    rw [ofs]
    by_cases e : i = k
    · subst e; omega
    · have := ih (by omega); omega
theorem po_le (ln : Nat → Nat) {i n : Nat} (h : i < n) : po ln i + ln i ≤ ofs ln n := by
  have := ofs_mono ln h
  unfold po
  split <;> omega

/-- Rows that are cut out of one list: the list of rows in the block g, their bytes in the block L. -/
structure Ct (w : World) (g L N : Nat) (ln : Nat → Nat) (Z : Nat → Nat) : Prop where
  out : Vr w g 40 N (fun k => .slice (some ⟨L, po ln k, none⟩) (ln k) (ln k))
  row : Row w L (rg Z (ofs ln N))
  ne : g ≠ L
theorem Ct.keep {w w' : World} {g L N : Nat} {ln Z : Nat → Nat} {ks : List Nat} (h : Ct w g L N ln Z) (hk : Kept ks w w') (h1 : g ∉ ks) (h2 : L ∉ ks) : Ct w' g L N ln Z := ⟨h.out.keep hk h1, h.row.keep hk h2, h.ne⟩

set_option maxHeartbeats 4000000 in
set_option maxRecDepth 1000000 in
theorem cut_any (ao : Option Addr) (N ca : Nat) (ln : Nat → Nat) (w : World) (hN : N ≤ 216) (hl : ∀ i, ln i ≤ 16777216) (hr : RdI w ao (fun i => (ln i : Int)) N) :
    Calls Try.prog 27 #[.slice ao N ca] w fun e w' => ∃ g L, e = .returned (.slice (some ⟨g, 0, none⟩) N N) ∧ Ct w' g L N ln (fun _ => 0) ∧ w.heap.size ≤ g ∧ w.heap.size ≤ L ∧ Kept [] w w' := by
  obtain ⟨i0, hi, hz0, hz1, hz2⟩ := info_parts Try.info5
  obtain ⟨j0, gi, gz0, gz1, gz2⟩ := info_parts Try.infoR
  have Hr := Hid.mk hr
  have Hl := Hid.mk hl
  clear hr hl
  go_enter Try.func27, Try.ntmps27
  go_wp2
  have Ho := Hid.mk (ofs_le Hl.out)
  go_loopw [3, 14] (fun t i wr => ∃ k : Nat, k ≤ N ∧ i = .int .i64 (k : Int) ∧ t = .int .i64 (ofs ln k : Int) ∧ wr = w) (fun _ i _ => N - (intOf i).toNat)
  case atStart => exact ⟨0, by omega, rfl, rfl, rfl⟩
  case round =>
    obtain ⟨k, hk, rfl, rfl, hw⟩ := hrel
    obtain rfl := hw.symm
    by_cases hlt : k < N
    · obtain ⟨g, off, rfl, hc⟩ := Hr.out.at hlt
      have hlk := Hl.out k
      have hok := Ho.out k
      have Hs : Hid (ofs ln (k + 1) = ofs ln k + ln k) := Hid.mk rfl
      have hb : k * 16777216 ≤ 3623878656 := by omega
      obtain ⟨x, e⟩ : ∃ x, x = ofs ln k := ⟨_, rfl⟩
      rw [← e] at hok Hs ⊢
      clear e
      obtain ⟨y, e⟩ : ∃ y, y = ln k := ⟨_, rfl⟩
      rw [← e] at hlk hc Hs
      clear e
      have ix : (k : Int) < (N : Int) := by omega
      go_wp2
      go_roundw
      case rel => exact ⟨k + 1, by omega, by go_num, by rw [Hs.out]; go_num, trivial⟩
      case measure => simp [intOf]; omega
    · obtain rfl : N = k := by omega
      have HT : Hid (ofs ln N ≤ 3623878656) := Hid.mk (by have := Ho.out N; omega)
      obtain ⟨T, eT⟩ : ∃ T, T = ofs ln N := ⟨_, rfl⟩
      have ET := Hid.mk eT
      rw [← eT] at HT ⊢
      clear eT
      have hT := HT.out
      go_wp2_with (first | (at_make; refine wpList_make_full _ rfl _ _ 40 rfl 0 5 i0 (.int .u8 0) 1 Try.underlying40 hi hz0 hz1 _ _ _ _ T rfl rfl (by omega) (by omega) (by rw [hz2]; omega) (by unfold maxLen; omega) (by omega) ?_; intro w2 ho2 hg2) | (at_make; refine wpList_make_full _ rfl _ _ 34 rfl 0 40 j0 (.slice none 0 0) 1 Try.underlying34 gi gz0 gz1 _ _ _ _ N rfl rfl (by omega) (by omega) (by rw [gz2]; omega) (by unfold maxLen; omega) (by omega) ?_; intro w3 ho3 hg3))
      clear hi hz0 hz1 hz2 gi gz0 gz1 gz2
      have hk2 := Kept.of_grown hg2
      have hk3 := Kept.of_grown hg3
      have hr2 := row_heap ho2 rfl
      rw [madeBytes, show List.replicate T (byt 0) = (rg (fun _ => 0) T).map byt from rg_none T] at hr2
      have hr3 := row_heap ho3 rfl
      rw [show (madeCells (Value.slice none 0 0).cells (N * 1)).toList = List.replicate N (.slice none 0 0) by rw [Nat.mul_one]; exact toList_madeCells_one _ _, fl_rep] at hr3
      have HR : Hid (Row w3 w.heap.size (rg (fun _ => 0) T)) := Hid.mk (hk3.heap hr2 (by simp))
      have HV : Hid (Vr w3 w2.heap.size 40 N (fun _ => .slice none 0 0)) := Hid.mk hr3
      have HK : Hid (Kept [] w w3) := Hid.mk ((hk2.mono (by simp)).trans (hk3.mono (by simp)))
      have HN : Hid (w.heap.size < w2.heap.size) := Hid.mk (lt_of_block hr2)
      obtain ⟨G, eG⟩ : ∃ G, G = w2.heap.size := ⟨_, rfl⟩
      rw [← eG] at HV HN ⊢
      obtain ⟨B, eB⟩ : ∃ B, B = w.heap.size := ⟨_, rfl⟩
      rw [← eB] at HR HN ⊢
      have EB := Hid.mk eB
      clear hk2 hk3 hr2 hr3 ho2 ho3 hg2 hg3 eG eB
      go_loopw [7, 29] (fun t i wr => ∃ k : Nat, k ≤ N ∧ i = .int .i64 (k : Int) ∧ t = .int .i64 (ofs ln k : Int) ∧ Row wr B (rg (fun _ => 0) T) ∧ Vr wr G 40 N (fun j => if j < k then .slice (some ⟨B, po ln j, none⟩) (ln j) (ln j) else .slice none 0 0) ∧ Kept [] w wr) (fun _ i _ => N - (intOf i).toNat)
      case atStart => exact ⟨0, by omega, rfl, rfl, HR.out, by unfold Vr; rw [fl_congr (fun i _ => if_neg (by omega))]; exact HV.out, HK.out⟩
      case round =>
        obtain ⟨k, hk, rfl, rfl, hrow, hv, hkr⟩ := hrel
        by_cases hlt : k < N
        · obtain ⟨g, off, rfl, hc0⟩ := Hr.out.at hlt
          have hc := cell_keep hkr hc0 (by simp)
          have hlk := Hl.out k
          have hok := Ho.out k
          have hT2 := ofs_mono ln hlt
          rw [← ET.out] at hT2
          have Hs : Hid (ofs ln (k + 1) = ofs ln k + ln k) := Hid.mk rfl
          have hb : k * 16777216 ≤ 3623878656 := by omega
          obtain ⟨u, hu⟩ : ∃ u, wr.cell? ⟨G, k, none⟩ = some u := ⟨_, hv.at hlt⟩
          have hfz := hv.fz k
          have Hrow : Hid (∀ v, Row (wr.setCell ⟨G, k, none⟩ v) B (rg (fun _ => 0) T)) := Hid.mk (fun v => hrow.keep ((Kept.refl [G] wr).setCell (p := ⟨G, k, none⟩) (.inl (by simp)) v) (by have := HN.out; simp; omega))
          have Hkr : Hid (∀ v, Kept [] w (wr.setCell ⟨G, k, none⟩ v)) := Hid.mk (fun v => hkr.setCell (p := ⟨G, k, none⟩) (.inr (by have := HN.out; have := EB.out; show _ ≤ G; omega)) v)
          have Hv : Hid (Vr (wr.setCell ⟨G, k, none⟩ (.slice (some ⟨B, po ln k, none⟩) (ln k) (ln k))) G 40 N (fun j => if j < k + 1 then .slice (some ⟨B, po ln j, none⟩) (ln j) (ln j) else .slice none 0 0)) := Hid.mk (hv.put (fun i _ => by
            by_cases e : i = k
            · subst e; rw [if_pos (by omega), if_pos rfl]
            · rw [if_neg e]
              have : (i < k + 1) = (i < k) := by apply propext; omega
              simp only [this]))
          have Hp0 : Hid (ln k = 0 → po ln k = 0) := Hid.mk (fun h => if_pos h)
          have Hp1 : Hid (ln k ≠ 0 → po ln k = ofs ln k) := Hid.mk (fun h => if_neg h)
          clear hrow hv hkr hc0
          obtain ⟨x, e⟩ : ∃ x, x = ofs ln k := ⟨_, rfl⟩
          rw [← e] at hok Hs hT2 Hp1 ⊢
          clear e
          obtain ⟨y, e⟩ : ∃ y, y = ln k := ⟨_, rfl⟩
          rw [← e] at hlk hc Hs hT2 Hp0 Hp1 Hv
          clear e
          have ix : (k : Int) < (N : Int) := by omega
          by_cases hy : y = 0
          · rw [Hp0.out hy] at Hv
            subst hy
            clear Hp0 Hp1
            go_wp2
            go_roundw
            case rel => exact ⟨k + 1, by omega, by go_num, by rw [Hs.out]; go_num, Hrow.out _, Hv.out, Hkr.out _⟩
            case measure => simp [intOf]; omega
          · rw [Hp1.out hy] at Hv
            clear Hp0 Hp1
            have hy2 : ¬ x = x + y := by omega
            go_wp2
            go_roundw
            case rel => exact ⟨k + 1, by omega, by go_num, by rw [Hs.out]; go_num, Hrow.out _, Hv.out, Hkr.out _⟩
            case measure => simp [intOf]; omega
        · obtain rfl : N = k := by omega
          have HZ : Hid (Ct wr G B N ln (fun _ => 0)) := Hid.mk ⟨by unfold Vr at hv ⊢; rw [hv, fl_congr (fun i hi => if_pos hi)], by rw [← ET.out]; exact hrow, by have := HN.out; omega⟩
          have Hkr := Hid.mk hkr
          clear hrow hv hkr
          go_wp2
          go_ret
          exact ⟨G, B, rfl, HZ.out, by have := HN.out; have := EB.out; omega, by have := EB.out; omega, Hkr.out⟩
end Go.Proofs.Ytmgfapooanpgfaa
