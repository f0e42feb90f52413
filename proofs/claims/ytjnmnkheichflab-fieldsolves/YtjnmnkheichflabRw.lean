import Derived.Test.YtjnmnkheichflabMo
namespace Go.Proofs.Ytjnmnkheichflab
open Go.RowKit

/-- A lent matrix' values and rows. -/
def lv (cb : Nat → Nat) (L : List (List Nat)) (n i : Nat) : Value := if i < n then .slice (some ⟨cb i, 0, none⟩) (L.getD i []).length ((L.getD i []).length + 70) else .slice (some ⟨cb i, 0, none⟩) 1 1
def lr (L : List (List Nat)) (n i : Nat) : List Nat := if i < n then L.getD i [] ++ List.replicate 70 167 else [167]
def lo4 (cb : Nat → Nat) (L : List (List Nat)) (n k : Nat) : List Value := (List.range (n + 4)).map fun i => if i < k then lv cb L n i else .slice none 0 0
theorem lo4_length (cb : Nat → Nat) (L : List (List Nat)) (n k : Nat) : (lo4 cb L n k).length = n + 4 := by simp [lo4]
theorem lo4_at (cb : Nat → Nat) (L : List (List Nat)) (n k i : Nat) (h : i < n + 4) : (lo4 cb L n k)[i]? = some (if i < k then lv cb L n i else .slice none 0 0) := by simp [lo4, h]
theorem lo4_zero (cb : Nat → Nat) (L : List (List Nat)) (n : Nat) : lo4 cb L n 0 = List.replicate (n + 4) (.slice none 0 0) := by
  apply List.ext_getElem?
  intro i
  by_cases h : i < n + 4
  · rw [lo4_at _ _ _ _ _ h, List.getElem?_replicate, if_pos h, if_neg (by omega)]
  · rw [List.getElem?_eq_none (by rw [lo4_length]; omega), List.getElem?_eq_none (by rw [List.length_replicate]; omega)]
theorem lv_nx (cb : Nat → Nat) (L : List (List Nat)) (n k b i : Nat) (h : i ≠ k) : lv (nx cb k b) L n i = lv cb L n i := by
  unfold lv
  rw [show nx cb k b i = cb i from if_neg h]
theorem lo4_set (cb : Nat → Nat) (L : List (List Nat)) (n k b : Nat) : (lo4 cb L n k).set k (lv (nx cb k b) L n k) = lo4 (nx cb k b) L n (k + 1) := by
  apply List.ext_getElem?
  intro i
  by_cases h : i < n + 4
  · rw [List.getElem?_set, lo4_at _ _ _ _ _ h, lo4_at _ _ _ _ _ h, lo4_length]
    by_cases e : k = i
    · subst e; simp [h]
    · rw [if_neg e]
      have h1 : (i < k) = (i < k + 1) := by apply propext; omega
      simp only [h1, lv_nx cb L n k b i (Ne.symm e)]
  · rw [List.getElem?_eq_none (by simp [lo4_length]; omega), List.getElem?_eq_none (by simp [lo4_length]; omega)]

/-- A lent matrix. -/
structure Lm (w : World) (G n : Nat) (cb : Nat → Nat) (L : List (List Nat)) (R : Nat → List Nat) : Prop where
  out : ∀ i, i < n + 4 → w.cell? ⟨G, i, none⟩ = some (lv cb L n i)
  row : ∀ i, i < n + 4 → Row w (cb i) (R i)
  ne : ∀ i, i < n + 4 → cb i ≠ G
  inj : ∀ i j, i < n + 4 → j < n + 4 → cb i = cb j → i = j
theorem Lm.keep {w w' : World} {G n : Nat} {cb : Nat → Nat} {L : List (List Nat)} {R : Nat → List Nat} {ks : List Nat} (h : Lm w G n cb L R) (hk : Kept ks w w') (h1 : G ∉ ks) (h2 : ∀ i, i < n + 4 → cb i ∉ ks) : Lm w' G n cb L R :=
  ⟨fun i hi => cell_keep hk (h.out i hi) h1, fun i hi => (h.row i hi).keep hk (h2 i hi), h.ne, h.inj⟩
theorem Lm.glt {w : World} {G n : Nat} {cb : Nat → Nat} {L : List (List Nat)} {R : Nat → List Nat} (h : Lm w G n cb L R) : G < w.heap.size := World.block_lt_of_cell? w _ (h.out 0 (by omega))
theorem Lm.reads {w : World} {G n : Nat} {cb : Nat → Nat} {L : List (List Nat)} (h : Lm w G n cb L (lr L n)) (hn : L.length = n) : MR w (some ⟨G, 0, none⟩) L := by
  refine .inr ⟨G, 0, rfl, fun i hi => ?_⟩
  have h1 := h.out i (by omega)
  have h2 := h.row i (by omega)
  unfold lv at h1
  unfold lr at h2
  rw [if_pos (by omega)] at h1 h2
  rw [Nat.zero_add]
  exact ⟨_, _, h1, heap_left h2⟩

set_option maxHeartbeats 4000000 in
set_option maxRecDepth 1000000 in
theorem rows_any (am : Option Addr) (cap n : Nat) (L : List (List Nat)) (w : World) (hr : MR w am L) (hn : L.length = n) (hl : n * 24 ≤ 140737488351232) (hw : ∀ i, i < n → (L.getD i []).length ≤ 140737488351232) :
    Calls Try.prog 8 #[.slice am n cap] w fun e w' => ∃ cb, e = .returned (.slice (some ⟨w.heap.size, 0, none⟩) n (n + 4)) ∧ Lm w' w.heap.size n cb L (lr L n) ∧ (∀ i, i < n + 4 → w.heap.size < cb i) ∧ Kept [] w w' := by
  obtain ⟨j0, gi, gz0, gz1, gz2⟩ := info_parts Try.infoR
  have HR := Hid.mk hr
  have Hn := Hid.mk hn
  have HW := Hid.mk hw
  clear hr hn hw
  go_enter Try.func8, Try.ntmps8
  go_wp2_with (at_make; refine wpList_make_full _ rfl _ _ 22 rfl 0 31 j0 (.slice none 0 0) 1 Try.underlying22 gi gz0 gz1 _ _ _ _ (n + 4) rfl rfl (by omega) (by omega) ?b2 ?b3 (by omega) ?_)
  case b2 => rw [gz2]; omega
  case b3 => unfold maxLen; omega
  intro w2 ho2 hg2
  have hk2 := Kept.of_grown hg2
  have hr2 := row_heap ho2 rfl
  rw [toList_madeCells_one, ← lo4_zero (fun _ => 0) L n] at hr2
  obtain ⟨G, hG⟩ : ∃ G, G = w.heap.size := ⟨_, rfl⟩
  rw [← hG] at hr2 ⊢
  have HG := Hid.mk hG
  have Hr2 := Hid.mk hr2
  have HK2 := Hid.mk hk2
  clear hG hr2 ho2 hg2 hk2 gi gz0 gz1 gz2
  go_wp2
  go_loopw [4] (fun s wr => ∃ (k : Nat) (cb : Nat → Nat), k ≤ n + 4 ∧ s = .int .i64 (k : Int) ∧ wr.heap[G]? = some (.cells (lo4 cb L n k).toArray 31 (0, 0)) ∧ (∀ i, i < k → Row wr (cb i) (lr L n i)) ∧ (∀ i, i < k → G < cb i) ∧ (∀ i j, i < j → j < k → cb i < cb j) ∧ Kept [] w wr) (fun s _ => (n + 4) - (intOf s).toNat)
  case atStart => exact ⟨0, fun _ => 0, by omega, rfl, Hr2.out, fun i h => by omega, fun i h => by omega, fun i j h1 h2 => by omega, HK2.out⟩
  case round =>
    obtain ⟨k, cb, hk, rfl, hout, hrows, hgt, hmon, hkr⟩ := hrel
    have Hout := Hid.mk hout
    have Hrows := Hid.mk hrows
    have Hgt := Hid.mk hgt
    have Hmon := Hid.mk hmon
    have Hkr := Hid.mk hkr
    clear hout hrows hgt hmon hkr
    have fin : Hid (∀ b w3, Kept [] wr w3 → b = wr.heap.size → k < n + 4 → Row w3 b (lr L n k) → ∀ v, v = lv (nx cb k b) L n k →
        (w3.setCell ⟨G, k, none⟩ v).heap[G]? = some (.cells (lo4 (nx cb k b) L n (k + 1)).toArray 31 (0, 0)) ∧ (∀ i, i < k + 1 → Row (w3.setCell ⟨G, k, none⟩ v) (nx cb k b i) (lr L n i)) ∧ (∀ i, i < k + 1 → G < nx cb k b i) ∧ (∀ i j, i < j → j < k + 1 → nx cb k b i < nx cb k b j) ∧ Kept [] w (w3.setCell ⟨G, k, none⟩ v)) := Hid.mk (by
      intro b w3 hk3 hb hlt hrow v hv
      have hGb : G < b := by rw [hb]; exact lt_of_block Hout.out
      have hset : Kept [G] w3 (w3.setCell ⟨G, k, none⟩ v) := (Kept.refl [G] w3).setCell (p := ⟨G, k, none⟩) (.inl (by simp)) _
      have hlt2 : ∀ i, i < k → cb i < b := fun i hi => by rw [hb]; exact (Hrows.out i hi).lt
      refine ⟨?_, fun i hi => ?_, fun i hi => ?_, fun i j h1 h2 => ?_, (Hkr.out.trans hk3).setCell (p := ⟨G, k, none⟩) (.inr (by rw [HG.out]; exact Nat.le_refl _)) _⟩
      · rw [heap_setCell_at (hk3.heap Hout.out (by simp)), List.setIfInBounds_toArray, hv, lo4_set]
      · by_cases e : i = k
        · subst e
          rw [show nx cb i b i = b from if_pos rfl]
          exact hrow.keep hset (by simp; omega)
        · rw [show nx cb k b i = cb i from if_neg e]
          exact ((Hrows.out i (by omega)).keep hk3 (by simp)).keep hset (by have := Hgt.out i (by omega); simp; omega)
      · by_cases e : i = k
        · subst e; rw [show nx cb i b i = b from if_pos rfl]; exact hGb
        · rw [show nx cb k b i = cb i from if_neg e]; exact Hgt.out i (by omega)
      · rw [show nx cb k b i = cb i from if_neg (by omega)]
        by_cases e : j = k
        · subst e; rw [show nx cb j b j = b from if_pos rfl]; exact hlt2 i h1
        · rw [show nx cb k b j = cb j from if_neg e]; exact Hmon.out i j h1 (by omega))
    by_cases hlt : k < n
    · obtain ⟨g, off, bo, cp, hao, hc0, hrd⟩ := HR.out.at (i := k) (by have := Hn.out; omega)
      have hc := cell_keep Hkr.out hc0 (by simp)
      have hl2 := HW.out k hlt
      have C0 := Hid.mk (lent_any bo cp (L.getD k []).length (L.getD k []) wr (hrd.keep Hkr.out) rfl (by omega))
      have hGs : G < wr.heap.size := lt_of_block Hout.out
      obtain ⟨u, hu⟩ : ∃ u, wr.cell? ⟨G, k, none⟩ = some u := row_cell_at Hout.out (by rw [lo4_length]; omega)
      have hfz : wr.frozen? ⟨G, k, none⟩ = false := by have := Hout.out; simp [World.frozen?, this]
      have HV : Hid (∀ b, Value.slice (some ⟨b, 0, none⟩) (L.getD k []).length ((L.getD k []).length + 70) = lv (nx cb k b) L n k) := Hid.mk (fun b => by unfold lv; rw [if_pos hlt, show nx cb k b k = b from if_pos rfl])
      have HLR : Hid (lr L n k = L.getD k [] ++ List.replicate 70 167) := Hid.mk (if_pos hlt)
      obtain ⟨mm, em⟩ : ∃ mm, mm = (L.getD k []).length := ⟨_, rfl⟩
      rw [← em] at hc C0 HV hl2
      subst hao
      clear em hc0 hrd
      have i1 : (k : Int) < (n : Int) := by omega
      have i2 : (k : Int) < (n : Int) + 4 := by omega
      go_wp2_with (go_at_call 25; refine C0.out.mono ?_; rintro e w3 ⟨rfl, hr3, hk3⟩; have hu3 := cell_keep hk3 hu (by simp); have hf3 := fz_keep hk3 hu hfz (by simp))
      rw [← HLR.out] at hr3
      have FN := Hid.mk (fin.out wr.heap.size w3 hk3 rfl (by omega) hr3 _ (HV.out _))
      clear hr3 hk3 hu3 hf3 C0
      go_roundw
      case rel =>
        obtain ⟨f1, f2, f3, f4, f5⟩ := FN.out
        exact ⟨k + 1, _, by omega, by go_num, f1, f2, f3, f4, f5⟩
      case measure => simp [intOf]; omega
    · by_cases hlt4 : k < n + 4
      · have hGs : G < wr.heap.size := lt_of_block Hout.out
        obtain ⟨u, hu⟩ : ∃ u, wr.cell? ⟨G, k, none⟩ = some u := row_cell_at Hout.out (by rw [lo4_length]; omega)
        have hfz : wr.frozen? ⟨G, k, none⟩ = false := by have := Hout.out; simp [World.frozen?, this]
        have hk3 : Kept [] wr (wr.alloc (.cells #[.int .u8 167] 5)) := (Kept.refl [] wr).alloc _
        have hr3 : Row (wr.alloc (.cells #[.int .u8 167] 5)) wr.heap.size (lr L n k) := by
          unfold Row lr
          rw [if_neg hlt, heap_alloc_new]; rfl
        have FN := Hid.mk (fin.out wr.heap.size _ hk3 rfl hlt4 hr3 (.slice (some ⟨wr.heap.size, 0, none⟩) 1 1) (by unfold lv; rw [if_neg hlt, show nx cb k wr.heap.size k = wr.heap.size from if_pos rfl]))
        rw [World.setCell_alloc_past _ _ _ _ hGs] at FN
        clear hk3 hr3
        have i1 : ¬ (k : Int) < (n : Int) := by omega
        have i2 : (k : Int) < (n : Int) + 4 := by omega
        have s2 : ¬ G = wr.heap.size := by omega
        have s3 : ¬ wr.heap.size = G := by omega
        go_wp2
        go_roundw
        case rel =>
          obtain ⟨f1, f2, f3, f4, f5⟩ := FN.out
          exact ⟨k + 1, _, by omega, by go_num, f1, f2, f3, f4, f5⟩
        case measure => simp [intOf]; omega
      · obtain rfl : k = n + 4 := by omega
        go_wp2
        go_ret
        refine ⟨cb, by rw [← HG.out]; rfl, ⟨fun i hi => ?_, Hrows.out, fun i hi => ?_, fun i j hi hj e => ?_⟩, fun i hi => by have := Hgt.out i hi; have := HG.out; omega, Hkr.out⟩
        · rw [← HG.out, cell_of_row _ _ _ _ _ _ Hout.out, List.getElem?_toArray, lo4_at _ _ _ _ _ hi, if_pos hi]
        · have := Hgt.out i hi
          have := HG.out
          omega
        · rcases Nat.lt_trichotomy i j with h | h | h
          · have := Hmon.out i j h hj; omega
          · exact h
          · have := Hmon.out j i h hi; omega
end Go.Proofs.Ytjnmnkheichflab
