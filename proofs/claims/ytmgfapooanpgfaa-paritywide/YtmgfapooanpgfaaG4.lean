import Derived.Test.YtmgfapooanpgfaaG1
namespace Go.Proofs.Ytmgfapooanpgfaa
open Go.RowKit

theorem Try.infoR : (Try.prog.info? 40).map (fun i => (i.zero, i.size, i.bytes)) = some (some (.slice none 0 0), 1, 24) := by kernel_rfl

/-- How long the rows are. -/
def rl (L : List (List Nat)) : Nat := (L.getD 0 []).length

set_option maxHeartbeats 1000000 in
set_option maxRecDepth 1000000 in
theorem rowLength_any (ao : Option Addr) (cap n : Nat) (L : List (List Nat)) (w : World) (hr : MR w ao L) (hn : L.length = n) :
    Calls Try.prog 63 #[.slice ao n cap] w fun e w' => e = .returned (.int .i64 (rl L : Int)) ∧ w' = w := by
  by_cases h0 : n = 0
  · subst h0
    have hL : L = [] := List.eq_nil_of_length_eq_zero hn
    subst hL
    go_enter Try.func63, Try.ntmps63
    go_wp2
    go_ret
    exact ⟨rfl, rfl⟩
  · obtain ⟨g, off, bo, c, rfl, hc, _⟩ := hr.at (i := 0) (by omega)
    have hn0 : ((n : Int) == 0) = false := by simp; omega
    have ix : (0 : Int) < (n : Int) := by omega
    rw [Nat.add_zero] at hc
    clear hn hr
    have Hd : Hid ((L.getD 0 []).length = rl L) := Hid.mk rfl
    rw [Hd.out] at hc
    go_enter Try.func63, Try.ntmps63
    go_wp2
    go_ret
    exact ⟨rfl, rfl⟩

/-- Whether all rows have so many. -/
def al (L : List (List Nat)) (m : Nat) : Bool := L.all fun r => decide (r.length = m)
theorem al_at {L : List (List Nat)} {m : Nat} (h : al L m = true) {i : Nat} (hi : i < L.length) : (L.getD i []).length = m := by
  unfold al at h
  rw [List.all_eq_true] at h
  have := h (L.getD i []) (by simp [hi])
  simpa using this
theorem al_of {L : List (List Nat)} {m : Nat} (h : ∀ i, i < L.length → (L.getD i []).length = m) : al L m = true := by
  unfold al
  rw [List.all_eq_true]
  intro r hr
  obtain ⟨i, hi, rfl⟩ := List.getElem_of_mem hr
  have := h i hi
  simpa [hi] using this
theorem al_no {L : List (List Nat)} {m i : Nat} (hi : i < L.length) (h : (L.getD i []).length ≠ m) : al L m = false := by
  cases e : al L m
  · rfl
  · exact absurd (al_at e hi) h

set_option maxHeartbeats 1000000 in
set_option maxRecDepth 1000000 in
theorem allAsLong_any (ao : Option Addr) (cap n m : Nat) (L : List (List Nat)) (w : World) (hr : MR w ao L) (hn : L.length = n) (hl : n ≤ 140737488355328) :
    Calls Try.prog 62 #[.slice ao n cap, .int .i64 (m : Int)] w fun e w' => e = .returned (.bool (al L m)) ∧ w' = w := by
  have Hr := Hid.mk hr
  have Hn := Hid.mk hn
  clear hr hn
  go_enter Try.func62, Try.ntmps62
  go_wp2
  go_loop [9] (fun i => ∃ k : Nat, k ≤ n ∧ i = .int .i64 (k : Int) ∧ ∀ j, j < k → (L.getD j []).length = m) (fun i => n - (intOf i).toNat)
  case atStart => exact ⟨0, by omega, rfl, fun j hj => by omega⟩
  case round =>
    obtain ⟨k, hk, rfl, hall⟩ := hrel
    have Hall := Hid.mk hall
    clear hall
    by_cases hlt : k < n
    · obtain ⟨g, off, bo, c, hg, hc, _⟩ := Hr.out.at (i := k) (by have := Hn.out; omega)
      have ix : (k : Int) < (n : Int) := by omega
      by_cases h : (L.getD k []).length = m
      · have H := Hid.mk h
        rw [h] at hc
        subst hg
        clear h
        go_wp2
        go_round
        case rel =>
          refine ⟨k + 1, by omega, by go_num, fun j hj => ?_⟩
          by_cases e : j = k
          · subst e; exact H.out
          · exact Hall.out j (by omega)
        case measure => simp [intOf]; omega
      · have H := Hid.mk (al_no (by have := Hn.out; omega) h)
        obtain ⟨x, hx⟩ : ∃ x, x = (L.getD k []).length := ⟨_, rfl⟩
        rw [← hx] at hc h
        have hne : ((x : Int) == (m : Int)) = false := by simp; omega
        subst hg
        clear hx h
        go_wp2
        go_ret
        exact ⟨ret_bool H.out.symm, rfl⟩
    · obtain rfl : k = n := by omega
      have H := Hid.mk (al_of (L := L) (m := m) (fun i hi => Hall.out i (by have := Hn.out; omega)))
      go_wp2
      go_ret
      exact ⟨ret_bool H.out.symm, rfl⟩

/-- A list of rows of which k stand. -/
def outC (bs : Nat → Nat) (wd k n : Nat) : List Value := (List.range n).map fun i => if i < k then .slice (some ⟨bs i, 0, none⟩) wd wd else .slice none 0 0
theorem outC_length (bs : Nat → Nat) (wd k n : Nat) : (outC bs wd k n).length = n := by simp [outC]
theorem outC_at (bs : Nat → Nat) (wd k n i : Nat) (h : i < n) : (outC bs wd k n)[i]? = some (if i < k then .slice (some ⟨bs i, 0, none⟩) wd wd else .slice none 0 0) := by simp [outC, h]
theorem outC_zero (bs : Nat → Nat) (wd n : Nat) : outC bs wd 0 n = List.replicate n (.slice none 0 0) := by
  apply List.ext_getElem?
  intro i
  by_cases h : i < n
  · rw [outC_at _ _ _ _ _ h, List.getElem?_replicate, if_pos h, if_neg (by omega)]
  · rw [List.getElem?_eq_none (by rw [outC_length]; omega), List.getElem?_eq_none (by rw [List.length_replicate]; omega)]
/-- One block more. -/
def nx (bs : Nat → Nat) (k b : Nat) : Nat → Nat := fun i => if i = k then b else bs i
theorem outC_set (bs : Nat → Nat) (wd k n b : Nat) : (outC bs wd k n).set k (.slice (some ⟨b, 0, none⟩) wd wd) = outC (nx bs k b) wd (k + 1) n := by
  apply List.ext_getElem?
  intro i
  by_cases h : i < n
  · rw [List.getElem?_set, outC_at _ _ _ _ _ h, outC_at _ _ _ _ _ h, outC_length]
    by_cases e : k = i
    · subst e; simp [h, nx]
    · rw [if_neg e]
      have h1 : (i < k) = (i < k + 1) := by apply propext; omega
      have h2 : nx bs k b i = bs i := if_neg (Ne.symm e)
      simp [h1, h2]
  · rw [List.getElem?_eq_none (by simp [outC_length]; omega), List.getElem?_eq_none (by simp [outC_length]; omega)]
theorem rg_none (wd : Nat) : (List.replicate wd (Value.int .u8 0)) = (rg (fun _ => 0) wd).map byt := by
  apply List.ext_getElem?
  intro i
  by_cases h : i < wd
  · rw [List.getElem?_replicate, if_pos h, List.getElem?_map, rg_at _ _ _ h]; rfl
  · rw [List.getElem?_eq_none (by simp; omega), List.getElem?_eq_none (by simp [rg_length]; omega)]

set_option maxHeartbeats 2000000 in
set_option maxRecDepth 1000000 in
theorem noughts_any (n wd : Nat) (w : World) (hn : n ≤ 256) (hw : wd ≤ 140737488355328) :
    Calls Try.prog 37 #[.int .i64 (n : Int), .int .i64 (wd : Int)] w fun e w' => ∃ bs, e = .returned (.slice (some ⟨w.heap.size, 0, none⟩) n n) ∧ Mt w' w.heap.size n bs wd (fun _ _ => 0) ∧ (∀ i, i < n → w.heap.size < bs i) ∧ Kept [] w w' := by
  obtain ⟨i0, hi, hz0, hz1, hz2⟩ := info_parts Try.info5
  obtain ⟨j0, gi, gz0, gz1, gz2⟩ := info_parts Try.infoR
  go_enter Try.func37, Try.ntmps37
  go_wp2_with (at_make; refine wpList_make_full _ rfl _ _ 34 rfl 0 40 j0 (.slice none 0 0) 1 Try.underlying34 gi gz0 gz1 _ _ _ _ n rfl rfl (by omega) (by omega) ?b2 ?b3 (by omega) ?_)
  case b2 => rw [gz2]; omega
  case b3 => unfold maxLen; omega
  intro w2 ho2 hg2
  have hk2 := Kept.of_grown hg2
  have hr2 := row_heap ho2 rfl
  rw [toList_madeCells_one] at hr2
  rw [← outC_zero (fun _ => 0) wd n] at hr2
  obtain ⟨G, hG⟩ : ∃ G, G = w.heap.size := ⟨_, rfl⟩
  rw [← hG] at hr2 ⊢
  have HG := Hid.mk hG
  have Hr2 := Hid.mk hr2
  have HK2 := Hid.mk hk2
  clear hG hr2 ho2 hg2 hk2 gi gz0 gz1 gz2
  go_wp2
  go_loopw [11] (fun i wr => ∃ (k : Nat) (bs : Nat → Nat), k ≤ n ∧ i = .int .i64 (k : Int) ∧ wr.heap[G]? = some (.cells (outC bs wd k n).toArray 40 (0, 0)) ∧ (∀ i, i < k → Row wr (bs i) (rg (fun _ => 0) wd)) ∧ (∀ i, i < k → G < bs i) ∧ (∀ i j, i < j → j < k → bs i < bs j) ∧ Kept [] w wr) (fun i _ => n - (intOf i).toNat)
  case atStart => exact ⟨0, fun _ => 0, by omega, rfl, Hr2.out, fun i h => by omega, fun i h => by omega, fun i j h1 h2 => by omega, HK2.out⟩
  case round =>
    obtain ⟨k, bs, hk, rfl, hout, hrows, hgt, hmon, hkr⟩ := hrel
    have Hout := Hid.mk hout
    have Hrows := Hid.mk hrows
    have Hgt := Hid.mk hgt
    have Hmon := Hid.mk hmon
    have Hkr := Hid.mk hkr
    clear hout hrows hgt hmon hkr
    by_cases hlt : k < n
    · go_wp2_with (at_make; refine wpList_make_full _ rfl _ _ 40 rfl 0 5 i0 (.int .u8 0) 1 Try.underlying40 hi hz0 hz1 _ _ _ _ wd rfl rfl (by omega) (by omega) ?b2 ?b3 (by omega) ?_)
      case b2 => rw [hz2]; omega
      case b3 => unfold maxLen; omega
      intro w3 ho3 hg3
      have hk3 := Kept.of_grown hg3
      have hr3 := row_heap ho3 rfl
      rw [toList_madeCells_one, rg_none] at hr3
      obtain ⟨b, hb⟩ : ∃ b, b = wr.heap.size := ⟨_, rfl⟩
      rw [← hb] at hr3 ⊢
      have hGb : G < b := by rw [hb]; exact lt_of_block Hout.out
      have hout3 := hk3.heap Hout.out (by simp)
      have hcell : w3.cell? ⟨G, k, none⟩ = some (.slice none 0 0) := by
        rw [cell_of_row _ _ _ _ _ _ hout3, List.getElem?_toArray, outC_at _ _ _ _ _ hlt, if_neg (by omega)]
      have hfz : w3.frozen? ⟨G, k, none⟩ = false := by simp [World.frozen?, hout3]
      have Hout3 := Hid.mk hout3
      have Hr3 : Hid (Row w3 b (rg (fun _ => 0) wd)) := Hid.mk hr3
      have Hrows3 := Hid.mk (fun i hi => (Hrows.out i hi).keep hk3 (by simp))
      have Hlt : Hid (∀ i, i < k → bs i < b) := Hid.mk (fun i hi => by rw [hb]; exact (Hrows.out i hi).lt)
      have Hkr3 := Hid.mk (Hkr.out.trans hk3)
      clear hout3 hr3 hb ho3 hg3 hk3
      have ix : (k : Int) < (n : Int) := by omega
      go_wp2
      go_roundw
      case rel =>
        have hset : Kept [G] w3 (w3.setCell ⟨G, k, none⟩ (.slice (some ⟨b, 0, none⟩) wd wd)) := (Kept.refl [G] w3).setCell (p := ⟨G, k, none⟩) (.inl (by simp)) _
        refine ⟨k + 1, nx bs k b, by omega, by go_num, ?_, fun i hi => ?_, fun i hi => ?_, fun i j h1 h2 => ?_, Hkr3.out.setCell (p := ⟨G, k, none⟩) (.inr (by rw [HG.out]; exact Nat.le_refl _)) _⟩
        · rw [heap_setCell_at Hout3.out, List.setIfInBounds_toArray, outC_set]
        · by_cases e : i = k
          · subst e
            rw [show nx bs i b i = b from if_pos rfl]
            exact Hr3.out.keep hset (by simp; omega)
          · rw [show nx bs k b i = bs i from if_neg e]
            exact (Hrows3.out i (by omega)).keep hset (by have := Hgt.out i (by omega); simp; omega)
        · by_cases e : i = k
          · subst e; rw [show nx bs i b i = b from if_pos rfl]; exact hGb
          · rw [show nx bs k b i = bs i from if_neg e]; exact Hgt.out i (by omega)
        · rw [show nx bs k b i = bs i from if_neg (by omega)]
          by_cases e : j = k
          · subst e; rw [show nx bs j b j = b from if_pos rfl]; exact Hlt.out i h1
          · rw [show nx bs k b j = bs j from if_neg e]; exact Hmon.out i j h1 (by omega)
      case measure => simp [intOf]; omega
    · obtain rfl : k = n := by omega
      go_wp2
      go_ret
      refine ⟨bs, by rw [← HG.out]; rfl, ⟨fun i hi => ?_, fun i hi => ?_, Hrows.out, fun i hi => ?_, fun i j hi hj e => ?_⟩, fun i hi => by have := Hgt.out i hi; have := HG.out; omega, Hkr.out⟩
      · rw [← HG.out, cell_of_row _ _ _ _ _ _ Hout.out, List.getElem?_toArray, outC_at _ _ _ _ _ hi, if_pos hi]
      · have := Hout.out
        rw [← HG.out]
        simp [World.frozen?, this]
      · have := Hgt.out i hi
        have := HG.out
        omega
      · rcases Nat.lt_trichotomy i j with h | h | h
        · have := Hmon.out i j h hj; omega
        · exact h
        · have := Hmon.out j i h hi; omega
end Go.Proofs.Ytmgfapooanpgfaa
