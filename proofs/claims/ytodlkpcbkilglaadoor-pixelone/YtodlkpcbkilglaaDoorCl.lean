import Derived.Test.YtodlkpcbkilglaaDoorWp
namespace Go.Proofs.YtodlkpcbkilglaaDoor
open Go.RowKit Go.Shelf

/-- A block whose first bytes are these. -/
def Cb (w : World) (g n : Nat) (f : Nat → Nat) : Prop := ∃ cs : Array Value, w.heap[g]? = some (.cells cs 5 (0, 0)) ∧ n ≤ cs.size ∧ ∀ i, i < n → cs[i]? = some (.int .u8 (f i : Int))
theorem Cb.at {w : World} {g n : Nat} {f : Nat → Nat} (h : Cb w g n f) {i : Nat} (hi : i < n) : w.cell? ⟨g, i, none⟩ = some (.int .u8 (f i : Int)) := by
  obtain ⟨cs, h1, _, h3⟩ := h
  rw [cell_of_row _ _ _ _ _ _ h1, h3 i hi]
theorem Cb.fz {w : World} {g n : Nat} {f : Nat → Nat} (h : Cb w g n f) (i : Nat) : w.frozen? ⟨g, i, none⟩ = false := by
  obtain ⟨cs, h1, _, _⟩ := h
  simp [World.frozen?, h1]
theorem Cb.keep {w w' : World} {g n : Nat} {f : Nat → Nat} {ks : List Nat} (h : Cb w g n f) (hk : Kept ks w w') (hn : g ∉ ks) : Cb w' g n f := by
  obtain ⟨cs, h1, h2, h3⟩ := h
  exact ⟨cs, hk.heap h1 hn, h2, h3⟩
theorem Cb.set {w : World} {g n i v : Nat} {f : Nat → Nat} (h : Cb w g n f) (hi : i < n) : Cb (w.setCell ⟨g, i, none⟩ (.int .u8 (v : Int))) g n (fun t => if t = i then v else f t) := by
  obtain ⟨cs, h1, h2, h3⟩ := h
  refine ⟨_, heap_setCell_at h1, by simpa using h2, fun t ht => ?_⟩
  by_cases e : t = i
  · subst e
    rw [Array.getElem?_setIfInBounds_self_of_lt (by omega)]
    show some (Value.int .u8 (v : Int)) = some (Value.int .u8 ((if t = t then v else f t : Nat) : Int))
    rw [if_pos rfl]
  · rw [Array.getElem?_setIfInBounds_ne (Ne.symm e), h3 t ht]
    show some (Value.int .u8 (f t : Int)) = some (Value.int .u8 ((if t = i then v else f t : Nat) : Int))
    rw [if_neg e]
theorem Cb.congr {w : World} {g n : Nat} {f f' : Nat → Nat} (h : Cb w g n f) (hf : ∀ i, i < n → f i = f' i) : Cb w g n f' := by
  obtain ⟨cs, h1, h2, h3⟩ := h
  exact ⟨cs, h1, h2, fun i hi => by rw [h3 i hi, hf i hi]⟩
/-- Turned about, as far as k from both ends. -/
def rvS (f : Nat → Nat) (n k : Nat) : Nat → Nat := fun t => if t < k ∨ n ≤ t + k then f (n - 1 - t) else f t

set_option maxHeartbeats 8000000 in
set_option maxRecDepth 1000000 in
theorem reverse_any (g n c : Nat) (f : Nat → Nat) (w : World) (h : Cb w g n f) (hn : n ≤ 1000000000) :
    Calls Tryd.prog 101 #[.slice (some ⟨g, 0, none⟩) n c] w fun e w' => (∃ v, e = .returned v) ∧ Cb w' g n (fun t => f (n - 1 - t)) ∧ Kept [g] w w' := by
  have H0 := Hid.mk h
  clear h
  go_enter Tryd.func101, Tryd.ntmps101
  go_wp2
  go_loopw [2, 3] (fun i j wr => ∃ k : Nat, 2 * k ≤ n + 1 ∧ i = .int .i64 (k : Int) ∧ j = .int .i64 ((n : Int) - 1 - k) ∧ Cb wr g n (rvS f n k) ∧ Kept [g] w wr) (fun i _ _ => n - (intOf i).toNat)
  case atStart => exact ⟨0, by omega, rfl, by go_num, H0.out.congr (fun i hi => by unfold rvS; rw [if_neg (by omega)]), Kept.refl _ _⟩
  case round =>
    obtain ⟨k, hk, rfl, rfl, hcb, hkr⟩ := hrel
    by_cases hlt : (k : Int) < (n : Int) - 1 - k
    · obtain ⟨j, hj⟩ : ∃ j : Nat, (n : Int) - 1 - k = (j : Int) := ⟨((n : Int) - 1 - k).toNat, by omega⟩
      rw [hj] at hlt ⊢
      have c1 := hcb.at (show k < n by omega)
      have c2 := hcb.at (show j < n by omega)
      have z1 := hcb.fz k
      have z2 := hcb.fz j
      have ixk : (k : Int) < (n : Int) := by omega
      have ixj : (j : Int) < (n : Int) := by omega
      have hkj : k ≠ j := by omega
      rw [show rvS f n k k = f k by unfold rvS; rw [if_neg (by omega)]] at c1
      rw [show rvS f n k j = f j by unfold rvS; rw [if_neg (by omega)]] at c2
      have hs1 := hcb.set (i := k) (v := f j) (by omega)
      have z3 := hs1.fz j
      have c3 := hs1.at (show j < n by omega)
      have hs2 := hs1.set (i := j) (v := f k) (by omega)
      have HC : Hid (Cb ((wr.setCell ⟨g, k, none⟩ (.int .u8 (f j : Int))).setCell ⟨g, j, none⟩ (.int .u8 (f k : Int))).drew g n (rvS f n (k + 1))) := Hid.mk ((show Cb _ g n _ from hs2).congr (fun t ht => by
        unfold rvS
        by_cases e1 : t = j
        · subst e1
          rw [if_pos rfl, if_pos (by omega)]
          congr 1
          omega
        · rw [if_neg e1]
          by_cases e2 : t = k
          · subst e2
            rw [if_pos rfl, if_pos (by omega)]
            congr 1
            omega
          · rw [if_neg e2]
            by_cases e3 : t < k ∨ n ≤ t + k
            · rw [if_pos e3, if_pos (by omega)]
            · rw [if_neg e3, if_neg (by omega)]))
      have HK : Hid (Kept [g] w ((wr.setCell ⟨g, k, none⟩ (.int .u8 (f j : Int))).setCell ⟨g, j, none⟩ (.int .u8 (f k : Int))).drew) := Hid.mk (((hkr.setCell (p := ⟨g, k, none⟩) (.inl (by simp)) _).setCell (p := ⟨g, j, none⟩) (.inl (by simp)) _).drew)
      obtain ⟨x, ex⟩ : ∃ x, x = f k := ⟨_, rfl⟩
      obtain ⟨y, ey⟩ : ∃ y, y = f j := ⟨_, rfl⟩
      rw [← ex] at c1 HC HK
      rw [← ey] at c2 HC HK z3 c3
      clear ex ey hs1 hs2 hcb hkr
      go_wp2
      refine wp_region_held_drew (S := fun _ => True) (by kernel_rfl) trivial (fun hHeld => ?_)
      refine wpAnyH_take (i := 0) (v := ?_) rfl (by kernel_rfl) (by kernel_rfl) (by kernel_rfl) (fun _ _ _ h => h) (Or.inl ⟨by rfl, ?_⟩) (by assumption) ?_
      rotate_left
      · intro w hSw
        go_simp
        all_goals with_reducible rfl
      simp only [Act.put, List.getElem_toArray, List.getElem_cons_zero, List.setIfInBounds_toArray, List.set_cons_zero, List.set_cons_succ]
      refine wpAnyH_take (i := 1) (v := ?_) rfl (by kernel_rfl) (by kernel_rfl) (by kernel_rfl) (fun _ _ _ h => h) (Or.inl ⟨by rfl, ?_⟩) (by assumption) ?_
      rotate_left
      · intro w hSw
        go_simp
        all_goals with_reducible rfl
      simp only [Act.put, List.getElem_toArray, List.getElem_cons_zero, List.getElem_cons_succ, List.setIfInBounds_toArray, List.set_cons_zero, List.set_cons_succ]
      refine wpAnyH_take (i := 2) (v := ?_) rfl (by kernel_rfl) (by kernel_rfl) (by kernel_rfl) (fun _ _ _ h => h) (Or.inl ⟨by rfl, ?_⟩) (by assumption) ?_
      rotate_left
      · intro w hSw
        go_simp
        all_goals with_reducible rfl
      simp only [Act.put, List.getElem_toArray, List.getElem_cons_zero, List.getElem_cons_succ, List.setIfInBounds_toArray, List.set_cons_zero, List.set_cons_succ]
      refine wpAnyH_take (i := 3) (v := ?_) rfl (by kernel_rfl) (by kernel_rfl) (by kernel_rfl) (fun _ _ _ h => h) (Or.inl ⟨by rfl, ?_⟩) (by assumption) ?_
      rotate_left
      · intro w hSw
        go_simp
        all_goals with_reducible rfl
      simp only [Act.put, List.getElem_toArray, List.getElem_cons_zero, List.getElem_cons_succ, List.setIfInBounds_toArray, List.set_cons_zero, List.set_cons_succ]
      refine wpAnyH_take (i := 4) (v := ?_) rfl (by kernel_rfl) (by kernel_rfl) (by kernel_rfl) (fun _ _ _ h => h) (Or.inl ⟨by rfl, ?_⟩) (by assumption) ?_
      rotate_left
      · intro w hSw
        go_simp
        all_goals with_reducible rfl
      simp only [Act.put, List.getElem_toArray, List.getElem_cons_zero, List.getElem_cons_succ, List.setIfInBounds_toArray, List.set_cons_zero, List.set_cons_succ]
      refine wpAnyH_take (i := 5) (v := ?_) rfl (by kernel_rfl) (by kernel_rfl) (by kernel_rfl) (fun _ _ _ h => h) (Or.inl ⟨by rfl, ?_⟩) (by assumption) ?_
      rotate_left
      · intro w hSw
        go_simp
        all_goals with_reducible rfl
      simp only [Act.put, List.getElem_toArray, List.getElem_cons_zero, List.getElem_cons_succ, List.setIfInBounds_toArray, List.set_cons_zero, List.set_cons_succ]
      refine wpAnyH_take (i := 6) (v := ?_) rfl (by kernel_rfl) (by kernel_rfl) (by kernel_rfl) (fun _ _ _ h => h) (Or.inl ⟨by rfl, ?_⟩) (by assumption) ?_
      rotate_left
      · intro w hSw
        go_simp
        all_goals with_reducible rfl
      simp only [Act.put, List.getElem_toArray, List.getElem_cons_zero, List.getElem_cons_succ, List.setIfInBounds_toArray, List.set_cons_zero, List.set_cons_succ]
      refine wpAnyH_take (i := 8) (v := ?_) rfl (by kernel_rfl) (by kernel_rfl) (by kernel_rfl) (fun _ _ _ h => h) (Or.inl ⟨by rfl, ?_⟩) (by assumption) ?_
      rotate_left
      · intro w hSw
        go_simp
        all_goals with_reducible rfl
      simp only [Act.put, List.getElem_toArray, List.getElem_cons_zero, List.getElem_cons_succ, List.setIfInBounds_toArray, List.set_cons_zero, List.set_cons_succ]
      refine wpAnyH_take (i := 9) (v := ?_) rfl (by kernel_rfl) (by kernel_rfl) (by kernel_rfl) (fun _ _ _ h => h) (Or.inl ⟨by rfl, ?_⟩) (by assumption) ?_
      rotate_left
      · intro w hSw
        go_simp
        all_goals with_reducible rfl
      simp only [Act.put, List.getElem_toArray, List.getElem_cons_zero, List.getElem_cons_succ, List.setIfInBounds_toArray, List.set_cons_zero, List.set_cons_succ]
      refine wpAnyH_take (i := 10) (v := ?_) rfl (by kernel_rfl) (by kernel_rfl) (by kernel_rfl) (fun _ _ _ h => h) (Or.inl ⟨by rfl, ?_⟩) (by assumption) ?_
      rotate_left
      · intro w hSw
        go_simp
        all_goals with_reducible rfl
      simp only [Act.put, List.getElem_toArray, List.getElem_cons_zero, List.getElem_cons_succ, List.setIfInBounds_toArray, List.set_cons_zero, List.set_cons_succ]
      refine wpAnyH_ready (rs := [7, 11]) (by kernel_rfl) (by simp) ?_
      refine AllReadyH.cons rfl (fun K9 hK9 => ?_) (AllReadyH.cons rfl (fun K9 hK9 => ?_) AllReadyH.nil)
      · go_simp
        refine hK9.out _ _ trivial (fun hHeld2 => ?_)
        clear hK9 K9
        refine wpAnyH_ready (rs := [11]) (by kernel_rfl) (by simp) ?_
        refine AllReadyH.cons rfl (fun K9 hK9 => ?_) AllReadyH.nil
        go_simp
        refine hK9.out _ _ trivial (fun hHeld2 => ?_)
        clear hK9 K9
        refine wpAnyH_take (i := 12) (v := ?_) rfl (by kernel_rfl) (by kernel_rfl) (by kernel_rfl) (fun _ _ _ h => h) (Or.inl ⟨by rfl, ?_⟩) (by assumption) ?_
        rotate_left
        · intro w hSw
          go_simp
          all_goals with_reducible rfl
        simp only [Act.put, List.getElem_toArray, List.getElem_cons_zero, List.getElem_cons_succ, List.setIfInBounds_toArray, List.set_cons_zero, List.set_cons_succ]
        refine wpAnyH_ready (rs := [13]) (by kernel_rfl) (by simp) ?_
        refine AllReadyH.cons rfl (fun K9 hK9 => ?_) AllReadyH.nil
        go_simp
        refine hK9.out _ _ trivial (fun hHeld2 => ?_)
        clear hK9 K9
        refine wpAnyH_take (i := 14) (v := ?_) rfl (by kernel_rfl) (by kernel_rfl) (by kernel_rfl) (fun _ _ _ h => h) (Or.inl ⟨by rfl, ?_⟩) (by assumption) ?_
        rotate_left
        · intro w hSw
          go_simp
          all_goals with_reducible rfl
        simp only [Act.put, List.getElem_toArray, List.getElem_cons_zero, List.getElem_cons_succ, List.setIfInBounds_toArray, List.set_cons_zero, List.set_cons_succ]
        refine wpAnyH_ready (rs := [15]) (by kernel_rfl) (by simp) ?_
        refine AllReadyH.cons rfl (fun K9 hK9 => ?_) AllReadyH.nil
        go_simp
        refine hK9.out _ _ trivial (fun hHeld2 => ?_)
        clear hK9 K9
        refine wpAnyH_done (by kernel_rfl) ?_ _
        go_wp2
        exact ⟨⟨k + 1, by omega, by go_num, by congr 1; omega, HC.out, HK.out⟩, by simp [intOf]; omega⟩
      · go_simp
        refine hK9.out _ _ trivial (fun hHeld2 => ?_)
        clear hK9 K9
        refine wpAnyH_ready (rs := [7]) (by kernel_rfl) (by simp) ?_
        refine AllReadyH.cons rfl (fun K9 hK9 => ?_) AllReadyH.nil
        go_simp
        refine hK9.out _ _ trivial (fun hHeld2 => ?_)
        clear hK9 K9
        refine wpAnyH_take (i := 12) (v := ?_) rfl (by kernel_rfl) (by kernel_rfl) (by kernel_rfl) (fun _ _ _ h => h) (Or.inl ⟨by rfl, ?_⟩) (by assumption) ?_
        rotate_left
        · intro w hSw
          go_simp
          all_goals with_reducible rfl
        simp only [Act.put, List.getElem_toArray, List.getElem_cons_zero, List.getElem_cons_succ, List.setIfInBounds_toArray, List.set_cons_zero, List.set_cons_succ]
        refine wpAnyH_ready (rs := [13]) (by kernel_rfl) (by simp) ?_
        refine AllReadyH.cons rfl (fun K9 hK9 => ?_) AllReadyH.nil
        go_simp
        refine hK9.out _ _ trivial (fun hHeld2 => ?_)
        clear hK9 K9
        refine wpAnyH_take (i := 14) (v := ?_) rfl (by kernel_rfl) (by kernel_rfl) (by kernel_rfl) (fun _ _ _ h => h) (Or.inl ⟨by rfl, ?_⟩) (by assumption) ?_
        rotate_left
        · intro w hSw
          go_simp
          all_goals with_reducible rfl
        simp only [Act.put, List.getElem_toArray, List.getElem_cons_zero, List.getElem_cons_succ, List.setIfInBounds_toArray, List.set_cons_zero, List.set_cons_succ]
        refine wpAnyH_ready (rs := [15]) (by kernel_rfl) (by simp) ?_
        refine AllReadyH.cons rfl (fun K9 hK9 => ?_) AllReadyH.nil
        go_simp
        refine hK9.out _ _ trivial (fun hHeld2 => ?_)
        clear hK9 K9
        refine wpAnyH_done (by kernel_rfl) ?_ _
        go_wp2
        exact ⟨⟨k + 1, by omega, by go_num, by congr 1; omega, HC.out, HK.out⟩, by simp [intOf]; omega⟩
    · have hke : Cb wr g n (fun t => f (n - 1 - t)) := hcb.congr (fun t ht => by
        unfold rvS
        by_cases e3 : t < k ∨ n ≤ t + k
        · rw [if_pos e3]
        · rw [if_neg e3]
          congr 1
          omega)
      have HE := Hid.mk hke
      have HK := Hid.mk hkr
      clear hcb hkr hke
      go_wp2
      go_end0
      exact ⟨⟨_, rfl⟩, HE.out, HK.out⟩
end Go.Proofs.YtodlkpcbkilglaaDoor
