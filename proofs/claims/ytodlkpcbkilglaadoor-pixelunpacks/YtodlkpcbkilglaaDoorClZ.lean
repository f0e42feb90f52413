import Derived.Test.YtodlkpcbkilglaaDoorRgZ
import Derived.Lib.SliceRun
namespace Go.Proofs.YtodlkpcbkilglaaDoor
open Go.RowKit Go.Shelf

/-- A block whose first bytes are these. -/
def Cb (w : World) (g n : Nat) (f : Nat → Nat) : Prop := ∃ cs : Array Value, w.heap[g]? = some (.cells cs 5 (0, 0)) ∧ n ≤ cs.size ∧ ∀ i, i < n → cs[i]? = some (.int .u8 (f i : Int))
theorem Cb.at {w : World} {g n : Nat} {f : Nat → Nat} (h : Cb w g n f) {i : Nat} (hi : i < n) : w.cell? ⟨g, i, none⟩ = some (.int .u8 (f i : Int)) := by
  obtain ⟨cs, h1, _, h3⟩ := h
  rw [cell_of_row _ _ _ _ _ _ h1, h3 i hi]
theorem Cb.fz {w : World} {g n : Nat} {f : Nat → Nat} (h : Cb w g n f) (i : Nat) : w.frozen? ⟨g, i, none⟩ = false := by
  obtain ⟨cs, h1, _, _⟩ := h
  simp [World.frozen?, h1]
theorem Cb.keep {w w' : World} {g n : Nat} {f : Nat → Nat} {ks : List Nat} (h : Cb w g n f) (hk : Kept ks w w') (hn : g ∉ ks) : Cb w' g n f := by
  obtain ⟨cs, h1, h2, h3⟩ := h
  exact ⟨cs, hk.heap h1 hn, h2, h3⟩
theorem Cb.set {w : World} {g n i v : Nat} {f : Nat → Nat} (h : Cb w g n f) (hi : i < n) : Cb (w.setCell ⟨g, i, none⟩ (.int .u8 (v : Int))) g n (fun t => if t = i then v else f t) := by
  obtain ⟨cs, h1, h2, h3⟩ := h
  refine ⟨_, heap_setCell_at h1, by simpa using h2, fun t ht => ?_⟩
  by_cases e : t = i
  · subst e
    rw [Array.getElem?_setIfInBounds_self_of_lt (by omega)]
    show some (Value.int .u8 (v : Int)) = some (Value.int .u8 ((if t = t then v else f t : Nat) : Int))
    rw [if_pos rfl]
  · rw [Array.getElem?_setIfInBounds_ne (Ne.symm e), h3 t ht]
    show some (Value.int .u8 (f t : Int)) = some (Value.int .u8 ((if t = i then v else f t : Nat) : Int))
    rw [if_neg e]
theorem Cb.congr {w : World} {g n : Nat} {f f' : Nat → Nat} (h : Cb w g n f) (hf : ∀ i, i < n → f i = f' i) : Cb w g n f' := by
  obtain ⟨cs, h1, h2, h3⟩ := h
  exact ⟨cs, h1, h2, fun i hi => by rw [h3 i hi, hf i hi]⟩
/-- Turned about, as far as k from both ends. -/
def rvS (f : Nat → Nat) (n k : Nat) : Nat → Nat := fun t => if t < k ∨ n ≤ t + k then f (n - 1 - t) else f t

set_option maxHeartbeats 8000000 in
set_option maxRecDepth 1000000 in
theorem reverse_any (g n c : Nat) (f : Nat → Nat) (w : World) (h : Cb w g n f) (hn : n ≤ 1000000000) :
    Calls Tryd.prog 101 #[.slice (some ⟨g, 0, none⟩) n c] w fun e w' => (∃ v, e = .returned v) ∧ Cb w' g n (fun t => f (n - 1 - t)) ∧ Kept [g] w w' := by
  have H0 := Hid.mk h
  clear h
  go_enter Tryd.func101, Tryd.ntmps101
  go_wp2
  go_loopw [2, 3] (fun i j wr => ∃ k : Nat, 2 * k ≤ n + 1 ∧ i = .int .i64 (k : Int) ∧ j = .int .i64 ((n : Int) - 1 - k) ∧ Cb wr g n (rvS f n k) ∧ Kept [g] w wr) (fun i _ _ => n - (intOf i).toNat)
  case atStart => exact ⟨0, by omega, rfl, by go_num, H0.out.congr (fun i hi => by unfold rvS; rw [if_neg (by omega)]), Kept.refl _ _⟩
  case round =>
    obtain ⟨k, hk, rfl, rfl, hcb, hkr⟩ := hrel
    by_cases hlt : (k : Int) < (n : Int) - 1 - k
    · obtain ⟨j, hj⟩ : ∃ j : Nat, (n : Int) - 1 - k = (j : Int) := ⟨((n : Int) - 1 - k).toNat, by omega⟩
      rw [hj] at hlt ⊢
      have c1 := hcb.at (show k < n by omega)
      have c2 := hcb.at (show j < n by omega)
      have z1 := hcb.fz k
      have z2 := hcb.fz j
      have ixk : (k : Int) < (n : Int) := by omega
      have ixj : (j : Int) < (n : Int) := by omega
      have hkj : k ≠ j := by omega
      rw [show rvS f n k k = f k by unfold rvS; rw [if_neg (by omega)]] at c1
      rw [show rvS f n k j = f j by unfold rvS; rw [if_neg (by omega)]] at c2
      have hs1 := hcb.set (i := k) (v := f j) (by omega)
      have z3 := hs1.fz j
      have c3 := hs1.at (show j < n by omega)
      have hs2 := hs1.set (i := j) (v := f k) (by omega)
      have HC : Hid (Cb ((wr.setCell ⟨g, k, none⟩ (.int .u8 (f j : Int))).setCell ⟨g, j, none⟩ (.int .u8 (f k : Int))).drew g n (rvS f n (k + 1))) := Hid.mk ((show Cb _ g n _ from hs2).congr (fun t ht => by
        unfold rvS
        by_cases e1 : t = j
        · subst e1
          rw [if_pos rfl, if_pos (by omega)]
          congr 1
          omega
        · rw [if_neg e1]
          by_cases e2 : t = k
          · subst e2
            rw [if_pos rfl, if_pos (by omega)]
            congr 1
            omega
          · rw [if_neg e2]
            by_cases e3 : t < k ∨ n ≤ t + k
            · rw [if_pos e3, if_pos (by omega)]
            · rw [if_neg e3, if_neg (by omega)]))
      have HK : Hid (Kept [g] w ((wr.setCell ⟨g, k, none⟩ (.int .u8 (f j : Int))).setCell ⟨g, j, none⟩ (.int .u8 (f k : Int))).drew) := Hid.mk (((hkr.setCell (p := ⟨g, k, none⟩) (.inl (by simp)) _).setCell (p := ⟨g, j, none⟩) (.inl (by simp)) _).drew)
      obtain ⟨x, ex⟩ : ∃ x, x = f k := ⟨_, rfl⟩
      obtain ⟨y, ey⟩ : ∃ y, y = f j := ⟨_, rfl⟩
      rw [← ex] at c1 HC HK
      rw [← ey] at c2 HC HK z3 c3
      clear ex ey hs1 hs2 hcb hkr
      go_wp2
      refine wp_region_held_drew (S := fun _ => True) (by kernel_rfl) trivial (fun hHeld => ?_)
      refine wpAnyH_take (i := 0) (v := ?_) rfl (by kernel_rfl) (by kernel_rfl) (by kernel_rfl) (fun _ _ _ h => h) (Or.inl ⟨by rfl, ?_⟩) (by assumption) ?_
      rotate_left
      · intro w hSw
        go_simp
        all_goals with_reducible rfl
      simp only [Act.put, List.getElem_toArray, List.getElem_cons_zero, List.setIfInBounds_toArray, List.set_cons_zero, List.set_cons_succ]
      refine wpAnyH_take (i := 1) (v := ?_) rfl (by kernel_rfl) (by kernel_rfl) (by kernel_rfl) (fun _ _ _ h => h) (Or.inl ⟨by rfl, ?_⟩) (by assumption) ?_
      rotate_left
      · intro w hSw
        go_simp
        all_goals with_reducible rfl
      simp only [Act.put, List.getElem_toArray, List.getElem_cons_zero, List.getElem_cons_succ, List.setIfInBounds_toArray, List.set_cons_zero, List.set_cons_succ]
      refine wpAnyH_take (i := 2) (v := ?_) rfl (by kernel_rfl) (by kernel_rfl) (by kernel_rfl) (fun _ _ _ h => h) (Or.inl ⟨by rfl, ?_⟩) (by assumption) ?_
      rotate_left
      · intro w hSw
        go_simp
        all_goals with_reducible rfl
      simp only [Act.put, List.getElem_toArray, List.getElem_cons_zero, List.getElem_cons_succ, List.setIfInBounds_toArray, List.set_cons_zero, List.set_cons_succ]
      refine wpAnyH_take (i := 3) (v := ?_) rfl (by kernel_rfl) (by kernel_rfl) (by kernel_rfl) (fun _ _ _ h => h) (Or.inl ⟨by rfl, ?_⟩) (by assumption) ?_
      rotate_left
      · intro w hSw
        go_simp
        all_goals with_reducible rfl
      simp only [Act.put, List.getElem_toArray, List.getElem_cons_zero, List.getElem_cons_succ, List.setIfInBounds_toArray, List.set_cons_zero, List.set_cons_succ]
      refine wpAnyH_take (i := 4) (v := ?_) rfl (by kernel_rfl) (by kernel_rfl) (by kernel_rfl) (fun _ _ _ h => h) (Or.inl ⟨by rfl, ?_⟩) (by assumption) ?_
      rotate_left
      · intro w hSw
        go_simp
        all_goals with_reducible rfl
      simp only [Act.put, List.getElem_toArray, List.getElem_cons_zero, List.getElem_cons_succ, List.setIfInBounds_toArray, List.set_cons_zero, List.set_cons_succ]
      refine wpAnyH_take (i := 5) (v := ?_) rfl (by kernel_rfl) (by kernel_rfl) (by kernel_rfl) (fun _ _ _ h => h) (Or.inl ⟨by rfl, ?_⟩) (by assumption) ?_
      rotate_left
      · intro w hSw
        go_simp
        all_goals with_reducible rfl
      simp only [Act.put, List.getElem_toArray, List.getElem_cons_zero, List.getElem_cons_succ, List.setIfInBounds_toArray, List.set_cons_zero, List.set_cons_succ]
      refine wpAnyH_take (i := 6) (v := ?_) rfl (by kernel_rfl) (by kernel_rfl) (by kernel_rfl) (fun _ _ _ h => h) (Or.inl ⟨by rfl, ?_⟩) (by assumption) ?_
      rotate_left
      · intro w hSw
        go_simp
        all_goals with_reducible rfl
      simp only [Act.put, List.getElem_toArray, List.getElem_cons_zero, List.getElem_cons_succ, List.setIfInBounds_toArray, List.set_cons_zero, List.set_cons_succ]
      refine wpAnyH_take (i := 8) (v := ?_) rfl (by kernel_rfl) (by kernel_rfl) (by kernel_rfl) (fun _ _ _ h => h) (Or.inl ⟨by rfl, ?_⟩) (by assumption) ?_
      rotate_left
      · intro w hSw
        go_simp
        all_goals with_reducible rfl
      simp only [Act.put, List.getElem_toArray, List.getElem_cons_zero, List.getElem_cons_succ, List.setIfInBounds_toArray, List.set_cons_zero, List.set_cons_succ]
      refine wpAnyH_take (i := 9) (v := ?_) rfl (by kernel_rfl) (by kernel_rfl) (by kernel_rfl) (fun _ _ _ h => h) (Or.inl ⟨by rfl, ?_⟩) (by assumption) ?_
      rotate_left
      · intro w hSw
        go_simp
        all_goals with_reducible rfl
      simp only [Act.put, List.getElem_toArray, List.getElem_cons_zero, List.getElem_cons_succ, List.setIfInBounds_toArray, List.set_cons_zero, List.set_cons_succ]
      refine wpAnyH_take (i := 10) (v := ?_) rfl (by kernel_rfl) (by kernel_rfl) (by kernel_rfl) (fun _ _ _ h => h) (Or.inl ⟨by rfl, ?_⟩) (by assumption) ?_
      rotate_left
      · intro w hSw
        go_simp
        all_goals with_reducible rfl
      simp only [Act.put, List.getElem_toArray, List.getElem_cons_zero, List.getElem_cons_succ, List.setIfInBounds_toArray, List.set_cons_zero, List.set_cons_succ]
      refine wpAnyH_ready (rs := [7, 11]) (by kernel_rfl) (by simp) ?_
      refine AllReadyH.cons rfl (fun K9 hK9 => ?_) (AllReadyH.cons rfl (fun K9 hK9 => ?_) AllReadyH.nil)
      · go_simp
        refine hK9.out _ _ trivial (fun hHeld2 => ?_)
        clear hK9 K9
        refine wpAnyH_ready (rs := [11]) (by kernel_rfl) (by simp) ?_
        refine AllReadyH.cons rfl (fun K9 hK9 => ?_) AllReadyH.nil
        go_simp
        refine hK9.out _ _ trivial (fun hHeld2 => ?_)
        clear hK9 K9
        refine wpAnyH_take (i := 12) (v := ?_) rfl (by kernel_rfl) (by kernel_rfl) (by kernel_rfl) (fun _ _ _ h => h) (Or.inl ⟨by rfl, ?_⟩) (by assumption) ?_
        rotate_left
        · intro w hSw
          go_simp
          all_goals with_reducible rfl
        simp only [Act.put, List.getElem_toArray, List.getElem_cons_zero, List.getElem_cons_succ, List.setIfInBounds_toArray, List.set_cons_zero, List.set_cons_succ]
        refine wpAnyH_ready (rs := [13]) (by kernel_rfl) (by simp) ?_
        refine AllReadyH.cons rfl (fun K9 hK9 => ?_) AllReadyH.nil
        go_simp
        refine hK9.out _ _ trivial (fun hHeld2 => ?_)
        clear hK9 K9
        refine wpAnyH_take (i := 14) (v := ?_) rfl (by kernel_rfl) (by kernel_rfl) (by kernel_rfl) (fun _ _ _ h => h) (Or.inl ⟨by rfl, ?_⟩) (by assumption) ?_
        rotate_left
        · intro w hSw
          go_simp
          all_goals with_reducible rfl
        simp only [Act.put, List.getElem_toArray, List.getElem_cons_zero, List.getElem_cons_succ, List.setIfInBounds_toArray, List.set_cons_zero, List.set_cons_succ]
        refine wpAnyH_ready (rs := [15]) (by kernel_rfl) (by simp) ?_
        refine AllReadyH.cons rfl (fun K9 hK9 => ?_) AllReadyH.nil
        go_simp
        refine hK9.out _ _ trivial (fun hHeld2 => ?_)
        clear hK9 K9
        refine wpAnyH_done (by kernel_rfl) ?_ _
        go_wp2
        exact ⟨⟨k + 1, by omega, by go_num, by congr 1; omega, HC.out, HK.out⟩, by simp [intOf]; omega⟩
      · go_simp
        refine hK9.out _ _ trivial (fun hHeld2 => ?_)
        clear hK9 K9
        refine wpAnyH_ready (rs := [7]) (by kernel_rfl) (by simp) ?_
        refine AllReadyH.cons rfl (fun K9 hK9 => ?_) AllReadyH.nil
        go_simp
        refine hK9.out _ _ trivial (fun hHeld2 => ?_)
        clear hK9 K9
        refine wpAnyH_take (i := 12) (v := ?_) rfl (by kernel_rfl) (by kernel_rfl) (by kernel_rfl) (fun _ _ _ h => h) (Or.inl ⟨by rfl, ?_⟩) (by assumption) ?_
        rotate_left
        · intro w hSw
          go_simp
          all_goals with_reducible rfl
        simp only [Act.put, List.getElem_toArray, List.getElem_cons_zero, List.getElem_cons_succ, List.setIfInBounds_toArray, List.set_cons_zero, List.set_cons_succ]
        refine wpAnyH_ready (rs := [13]) (by kernel_rfl) (by simp) ?_
        refine AllReadyH.cons rfl (fun K9 hK9 => ?_) AllReadyH.nil
        go_simp
        refine hK9.out _ _ trivial (fun hHeld2 => ?_)
        clear hK9 K9
        refine wpAnyH_take (i := 14) (v := ?_) rfl (by kernel_rfl) (by kernel_rfl) (by kernel_rfl) (fun _ _ _ h => h) (Or.inl ⟨by rfl, ?_⟩) (by assumption) ?_
        rotate_left
        · intro w hSw
          go_simp
          all_goals with_reducible rfl
        simp only [Act.put, List.getElem_toArray, List.getElem_cons_zero, List.getElem_cons_succ, List.setIfInBounds_toArray, List.set_cons_zero, List.set_cons_succ]
        refine wpAnyH_ready (rs := [15]) (by kernel_rfl) (by simp) ?_
        refine AllReadyH.cons rfl (fun K9 hK9 => ?_) AllReadyH.nil
        go_simp
        refine hK9.out _ _ trivial (fun hHeld2 => ?_)
        clear hK9 K9
        refine wpAnyH_done (by kernel_rfl) ?_ _
        go_wp2
        exact ⟨⟨k + 1, by omega, by go_num, by congr 1; omega, HC.out, HK.out⟩, by simp [intOf]; omega⟩
    · have hke : Cb wr g n (fun t => f (n - 1 - t)) := hcb.congr (fun t ht => by
        unfold rvS
        by_cases e3 : t < k ∨ n ≤ t + k
        · rw [if_pos e3]
        · rw [if_neg e3]
          congr 1
          omega)
      have HE := Hid.mk hke
      have HK := Hid.mk hkr
      clear hcb hkr hke
      go_wp2
      go_end0
      exact ⟨⟨_, rfl⟩, HE.out, HK.out⟩
end Go.Proofs.YtodlkpcbkilglaaDoor

namespace Go.Proofs.YtodlkpcbkilglaaDoor
open Go.RowKit Go.Shelf

theorem eql_some (w : World) (a : Addr) (n c : Nat) : Sem.run Tryd.prog (binOp .eql 37 (.slice (some a) n c) (.slice none 0 0)) w = .ok (.bool false) w := by
  exact Lib.run_eql_slice_nil w 37 5 (some a) n c 0 0 Tryd.underlying37
set_option maxHeartbeats 4000000 in
set_option maxRecDepth 1000000 in
/-- slices.Clone of bytes. -/
theorem clone_any (g n c : Nat) (f : Nat → Nat) (w : World) (h : Cb w g n f) (hn : n ≤ 1000000000) :
    Calls Tryd.prog 100 #[.slice (some ⟨g, 0, none⟩) n c] w fun e w' => ∃ g1 c1, e = .returned (.slice (some ⟨g1, 0, none⟩) n c1) ∧ w.heap.size ≤ g1 ∧ g1 < w'.heap.size ∧ n ≤ c1 ∧ Cb w' g1 n f ∧ Kept [] w w' := by
  obtain ⟨j0, gi, gz0, gz1, gz2⟩ := info_parts Bt.Tryd.info5
  have ho : (w.alloc (.cells #[] 5)).ownsRow w.heap.size 5 1 (.slice (some ⟨w.heap.size, 0, none⟩) 0 0) 0 ([] : List Value) := World.ownsRow_lit w #[] 0 (Nat.le_refl _) (by decide) rfl
  have HO := Hid.mk ho
  have hq := eql_some w ⟨g, 0, none⟩ n c
  have H0 := Hid.mk h
  clear ho h
  go_enter Tryd.func100, Tryd.ntmps100
  go_wp2_with (at_builtin; refine wpList_append_own_at _ rfl _ _ 37 rfl w.heap.size 5 j0 (.int .u8 0) 1 1 Tryd.underlying37 gi gz0 gz1 gz2 rfl (by decide) _ 0 [] rfl HO.out ⟨g, 0, none⟩ n c (fl (fun i => .int .u8 (f i : Int)) n) rfl ?c1 ?c2 ?c3 ?c4 ?c5 ?c6 ?_)
  case c1 => rw [fl_length, Nat.mul_one]
  case c2 =>
    intro j x hj
    have hjm : j < n := by
      rcases Nat.lt_or_ge j n with h | h
      · exact h
      · rw [List.getElem?_eq_none (by rw [fl_length]; exact h)] at hj; cases hj
    rw [fl_at _ _ _ hjm] at hj
    cases hj
    rw [show (⟨g, 0, none⟩ : Addr).add j = ⟨g, 0 + j, none⟩ by unfold Addr.add; split <;> simp_all, Nat.zero_add]
    exact cell_keep (alloc_kept w _) (H0.out.at hjm) (by simp)
  case c3 =>
    intro x hx
    simp only [fl, List.mem_map] at hx
    obtain ⟨i, _, rfl⟩ := hx
    rfl
  case c4 => unfold maxLen; omega
  case c5 => omega
  case c6 => rw [World.size_alloc]; omega
  intro v' w' h2 h3 h4 _
  have hk : Kept [] w w' := (alloc_kept w _).step (Kept.of_grown h3) (fun x hx => by simp [Value.ownBlock] at hx; subst hx; exact .inr (Nat.le_refl _))
  rcases h2.2 with ⟨e, h0⟩ | ⟨g1, cap, cur, e, hb, hg, hc, _, hcs, htk⟩
  · exact absurd e h4
  · subst e
    have HR : Hid (w.heap.size ≤ g1 ∧ g1 < w'.heap.size ∧ n ≤ cap ∧ Cb w' g1 n f ∧ Kept [] w w') := Hid.mk ⟨hb, lt_of_block hg, hc, ⟨cur, hg, by omega, fun i hi => by
      have hcc := h2.cells (g := g1) rfl i _ (fl_at _ n i hi)
      rw [show (⟨g1, 0, none⟩ : Addr).add i = ⟨g1, 0 + i, none⟩ by unfold Addr.add; split <;> simp_all, Nat.zero_add] at hcc
      rw [cell_of_row _ _ _ _ _ _ hg] at hcc
      exact hcc⟩, hk⟩
    clear h2 h3 h4 hb hg hc hcs htk hk
    go_wp2
    go_ret
    exact ⟨g1, cap, rfl, HR.out⟩

set_option maxHeartbeats 4000000 in
set_option maxRecDepth 1000000 in
/-- The same bytes, the last one first. -/
theorem backB_any (g n c : Nat) (f : Nat → Nat) (w : World) (h : Cb w g n f) (hn : n ≤ 1000000000) :
    Calls Tryd.prog 82 #[.slice (some ⟨g, 0, none⟩) n c] w fun e w' => ∃ g1 c1, e = .returned (.slice (some ⟨g1, 0, none⟩) n c1) ∧ w.heap.size ≤ g1 ∧ g1 < w'.heap.size ∧ n ≤ c1 ∧ Cb w' g1 n (fun t => f (n - 1 - t)) ∧ Kept [] w w' := by
  have C1 := Hid.mk (clone_any g n c f w h hn)
  clear h
  go_enter Tryd.func82, Tryd.ntmps82
  go_wp2_with (go_at_call 100; refine C1.out.mono ?_; rintro e w2 ⟨g1, c1, rfl, hg1, hl1, hc1, hb1, hk1⟩)
  have C2 := Hid.mk (reverse_any g1 n c1 f w2 hb1 hn)
  have HH := Hid.mk (And.intro hg1 (And.intro hl1 (And.intro hc1 hk1)))
  clear hg1 hl1 hc1 hk1 hb1
  go_wp2_with (go_at_call 101; refine C2.out.mono ?_; rintro e w3 ⟨⟨v, rfl⟩, hb2, hk2⟩)
  go_ret
  obtain ⟨a1, a2, a3, a4⟩ := HH.out
  exact ⟨g1, c1, rfl, a1, Nat.lt_of_lt_of_le a2 hk2.size, a3, hb2, a4.step hk2 (fun x hx => by simp at hx; subst hx; exact .inr a1)⟩

/-- A byte of a number, by its place from the back. -/
theorem big_at (n : Nat) : ∀ (X i : Nat), i < n → (Bt.big n X)[i]? = some (X / 256 ^ (n - 1 - i) % 256) := by
  induction n with
  | zero => intro X i h; omega
  | succ n ih =>
    intro X i h
    rw [Bt.big]
    rcases Nat.lt_or_ge i n with h1 | h1
    · rw [List.getElem?_append_left (by rw [Bt.big_length]; exact h1), ih _ _ h1, Nat.div_div_eq_div_mul, ← Nat.pow_succ', show (n - 1 - i).succ = n + 1 - 1 - i by omega]
    · have : i = n := by omega
      subst this
      rw [List.getElem?_append_right (by rw [Bt.big_length]; omega), Bt.big_length, Nat.sub_self, Nat.add_sub_cancel, Nat.sub_self]
      simp
theorem Cb.of_list {w : World} {g : Nat} {X : List Nat} (h : w.heap[g]? = some (.cells (X.map Bt.byt).toArray 5 (0, 0))) (f : Nat → Nat) (n : Nat) (hn : n ≤ X.length) (hf : ∀ i, i < n → X[i]? = some (f i)) : Cb w g n f :=
  ⟨_, h, by simpa using hn, fun i hi => by simp [hf i hi, Bt.byt]⟩
theorem bkN_div (f : Nat → Nat) (hf : ∀ i, f i < 65536) (n : Nat) : ∀ (j k : Nat), j ≤ k → bkN f n k / 65536 ^ j = bkN f n (k - j) := by
  intro j
  induction j with
  | zero => intro k _; simp
  | succ j ih =>
    intro k hk
    obtain ⟨k, rfl⟩ : ∃ m, k = m + 1 := ⟨k - 1, by omega⟩
    rw [Nat.pow_succ', ← Nat.div_div_eq_div_mul, show bkN f n (k + 1) / 65536 = bkN f n k by rw [bkN]; have := hf (n - 1 - k); omega, ih k (by omega), show k + 1 - (j + 1) = k - j by omega]
/-- A sample's bytes, the lowest one first. -/
theorem bkN_byte (f : Nat → Nat) (hf : ∀ i, f i < 65536) (n t : Nat) (ht : t < 2 * n) : bkN f n n / 256 ^ t % 256 = f (t / 2) / 256 ^ (t % 2) % 256 := by
  have h1 : 256 ^ t = 65536 ^ (t / 2) * 256 ^ (t % 2) := by
    rw [show 65536 = 256 ^ 2 from rfl, ← Nat.pow_mul, ← Nat.pow_add]
    congr 1
    omega
  rw [h1, ← Nat.div_div_eq_div_mul, bkN_div f hf n _ n (by omega)]
  obtain ⟨m, hm⟩ : ∃ m, n - t / 2 = m + 1 := ⟨n - t / 2 - 1, by omega⟩
  rw [hm, bkN, show n - 1 - m = t / 2 by omega]
  have hx := hf (t / 2)
  rcases Nat.mod_two_eq_zero_or_one t with h | h
  · rw [h]; omega
  · rw [h]; omega

/-- A row of samples, two bytes each, the lower one first. -/
def plB (f : Nat → Nat) (t : Nat) : Nat := f (t / 2) / 256 ^ (t % 2) % 256
theorem writeP (g1 o1 cr n c : Nat) (ao : Option Addr) (f : Nat → Nat) (w : World) (hrow : w.cell? ⟨g1, o1, none⟩ = some (.slice ao n c)) (hr : Rd w ao n f) (hf : ∀ i, f i < 65536) (hn : n ≤ 4096) :
    Calls Tryd.prog 61 #[.slice (some ⟨g1, o1, none⟩) 1 cr] w fun e w' => ∃ g c1, e = .returned (.slice (some ⟨g, 0, none⟩) (2 * n) c1) ∧ w.heap.size ≤ g ∧ Cb w' g (2 * n) (plB f) ∧ Kept [] w w' := by
  refine (writeP_any g1 o1 cr n c ao f w hrow hr hf hn (fun u v => ∃ g c1, v = .slice (some ⟨g, 0, none⟩) (2 * n) c1 ∧ w.heap.size + 3 < g ∧ Cb u g (2 * n) (plB f)) ?_ ?_).mono ?_
  · intro u X g hX hb hsz
    have e1 : (16 * n + 7) / 8 = 2 * n := by omega
    rw [e1] at hX ⊢
    have hcb : Cb u g (2 * n) (fun i => bkN f n n / 256 ^ (2 * n - 1 - i) % 256) := Cb.of_list hb _ _ (by rw [hX, Bt.big_length]; exact Nat.le_refl _) (fun i hi => by
      rw [hX, show 8 * (2 * n) - 16 * n = 0 by omega, Nat.pow_zero, Nat.mul_one, big_at _ _ _ hi])
    refine (backB_any g (2 * n) (2 * n) _ u hcb (by omega)).mono ?_
    rintro e u' ⟨g2, c2, rfl, h1, h2, h3, h4, h5⟩
    refine ⟨_, rfl, ⟨g2, c2, rfl, by omega, h4.congr (fun t ht => ?_)⟩, h5⟩
    show bkN f n n / 256 ^ (2 * n - 1 - (2 * n - 1 - t)) % 256 = _
    rw [show 2 * n - 1 - (2 * n - 1 - t) = t by omega, bkN_byte f hf n t ht]
    rfl
  · rintro u v o ⟨g, c1, rfl, h1, h2⟩
    exact ⟨g, c1, rfl, h1, h2.keep ((Kept.refl [w.heap.size + 3] u).putObj o (.inl (by simp))) (by simp; omega)⟩
  · rintro e w' ⟨v, rfl, ⟨g, c1, rfl, h1, h2⟩, h3⟩
    exact ⟨g, c1, rfl, by omega, h2, h3⟩
end Go.Proofs.YtodlkpcbkilglaaDoor
