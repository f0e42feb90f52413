import Derived.Test.YthhegomjipbdbaaGreatDoorpHZ
import Derived.Test.YthhegomjipbdbaaGreatDooryPeZ
namespace Go.Proofs.YthhegomjipbdbaaGreatDoor.Pc
open Go.RowKit

theorem Tryz.infoI : (Tryz.prog.info? 3).map (fun i => (i.zero, i.size, i.bytes)) = some (some (.int .i64 0), 1, 8) := by kernel_rfl
theorem Tryz.infoH : (Tryz.prog.info? 27).map (·.size) = some 13 := by kernel_rfl
theorem Tryz.infoD : (Tryz.prog.info? 105).map (·.size) = some 14 := by kernel_rfl
/-- Lengths, of which k are written. -/
def lnC (l : Nat → Nat) (k N : Nat) : List Value := Tl.fl (fun i => if i < k then .int .i64 (l i : Int) else .int .i64 0) N
theorem lnC_len (l : Nat → Nat) (k N : Nat) : (lnC l k N).length = N := Tl.fl_length _ _
theorem lnC_at {l : Nat → Nat} {k N i : Nat} (h : i < k) (hk : k ≤ N) : (lnC l k N)[i]? = some (.int .i64 (l i : Int)) := by
  unfold lnC; rw [Tl.fl_at _ _ _ (by omega), if_pos h]
theorem lnC_zero (l : Nat → Nat) (N : Nat) : lnC l 0 N = List.replicate N (.int .i64 0) := by
  apply List.ext_getElem?
  intro i
  by_cases h : i < N
  · unfold lnC; rw [Tl.fl_at _ _ _ h, if_neg (by omega)]; simp [h]
  · rw [List.getElem?_eq_none (by rw [lnC_len]; omega), List.getElem?_eq_none (by simp; omega)]
theorem lnC_set (l : Nat → Nat) (k N : Nat) : (lnC l k N).set k (.int .i64 (l k : Int)) = lnC l (k + 1) N := by
  apply List.ext_getElem?
  intro i
  by_cases h : i < N
  · rw [List.getElem?_set]
    unfold lnC
    rw [Tl.fl_at _ _ _ h, Tl.fl_at _ _ _ h, Tl.fl_length]
    by_cases e : k = i
    · subst e; rw [if_pos rfl, if_pos h, if_pos (by omega)]
    · rw [if_neg e]
      by_cases h2 : i < k
      · rw [if_pos h2, if_pos (by omega)]
      · rw [if_neg h2, if_neg (by omega)]
  · rw [List.getElem?_eq_none (by rw [List.length_set, lnC_len]; omega), List.getElem?_eq_none (by rw [lnC_len]; omega)]
theorem make_ints (r : Nat) (hr : r ≤ 1000000) (w : World) : ∃ w', Sem.run Tryz.prog (Instr.makeSlice 78 (.int .i64 (r : Int)) (.int .i64 (r : Int))) w = .ok (.slice (some ⟨w.heap.size, 0, none⟩) r r) w' ∧ (∀ l, w'.heap[w.heap.size]? = some (.cells (lnC l 0 r).toArray 3 (0, 0))) ∧ Kept [] w w' := by
  obtain ⟨j0, gi, gz0, gz1, gz2⟩ := info_parts Tryz.infoI
  obtain ⟨w', hrun, r1, r2⟩ := run_make_full (P := Tryz.prog) w 0 78 3 j0 (.int .i64 0) 1 Tryz.underlying78 gi gz0 gz1 .i64 .i64 r (by rw [gz2]; omega) (by unfold maxLen; omega) (by omega)
  have hr3 := row_heap r1 rfl
  rw [show (madeCells (Value.int .i64 0).cells (r * 1)).toList = List.replicate r (.int .i64 0) by rw [Nat.mul_one]; exact toList_madeCells_one _ _] at hr3
  exact ⟨w', hrun, fun l => by rw [lnC_zero]; exact hr3, (Kept.of_grown r2).mono (by simp)⟩
/-- A draft as a value. -/
abbrev dfv (W H D : Int) (A : Bool) (sw sh : Int) (r : Nat → Int) (N p ln : Nat) (go : Option Addr) (c : Nat) : Value :=
  .agg #[.int .i64 W, .int .i64 H, .int .i64 D, .bool A, .int .i64 sw, .int .i64 sh, .int .i64 (r 0), .int .i64 (r 1), .int .i64 (r 2), .int .i64 (r 3), .int .i64 (N : Int), .int .i64 (p : Int), .int .i64 (ln : Int), .slice go N c]
/-- Rows by their lengths. -/
def lnf (L : List (List Nat)) (i : Nat) : Nat := (L.getD i []).length

set_option maxHeartbeats 8000000 in
set_option maxRecDepth 1000000 in
theorem newDraft_any (W H D : Int) (A : Bool) (sw sh : Int) (lo : Option Addr) (n c : Nat) (cap : Int) (p : Nat) (r : Nat → Int) (go : Option Addr) (N gc : Nat) (L : List (List Nat)) (w : World)
    (hL : Py.MC w go L) (hN : L.length = N) (h1 : 1 ≤ N) (h2 : N ≤ 70000) (hp : p ≤ 16) (hl : ∀ i, i < N → lnf L i ≤ 20000000) :
    Calls Tryz.prog 72 #[Tl.shv W H D A, cfv sw sh lo n c cap (p : Int), rgv r, .slice go N gc] w fun e w' => e = .returned (dfv W H D A sw sh r N p (rcl (lnf L) N p) go gc) ∧ Kept [] w w' := by
  obtain ⟨w1, e1⟩ : ∃ w1, w.alloc (.cells #[.int .i64 W, .int .i64 H, .int .i64 D, .bool A] 23 (0, 0)) = w1 := ⟨_, rfl⟩
  obtain ⟨w2, e2⟩ : ∃ w2, w1.alloc (.cells #[.int .i64 sw, .int .i64 sh, .slice lo n c, .int .i64 cap, .int .i64 (p : Int)] 45 (0, 0)) = w2 := ⟨_, rfl⟩
  obtain ⟨w3, e3⟩ : ∃ w3, w2.alloc (.cells #[.int .i64 (r 0), .int .i64 (r 1), .int .i64 (r 2), .int .i64 (r 3)] 25 (0, 0)) = w3 := ⟨_, rfl⟩
  obtain ⟨w4, e4⟩ : ∃ w4, w3.alloc (.cells #[.int .i64 0, .int .i64 0, .int .i64 0, .bool false, .int .i64 0, .int .i64 0, .int .i64 0, .int .i64 0, .int .i64 0, .int .i64 0, .int .i64 0, .int .i64 0, .int .i64 0, .slice none 0 0] 105 (0, 0)) = w4 := ⟨_, rfl⟩
  obtain ⟨B, eB⟩ : ∃ B, w.heap.size = B := ⟨_, rfl⟩
  have z1 : w1.heap.size = B + 1 := by rw [← e1, ← eB]; exact Array.size_push _
  have z2 : w2.heap.size = B + 1 + 1 := by rw [← z1, ← e2]; exact Array.size_push _
  have z3 : w3.heap.size = B + 1 + 1 + 1 := by rw [← z2, ← e3]; exact Array.size_push _
  have k1 : Kept [] w w1 := by rw [← e1]; exact (Kept.refl [] w).alloc _
  have k2 : Kept [] w1 w2 := by rw [← e2]; exact (Kept.refl [] w1).alloc _
  have k3 : Kept [] w2 w3 := by rw [← e3]; exact (Kept.refl [] w2).alloc _
  have k4 : Kept [] w3 w4 := by rw [← e4]; exact (Kept.refl [] w3).alloc _
  have HB0 := Hid.mk (((k2.trans k3).trans k4).heap (show w1.heap[B]? = some (.cells #[.int .i64 W, .int .i64 H, .int .i64 D, .bool A] 23 (0, 0)) by rw [← e1, ← eB]; exact heap_alloc_new _ _) (by simp))
  have HB1 := Hid.mk ((k3.trans k4).heap (show w2.heap[B + 1]? = some (.cells #[.int .i64 sw, .int .i64 sh, .slice lo n c, .int .i64 cap, .int .i64 (p : Int)] 45 (0, 0)) by rw [← e2, ← z1]; exact heap_alloc_new _ _) (by simp))
  have HB2 := Hid.mk (k4.heap (show w3.heap[B + 1 + 1]? = some (.cells #[.int .i64 (r 0), .int .i64 (r 1), .int .i64 (r 2), .int .i64 (r 3)] 25 (0, 0)) by rw [← e3, ← z2]; exact heap_alloc_new _ _) (by simp))
  have HB3 := Hid.mk (show w4.heap[B + 1 + 1 + 1]? = some (.cells #[.int .i64 0, .int .i64 0, .int .i64 0, .bool false, .int .i64 0, .int .i64 0, .int .i64 0, .int .i64 0, .int .i64 0, .int .i64 0, .int .i64 0, .int .i64 0, .int .i64 0, .slice none 0 0] 105 (0, 0)) by rw [← e4, ← z3]; exact heap_alloc_new _ _)
  have K4 := Hid.mk (((k1.trans k2).trans k3).trans k4)
  have HL := Hid.mk (hL.keep K4.out)
  have HNN := Hid.mk hN
  have HLL := Hid.mk hl
  obtain ⟨w5, m5, i5, k5⟩ := make_ints N (by omega) w4
  have K5 := Hid.mk k5
  obtain ⟨g, eg⟩ : ∃ g, w4.heap.size = g := ⟨_, rfl⟩
  rw [eg] at m5 i5
  have I5 := Hid.mk (i5 (lnf L))
  have EG := Hid.mk eg
  have HB := Hid.mk eB
  clear hL hl hN k1 k2 k3 k4 k5 i5
  go_enter Tryz.func72, Tryz.ntmps72
  go_wp2
  clear m5 eg e1 e2 e3 e4 z1 z2 z3 eB
  go_loopw [18] (fun i wr => ∃ k : Nat, k ≤ N ∧ i = .int .i64 (k : Int) ∧ Hid (wr.heap[g]? = some (.cells (lnC (lnf L) k N).toArray 3 (0, 0)) ∧ Kept [g] w5 wr)) (fun i _ => N - (intOf i).toNat)
  case atStart => exact ⟨0, Nat.zero_le _, rfl, Hid.mk ⟨I5.out, Kept.refl _ _⟩⟩
  case round =>
    obtain ⟨k, hk, rfl, HI⟩ := hrel
    have HKK : Hid (Kept [] w4 wr) := Hid.mk (K5.out.step HI.out.2 (fun x hx => by simp at hx; subst hx; exact .inr (by rw [EG.out]; exact Nat.le_refl _)))
    by_cases hlt : k < N
    · obtain ⟨pg, off, bo, cap9, rfl, hc, hc2, hc3⟩ := (HL.out.keep HKK.out).at (i := k) (by rw [HNN.out]; exact hlt)
      have ik : (k : Int) < (N : Int) := by omega
      have HSet := Hid.mk (lnC_set (lnf L) k N)
      have hcg := cellAt (i := k) (v := .int .i64 0) HI.out.1 (by rw [List.getElem?_toArray]; unfold lnC; rw [Tl.fl_at _ _ _ hlt, if_neg (by omega)])
      have hfg := row_fz HI.out.1 k
      obtain ⟨x, ex⟩ : ∃ x, lnf L k = x := ⟨_, rfl⟩
      rw [ex] at HSet
      rw [show (L.getD k []).length = x from ex] at hc
      have S9 := heap_setCell_at (i := k) (u := .int .i64 (x : Int)) HI.out.1
      rw [List.setIfInBounds_toArray, HSet.out] at S9
      have S9 := Hid.mk S9
      have K9 := Hid.mk (HI.out.2.setCell (p := ⟨g, k, none⟩) (.inl (by simp)) (.int .i64 (x : Int)))
      clear ex hc2 hc3
      go_wp2
      go_roundw
      case rel => exact ⟨k + 1, by omega, by go_num, Hid.mk ⟨S9.out, K9.out⟩⟩
      case measure => simp [intOf]; omega
    · obtain rfl : N = k := by omega
      have C1 : Hid (∀ u, Kept [] wr u → Calls Tryz.prog 31 #[.slice (some ⟨g, 0, none⟩) N N, .int .i64 (p : Int)] u fun e w' => e = .returned (.int .i64 (rcl (lnf L) N p : Int)) ∧ w' = u) := Hid.mk (fun u ku => recordLength_any g N N p (lnf L) u (fun i hi => Tl.cell_keep ku (cellAt HI.out.1 (by rw [List.getElem?_toArray]; exact lnC_at hi (Nat.le_refl _))) (by simp)) h1 h2 hp HLL.out)
      obtain ⟨ln, eln⟩ : ∃ x, rcl (lnf L) N p = x := ⟨_, rfl⟩
      rw [eln] at C1
      have ELN := Hid.mk eln
      have RK : Hid (∀ u, Kept [] wr u → (u.cell? ⟨B, 0, none⟩ = some (.int .i64 W) ∧ u.cell? ⟨B, 1, none⟩ = some (.int .i64 H) ∧ u.cell? ⟨B, 2, none⟩ = some (.int .i64 D) ∧ u.cell? ⟨B, 3, none⟩ = some (.bool A)) ∧ (u.cell? ⟨B + 1, 0, none⟩ = some (.int .i64 sw) ∧ u.cell? ⟨B + 1, 1, none⟩ = some (.int .i64 sh) ∧ u.cell? ⟨B + 1, 4, none⟩ = some (.int .i64 (p : Int))) ∧ u.cell? ⟨B + 1 + 1, 0, none⟩ = some (.int .i64 (r 0)) ∧ u.cell? ⟨B + 1 + 1, 1, none⟩ = some (.int .i64 (r 1)) ∧ u.cell? ⟨B + 1 + 1, 2, none⟩ = some (.int .i64 (r 2)) ∧ u.cell? ⟨B + 1 + 1, 3, none⟩ = some (.int .i64 (r 3))) := Hid.mk (fun u ku => by
        obtain ⟨a0, a1, a2, a3⟩ := cel4 ((HKK.out.trans ku).heap HB0.out (by simp))
        obtain ⟨b0, b1, _, _, b4⟩ := cel5 ((HKK.out.trans ku).heap HB1.out (by simp))
        obtain ⟨c0, c1, c2, c3⟩ := cel4 ((HKK.out.trans ku).heap HB2.out (by simp))
        exact ⟨⟨a0, a1, a2, a3⟩, ⟨b0, b1, b4⟩, c0, c1, c2, c3⟩)
      have RK0 := RK.out wr (Kept.refl _ _)
      clear hlt hk h1 h2 hp eln
      go_wp2_with (fail)
      go_cut [12] (fun s wc => ∃ Q : Nat, s = .pointer (some ⟨Q, 0, none⟩) ∧ Hid (wr.heap.size ≤ Q ∧ wc.heap[Q]? = some (.cells #[.int .i64 W, .int .i64 H, .int .i64 D, .bool A, .int .i64 sw, .int .i64 sh, .int .i64 (r 0), .int .i64 (r 1), .int .i64 (r 2), .int .i64 (r 3), .int .i64 (N : Int), .int .i64 (p : Int), .int .i64 (ln : Int)] 27 (0, 0)) ∧ Kept [] wr wc))
      case first =>
        refine wp_region_held_drew (S := fun u => (u.cell? ⟨B, 0, none⟩ = some (.int .i64 W) ∧ u.cell? ⟨B, 1, none⟩ = some (.int .i64 H) ∧ u.cell? ⟨B, 2, none⟩ = some (.int .i64 D) ∧ u.cell? ⟨B, 3, none⟩ = some (.bool A)) ∧ (u.cell? ⟨B + 1, 0, none⟩ = some (.int .i64 sw) ∧ u.cell? ⟨B + 1, 1, none⟩ = some (.int .i64 sh) ∧ u.cell? ⟨B + 1, 4, none⟩ = some (.int .i64 (p : Int))) ∧ u.cell? ⟨B + 1 + 1, 0, none⟩ = some (.int .i64 (r 0)) ∧ u.cell? ⟨B + 1 + 1, 1, none⟩ = some (.int .i64 (r 1)) ∧ u.cell? ⟨B + 1 + 1, 2, none⟩ = some (.int .i64 (r 2)) ∧ u.cell? ⟨B + 1 + 1, 3, none⟩ = some (.int .i64 (r 3))) (by kernel_rfl) RK0 (fun hHeld => ?_)
        refine wpAnyH_take (i := 0) (oi := _) (v := ?_) rfl (by kernel_rfl) (by kernel_rfl) (by kernel_rfl) (fun _ _ _ h => h) (Or.inl ⟨by rfl, ?y0⟩) (by assumption) ?r0
        case y0 => (intro w hSw; (try dsimp only at hSw); go_simp; try with_reducible rfl)
        refine wpAnyH_take (i := 1) (oi := _) (v := ?_) rfl (by kernel_rfl) (by kernel_rfl) (by kernel_rfl) (fun _ _ _ h => h) (Or.inl ⟨by rfl, ?y1⟩) (by assumption) ?r1
        case y1 => (intro w hSw; (try dsimp only at hSw); go_simp; try with_reducible rfl)
        refine wpAnyH_take (i := 2) (oi := _) (v := ?_) rfl (by kernel_rfl) (by kernel_rfl) (by kernel_rfl) (fun _ _ _ h => h) (Or.inl ⟨by rfl, ?y2⟩) (by assumption) ?r2
        case y2 => (intro w hSw; (try dsimp only at hSw); go_simp; try with_reducible rfl)
        refine wpAnyH_take (i := 3) (oi := _) (v := ?_) rfl (by kernel_rfl) (by kernel_rfl) (by kernel_rfl) (fun _ _ _ h => h) (Or.inl ⟨by rfl, ?y3⟩) (by assumption) ?r3
        case y3 => (intro w hSw; (try dsimp only at hSw); go_simp; try with_reducible rfl)
        refine wpAnyH_take (i := 4) (oi := _) (v := ?_) rfl (by kernel_rfl) (by kernel_rfl) (by kernel_rfl) (fun _ _ _ h => h) (Or.inl ⟨by rfl, ?y4⟩) (by assumption) ?r4
        case y4 => (intro w hSw; (try dsimp only at hSw); go_simp; try with_reducible rfl)
        refine wpAnyH_take (i := 5) (oi := _) (v := ?_) rfl (by kernel_rfl) (by kernel_rfl) (by kernel_rfl) (fun _ _ _ h => h) (Or.inl ⟨by rfl, ?y5⟩) (by assumption) ?r5
        case y5 => (intro w hSw; (try dsimp only at hSw); go_simp; try with_reducible rfl)
        refine wpAnyH_take (i := 6) (oi := _) (v := ?_) rfl (by kernel_rfl) (by kernel_rfl) (by kernel_rfl) (fun _ _ _ h => h) (Or.inl ⟨by rfl, ?y6⟩) (by assumption) ?r6
        case y6 => (intro w hSw; (try dsimp only at hSw); go_simp; try with_reducible rfl)
        refine wpAnyH_take (i := 7) (oi := _) (v := ?_) rfl (by kernel_rfl) (by kernel_rfl) (by kernel_rfl) (fun _ _ _ h => h) (Or.inl ⟨by rfl, ?y7⟩) (by assumption) ?r7
        case y7 => (intro w hSw; (try dsimp only at hSw); go_simp; try with_reducible rfl)
        refine wpAnyH_take (i := 8) (oi := _) (v := ?_) rfl (by kernel_rfl) (by kernel_rfl) (by kernel_rfl) (fun _ _ _ h => h) (Or.inl ⟨by rfl, ?y8⟩) (by assumption) ?r8
        case y8 => (intro w hSw; (try dsimp only at hSw); go_simp; try with_reducible rfl)
        refine wpAnyH_take (i := 9) (oi := _) (v := ?_) rfl (by kernel_rfl) (by kernel_rfl) (by kernel_rfl) (fun _ _ _ h => h) (Or.inl ⟨by rfl, ?y9⟩) (by assumption) ?r9
        case y9 => (intro w hSw; (try dsimp only at hSw); go_simp; try with_reducible rfl)
        refine wpAnyH_take (i := 10) (oi := _) (v := ?_) rfl (by kernel_rfl) (by kernel_rfl) (by kernel_rfl) (fun _ _ _ h => h) (Or.inl ⟨by rfl, ?y10⟩) (by assumption) ?r10
        case y10 => (intro w hSw; (try dsimp only at hSw); go_simp; try with_reducible rfl)
        refine wpAnyH_take (i := 11) (oi := _) (v := ?_) rfl (by kernel_rfl) (by kernel_rfl) (by kernel_rfl) (fun _ _ _ h => h) (Or.inl ⟨by rfl, ?y11⟩) (by assumption) ?r11
        case y11 => (intro w hSw; (try dsimp only at hSw); go_simp; try with_reducible rfl)
        refine wpAnyH_take (i := 12) (oi := _) (v := ?_) rfl (by kernel_rfl) (by kernel_rfl) (by kernel_rfl) (fun _ _ _ h => h) (Or.inl ⟨by rfl, ?y12⟩) (by assumption) ?r12
        case y12 => (intro w hSw; (try dsimp only at hSw); go_simp; try with_reducible rfl)
        refine wpAnyH_ready (rs := [13, 15]) (by kernel_rfl) (by simp) ?_
        refine AllReadyH.cons rfl (fun K hK => ?_) (AllReadyH.cons rfl (fun K hK => ?_) AllReadyH.nil)
        · go_simp
          go_at_call 31
          refine (C1.out _ (Kept.refl [] wr).drew).mono ?_
          rintro e w' ⟨rfl, hw⟩
          obtain rfl := hw.symm
          refine hK.out _ _ RK0 (fun hHeld => ?_)
          clear hK K
          refine wpAnyH_take (i := 14) (oi := _) (v := ?_) rfl (by kernel_rfl) (by kernel_rfl) (by kernel_rfl) (fun _ _ _ h => h) (Or.inl ⟨by rfl, ?y14⟩) (by assumption) ?r14
          case y14 => (intro w hSw; (try dsimp only at hSw); go_simp; try with_reducible rfl)
          refine wpAnyH_ready (rs := [15]) (by kernel_rfl) (by simp) ?_
          refine AllReadyH.cons rfl (fun K hK => ?_) AllReadyH.nil
          go_simp
          obtain ⟨u2, eu2⟩ : ∃ u2, (wr.alloc (.cells #[.int .i64 0, .int .i64 0, .int .i64 0, .bool false, .int .i64 0, .int .i64 0, .int .i64 0, .int .i64 0, .int .i64 0, .int .i64 0, .int .i64 0, .int .i64 0, .int .i64 0] 27 (0, 0))).drew = u2 := ⟨_, rfl⟩
          have hu2 : u2.heap[wr.heap.size]? = some (.cells #[.int .i64 0, .int .i64 0, .int .i64 0, .bool false, .int .i64 0, .int .i64 0, .int .i64 0, .int .i64 0, .int .i64 0, .int .i64 0, .int .i64 0, .int .i64 0, .int .i64 0] 27 (0, 0)) := by rw [← eu2]; exact heap_alloc_new wr _
          have ku2 : Kept [] wr u2 := by rw [← eu2]; exact ((Kept.refl [] wr).alloc _).drew
          obtain ⟨w9, e9, h9, k9⟩ := row_set #[.int .i64 W, .int .i64 H, .int .i64 D, .bool A, .int .i64 sw, .int .i64 sh, .int .i64 (r 0), .int .i64 (r 1), .int .i64 (r 2), .int .i64 (r 3), .int .i64 (N : Int), .int .i64 (p : Int), .int .i64 (ln : Int)] hu2
          have h9 := Hid.mk h9
          have HK9 : Hid (Kept [] wr w9) := Hid.mk (ku2.step k9 (fun x hx => by simp at hx; subst hx; exact .inr (Nat.le_refl _)))
          rw [eu2]
          refine hK.out _ _ (RK.out _ ku2) (fun hHeld => ?_)
          clear hK K
          refine wpAnyH_ready (rs := [16]) (by kernel_rfl) (by simp) ?_
          refine AllReadyH.cons rfl (fun K hK => ?_) AllReadyH.nil
          rw [if_pos (by rfl)]
          refine wp_store_row 27 (.tmp 12) (.tmp 43) rfl wr.heap.size #[.int .i64 W, .int .i64 H, .int .i64 D, .bool A, .int .i64 sw, .int .i64 sh, .int .i64 (r 0), .int .i64 (r 1), .int .i64 (r 2), .int .i64 (r 3), .int .i64 (N : Int), .int .i64 (p : Int), .int .i64 (ln : Int)] rfl rfl 27 _ hu2 Tryz.infoH rfl (by simp [Value.oneCell']) ?_
          rw [e9]
          refine hK.out _ _ (RK.out _ HK9.out) (fun hHeld => ?_)
          clear hK K
          refine wpAnyH_done (by kernel_rfl) ?_ _
          go_wp2
          go_meet
          exact ⟨_, rfl, Hid.mk ⟨Nat.le_refl _, h9.out, HK9.out⟩⟩
        · go_simp
          obtain ⟨u2, eu2⟩ : ∃ u2, (wr.alloc (.cells #[.int .i64 0, .int .i64 0, .int .i64 0, .bool false, .int .i64 0, .int .i64 0, .int .i64 0, .int .i64 0, .int .i64 0, .int .i64 0, .int .i64 0, .int .i64 0, .int .i64 0] 27 (0, 0))).drew = u2 := ⟨_, rfl⟩
          have hu2 : u2.heap[wr.heap.size]? = some (.cells #[.int .i64 0, .int .i64 0, .int .i64 0, .bool false, .int .i64 0, .int .i64 0, .int .i64 0, .int .i64 0, .int .i64 0, .int .i64 0, .int .i64 0, .int .i64 0, .int .i64 0] 27 (0, 0)) := by rw [← eu2]; exact heap_alloc_new wr _
          have ku2 : Kept [] wr u2 := by rw [← eu2]; exact ((Kept.refl [] wr).alloc _).drew
          obtain ⟨w9, e9, h9, k9⟩ := row_set #[.int .i64 W, .int .i64 H, .int .i64 D, .bool A, .int .i64 sw, .int .i64 sh, .int .i64 (r 0), .int .i64 (r 1), .int .i64 (r 2), .int .i64 (r 3), .int .i64 (N : Int), .int .i64 (p : Int), .int .i64 (ln : Int)] hu2
          have h9 := Hid.mk h9
          have HK9 : Hid (Kept [] wr w9) := Hid.mk (ku2.step k9 (fun x hx => by simp at hx; subst hx; exact .inr (Nat.le_refl _)))
          rw [eu2]
          refine hK.out _ _ (RK.out _ ku2) (fun hHeld => ?_)
          clear hK K
          refine wpAnyH_ready (rs := [13]) (by kernel_rfl) (by simp) ?_
          refine AllReadyH.cons rfl (fun K hK => ?_) AllReadyH.nil
          go_simp
          go_at_call 31
          refine (C1.out _ ku2).mono ?_
          rintro e w' ⟨rfl, hw⟩
          obtain rfl := hw.symm
          refine hK.out _ _ (RK.out _ ku2) (fun hHeld => ?_)
          clear hK K
          refine wpAnyH_take (i := 14) (oi := _) (v := ?_) rfl (by kernel_rfl) (by kernel_rfl) (by kernel_rfl) (fun _ _ _ h => h) (Or.inl ⟨by rfl, ?z14⟩) (by assumption) ?s14
          case z14 => (intro w hSw; (try dsimp only at hSw); go_simp; try with_reducible rfl)
          refine wpAnyH_ready (rs := [16]) (by kernel_rfl) (by simp) ?_
          refine AllReadyH.cons rfl (fun K hK => ?_) AllReadyH.nil
          rw [if_pos (by rfl)]
          refine wp_store_row 27 (.tmp 12) (.tmp 43) rfl wr.heap.size #[.int .i64 W, .int .i64 H, .int .i64 D, .bool A, .int .i64 sw, .int .i64 sh, .int .i64 (r 0), .int .i64 (r 1), .int .i64 (r 2), .int .i64 (r 3), .int .i64 (N : Int), .int .i64 (p : Int), .int .i64 (ln : Int)] rfl rfl 27 _ hu2 Tryz.infoH rfl (by simp [Value.oneCell']) ?_
          rw [e9]
          refine hK.out _ _ (RK.out _ HK9.out) (fun hHeld => ?_)
          clear hK K
          refine wpAnyH_done (by kernel_rfl) ?_ _
          go_wp2
          go_meet
          exact ⟨_, rfl, Hid.mk ⟨Nat.le_refl _, h9.out, HK9.out⟩⟩
      case rest =>
        obtain ⟨Q, rfl, HQ⟩ := hcut
        obtain ⟨q0, q1, q2, q3, q4, q5, q6, q7, q8, q9, q10, q11, q12⟩ := cel13 HQ.out.2.1
        have hD := (HKK.out.trans HQ.out.2.2).heap HB3.out (by simp)
        have S9 := setAll_row [.int .i64 W, .int .i64 H, .int .i64 D, .bool A, .int .i64 sw, .int .i64 sh, .int .i64 (r 0), .int .i64 (r 1), .int .i64 (r 2), .int .i64 (r 3), .int .i64 (N : Int), .int .i64 (p : Int), .int .i64 (ln : Int), .slice go N gc] 0 wc [] _ hD rfl rfl
        simp only [setAll] at S9
        have S9 := Hid.mk S9
        obtain ⟨d0, d1, d2, d3, d4, d5, d6, d7, d8, d9, d10, d11, d12, d13⟩ := cel14 hD
        have dz := row_fz hD
        clear hD RK0
        go_wp2
        refine bodyPost_ret (v := dfv W H D A sw sh r N p ln go gc) ?_ rfl ⟨by rw [ELN.out], ?_⟩
        · exact results_cell_row rfl _ _ (B + 1 + 1 + 1) 105 _ (0, 0) _ rfl S9.out.1 Tryz.underlying105 rfl Tryz.infoD
        · exact ((K4.out.trans HKK.out).trans HQ.out.2.2).step S9.out.2 (fun x hx => by simp at hx; subst hx; exact .inr (by have := HB.out; omega))
end Go.Proofs.YthhegomjipbdbaaGreatDoor.Pc
