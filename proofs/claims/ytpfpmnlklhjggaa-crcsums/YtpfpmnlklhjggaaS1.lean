import Derived.Test.YtpfpmnlklhjggaaC8
import Derived.ChangeKeysEq
import Derived.Deep.RegionLaw
namespace Go.Proofs.Ytpfpmnlklhjggaa
open Go.RowKit

theorem Try.cells23 : Try.prog.cellsOf 23 = 1 := by kernel_rfl

theorem tab_items (w : World) (is : List Nat) (h : ∀ i ∈ is, i < 256) : (Op.eqItems 9999 23 (Try.prog.cellsOf 23) tabA tabA is).run Try.prog w = .ok true w := by
  induction is with
  | nil => simp [Op.eqItems]
  | cons i is ih =>
    have hi : i < 256 := h i (by simp)
    have hp : (part 23 tabA (i * Try.prog.cellsOf 23)).run Try.prog w = .ok (.int .u32 (nm (tb i))) w := by
      rw [Try.cells23, Nat.mul_one]
      simp [part, isAgg, run_underlying Try.underlying23, tabA_at i hi]
    have he : (Op.equalIn 9999 23 (.int .u32 (nm (tb i))) (.int .u32 (nm (tb i)))).run Try.prog w = .ok true w := by
      rw [run_equalIn_int w 9998 23 .u32 .u32 _ _ Try.underlying23]
      simp
    simp only [Op.eqItems, Sem.run_bind, hp, he, Result.andThen_ok, Bool.not_true, Bool.false_eq_true, if_false]
    exact ih (fun j hj => h j (by simp [hj]))

theorem Try.info23 : (Try.prog.info? 23).isSome = true := by kernel_rfl

theorem tab_eql (w : World) : (Op.equalIn 10000 26 (.agg tabA) (.agg tabA)).run Try.prog w = .ok true w := by
  obtain ⟨i, hi⟩ := Option.isSome_iff_exists.1 Try.info23
  rw [run_equalIn_array w 9999 tabA tabA Try.underlying26 hi]
  exact tab_items w _ (fun i hi => by simpa using hi)

theorem lent_step (l : List Nat) (j : Nat) (hj : j < 9) : ((l ++ (List.replicate j 201 ++ List.replicate (9 - j) 0)).map byt).set (l.length + j) (.int .u8 201) = (l ++ (List.replicate (j + 1) 201 ++ List.replicate (9 - (j + 1)) 0)).map byt := by
  have e : 9 - j = (9 - (j + 1)) + 1 := by omega
  rw [e, List.replicate_succ, List.replicate_succ', List.map_append, List.map_append, List.set_append_right _ _ (by simp), List.set_append_right _ _ (by simp)]
  simp [byt]

set_option maxHeartbeats 1000000 in
set_option maxRecDepth 1000000 in
theorem lent_any (ao : Option Addr) (cap m : Nat) (l : List Nat) (w : World) (hr : Reads w ao l) (hm : l.length = m) (hl : m ≤ 140737488351232) :
    Calls Try.prog 21 #[.slice ao m cap] w fun e w' => e = .returned (.slice (some ⟨w.heap.size, 0, none⟩) (m + 9) (m + 9)) ∧
      w'.heap[w.heap.size]? = some (.cells ((l ++ List.replicate 9 201).map byt).toArray 5 (0, 0)) ∧ Kept [] w w' := by
  obtain ⟨i0, hi, hz0, hz1, hz2⟩ := info_parts Try.info5
  go_enter Try.func21, Try.ntmps21
  go_wp2_with (at_make; refine wpList_make_full _ rfl _ _ 22 rfl 0 5 i0 (.int .u8 0) 1 Try.underlying22 hi hz0 hz1 _ _ _ _ (m + 9) rfl rfl (by omega) (by omega) ?b2 ?b3 (by omega) ?_)
  case b2 => rw [hz2]; omega
  case b3 => unfold maxLen; omega
  intro w1 ho1 hg1
  have hk1 := Kept.of_grown hg1
  have hr1 := row_heap ho1 rfl
  rw [toList_madeCells_one] at hr1
  have Hsrc := Hid.mk (reads_src (hr.keep hk1))
  rw [hm] at Hsrc
  obtain ⟨w2, hrun, hr2, hk2⟩ := copy_run w1 w.heap.size (m + 9) (m + 9) ao m cap _ (l.map byt) hr1 (by simp) (by simpa using hm) (by omega) Hsrc.out (bytes_one l)
  have hK : Kept [] w w2 := hk1.step hk2 (by simp)
  have hr3 : w2.heap[w.heap.size]? = some (.cells ((l ++ (List.replicate 0 201 ++ List.replicate 9 0)).map byt).toArray 5 (0, 0)) := by
    rw [hr2]; simp [byt]
  have Hr3 := Hid.mk hr3
  have Hm := Hid.mk hm
  have HK := Hid.mk hK
  clear hr2 hr3 hr1 ho1 hg1 hk1 hk2 hK hm hr
  go_wp2
  go_loopw [4] (fun i wr => ∃ j : Nat, j ≤ 9 ∧ i = .int .i64 ((m : Int) + (j : Int)) ∧ wr.heap[w.heap.size]? = some (.cells ((l ++ (List.replicate j 201 ++ List.replicate (9 - j) 0)).map byt).toArray 5 (0, 0)) ∧ Kept [] w wr) (fun i _ => (m + 9) - (intOf i).toNat)
  case atStart => exact ⟨0, by omega, by simp, Hr3.out, HK.out⟩
  case round =>
    obtain ⟨j, hj, rfl, hrow, hkr⟩ := hrel
    by_cases hlt : j < 9
    · have hlen : ((l ++ (List.replicate j 201 ++ List.replicate (9 - j) 0)).map byt).length = m + 9 := by have := Hm.out; simp; omega
      obtain ⟨u, hu⟩ := row_cell_at hrow (j := m + j) (by rw [hlen]; omega)
      have hfz : wr.frozen? ⟨w.heap.size, m + j, none⟩ = false := by simp [World.frozen?, hrow]
      have Hrow := Hid.mk hrow
      have Hkr := Hid.mk hkr
      have Hstep := Hid.mk (lent_step l j hlt)
      clear hrow hkr hlen
      go_wp2
      go_roundw
      case rel =>
        refine ⟨j + 1, by omega, by go_num, ?_, Hkr.out.setCell (p := ⟨w.heap.size, m + j, none⟩) (by simp) _⟩
        rw [heap_setCell_at Hrow.out, List.setIfInBounds_toArray, ← Hstep.out, Hm.out]
      case measure => simp [intOf]; omega
    · obtain rfl : j = 9 := by omega
      have Hrow := Hid.mk hrow
      have Hkr := Hid.mk hkr
      clear hrow hkr
      go_wp2
      go_ret
      refine ⟨rfl, ?_, Hkr.out⟩
      rw [Hrow.out]; simp

theorem lentL_at (l : List Nat) (j : Nat) : (l ++ List.replicate 9 201).getD j 0 = if j < l.length then l.getD j 0 else if j < l.length + 9 then 201 else 0 := by
  by_cases h : j < l.length
  · rw [if_pos h]
    simp [h, List.getElem?_append_left]
  · rw [if_neg h]
    by_cases h2 : j < l.length + 9
    · rw [if_pos h2, List.getD_eq_getElem?_getD, List.getElem?_append_right (by omega), List.getElem?_replicate, if_pos (by omega)]
      rfl
    · rw [if_neg h2, List.getD_eq_getElem?_getD, List.getElem?_eq_none (by simp; omega)]
      rfl

set_option maxHeartbeats 2000000 in
set_option maxRecDepth 1000000 in
theorem still_any (ao : Option Addr) (cap cg m N : Nat) (l : List Nat) (w : World) (hr : Reads w ao l) (hm : l.length = m) (hl : m ≤ 140737488351232) (hN : w.heap[N]? = some (.cells ((l ++ List.replicate 9 201).map byt).toArray 5 (0, 0))) :
    Calls Try.prog 22 #[.slice (some ⟨N, 0, none⟩) (m + 9) cg, .slice ao m cap] w fun e w' => e = .returned (.bool true) ∧ Kept [] w w' := by
  go_enter Try.func22, Try.ntmps22
  go_wp2
  go_loopw [5] (fun i wr => ∃ j : Nat, j ≤ m + 9 ∧ i = .int .i64 (j : Int) ∧ Kept [] w wr) (fun i _ => m + 9 - (intOf i).toNat)
  case atStart => exact ⟨0, by omega, rfl, Kept.refl _ _⟩
  case round =>
    obtain ⟨j, hj, rfl, hkr⟩ := hrel
    by_cases hlt : j < m + 9
    · have hat := lentL_at l j
      rw [hm] at hat
      have hcell := row_at (hkr.heap hN (by simp)) j (by simp; omega)
      rw [hat] at hcell
      unfold byt at hcell
      have Hr := Hid.mk (hr.keep hkr)
      have Hm := Hid.mk hm
      have HN := Hid.mk hN
      have Hk := Hid.mk hkr
      clear hat hr hm hN hkr
      by_cases hin : j < m
      · rw [if_pos hin] at hcell
        obtain ⟨g, off, rfl, hc⟩ : ∃ g off, ao = some ⟨g, off, none⟩ ∧ wr.cell? ⟨g, off + j, none⟩ = some (.int .u8 ((l.getD j 0 : Nat) : Int)) := by
          rcases Hr.out with h' | ⟨g, off, h', hc⟩
          · have := Hm.out; rw [h'] at this; simp at this; omega
          · exact ⟨g, off, h', hc j (by have := Hm.out; omega)⟩
        obtain ⟨v, hv⟩ : ∃ v, v = l.getD j 0 := ⟨_, rfl⟩
        rw [← hv] at hcell hc
        clear hv
        have h1 : decide ((j : Int) < (m : Int)) = true := by simp; omega
        have h2 : decide ((m : Int) ≤ (j : Int)) = false := by simp; omega
        have h3 : decide (j < m) = true := by simp; omega
        have h4 : decide (m ≤ j) = false := by simp; omega
        go_wp2_with fail
        go_quiet (fail)
        go_wp2
        go_roundw
        case rel => exact ⟨j + 1, by omega, by go_num, Hk.out.drewN _⟩
        case measure => simp [intOf]; omega
      · rw [if_neg hin, if_pos hlt] at hcell
        have h1 : decide ((j : Int) < (m : Int)) = false := by simp; omega
        have h2 : decide ((m : Int) ≤ (j : Int)) = true := by simp; omega
        have h3 : decide (j < m) = false := by simp; omega
        have h4 : decide (m ≤ j) = true := by simp; omega
        go_wp2_with fail
        go_quiet (fail)
        go_wp2
        go_roundw
        case rel => exact ⟨j + 1, by omega, by go_num, Hk.out.drewN _⟩
        case measure => simp [intOf]; omega
    · obtain rfl : j = m + 9 := by omega
      have Hk := Hid.mk hkr
      clear hkr
      go_wp2
      go_ret
      exact ⟨rfl, Hk.out⟩
end Go.Proofs.Ytpfpmnlklhjggaa
