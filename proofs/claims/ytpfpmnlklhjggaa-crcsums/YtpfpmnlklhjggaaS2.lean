import Derived.Test.YtpfpmnlklhjggaaS1
namespace Go.Proofs.Ytpfpmnlklhjggaa
open Go.RowKit

theorem tb_rm (k : Nat) (hk : k < 256) : rm [k] = tb k := by
  unfold rm tb
  rw [X_32_byte k hk]
  show ad1 0#32 k = _
  rw [ad1, BitVec.zero_xor]

theorem tabD_call (k : Nat) (w : World) (hk : k < 256) : Calls Try.prog 23 #[.slice (some ⟨w.heap.size, 0, none⟩) 1 1] (w.alloc (.cells #[.int .u8 (k : Int)] 5)) fun e w' => e = .returned (.int .u32 (nm (tb k))) ∧ Kept [] w w' := by
  have h := remD_any _ 1 1 [k] _ (reads_new w [k] (0, 0)) (fun b hb => by simp at hb; omega) rfl (by decide)
  rw [tb_rm k hk] at h
  exact h.mono fun e w' ⟨he, hw⟩ => ⟨he, by rw [hw]; exact (Kept.refl [] w).alloc _⟩

set_option maxHeartbeats 2000000 in
set_option maxRecDepth 1000000 in
theorem tableD_any (w : World) :
    Calls Try.prog 12 #[] w fun e w' => e = .returned (.agg tabA) ∧ Kept [] w w' := by
  obtain ⟨hv26, hi26⟩ := zero_of_info Try.info26
  have Hi := Hid.mk hi26
  clear hi26
  go_enter Try.func12, Try.ntmps12
  go_wp2
  clear hv26
  go_loopw [2] (fun i wr => ∃ k : Nat, k ≤ 256 ∧ i = .int .i64 (k : Int) ∧ wr.heap[w.heap.size]? = some (.cells (tabC 0).toArray 26 (0, 0)) ∧ wr.heap[w.heap.size + 1]? = some (.cells (tabC k).toArray 26 (0, 0)) ∧ Kept [] w wr)
    (fun i _ => 256 - (intOf i).toNat)
  case atStart =>
    refine ⟨0, by omega, rfl, ?_, ?_, ((Kept.refl _ _).alloc _).alloc _⟩
    · rw [heap_alloc_old _ _ (by simp), heap_alloc_new, tabC_start]
    · rw [heap_alloc2_new, tabC_start]
  case round =>
    obtain ⟨k, hk, rfl, h0, h1, hkr⟩ := hrel
    by_cases hlt : k < 256
    · have H0 := Hid.mk h0
      have H1 := Hid.mk h1
      have Hk := Hid.mk hkr
      clear h0 h1 hkr
      go_wp2_with (go_at_call 23; refine (tabD_call k _ hlt).mono ?_; rintro e w' ⟨rfl, hk'⟩; replace H0 := Hid.mk (hk'.heap H0.out (by simp)); replace H1 := Hid.mk (hk'.heap H1.out (by simp)); replace Hk := Hid.mk (Hk.out.trans hk'); obtain ⟨u, hu⟩ := row_cell_at H1.out (j := k) (by rw [tabC_length]; exact hlt); have hfz : w'.frozen? ⟨w.heap.size + 1, k, none⟩ = false := by simp [World.frozen?, H1.out])
      go_roundw
      case rel =>
        refine ⟨k + 1, by omega, by go_num, ?_, ?_, Hk.out.setCell (p := ⟨w.heap.size + 1, k, none⟩) (.inr (by simp)) _⟩
        · rw [Below.heap_setCell _ _ _ _ (by simp)]; exact H0.out
        · rw [heap_setCell_at H1.out, List.setIfInBounds_toArray, tabC_set k hlt]
      case measure => simp [intOf]; omega
    · obtain rfl : k = 256 := by omega
      have H0 := Hid.mk h0
      have Hk := Hid.mk hkr
      have e1 : (tabC 256).toArray = tabA := rfl
      rw [e1] at h1
      clear e1 h0 hkr
      have H1 := Hid.mk h1
      clear h1
      go_wp2
      refine wp_load_row 26 _ (by rfl) (w.heap.size + 1) (by rfl) 26 tabA (0, 0) (.array 256 23) H1.out Try.underlying26 rfl (by rw [tabA_size]; exact Hi.out) ?_
      have hsc := storeCells_row wr w.heap.size 26 tabA.toList _ H0.out (by simp [tabC_length, tabA_size]) (fun v hv => (Array.all_eq_true_iff_forall_mem.1 tabA_one) v (by simpa using hv))
      obtain ⟨wz, hz⟩ : ∃ wz, wz = wr.setRow w.heap.size tabA.toList.toArray := ⟨_, rfl⟩
      have hr : wz.heap[w.heap.size]? = some (.cells tabA 26 (0, 0)) := by rw [hz, Array.toArray_toList]; exact setRow_heap wr _ _ _ 26 _ H0.out
      have hK : Kept [] w wz := by rw [hz]; exact Hk.out.step (setRow_kept _ _ _) (fun x hx => by simp at hx; subst hx; exact .inr (Nat.le_refl _))
      rw [← hz] at hsc
      have Hr := Hid.mk hr
      have HK := Hid.mk hK
      clear hr hK hz
      go_wp2
      refine bodyPost_ret (v := .agg tabA) ?_ rfl ⟨rfl, HK.out⟩
      exact results_cell_row rfl _ _ w.heap.size 26 tabA (0, 0) (.array 256 23) rfl Hr.out Try.underlying26 rfl (by rw [tabA_size]; exact Hi.out)
end Go.Proofs.Ytpfpmnlklhjggaa
