import Derived.Test.YtmgfapooanpgfaaG3
namespace Go.Proofs.Ytmgfapooanpgfaa
open Go.RowKit

theorem pow_xor_all : ∀ k : Fin 8, ∀ l : Fin 128, l.val < 2 ^ k.val → 2 ^ k.val ^^^ l.val = 2 ^ k.val + l.val := by decide +kernel
theorem pow_le_all : ∀ k : Fin 8, 2 ^ k.val ≤ 128 := by decide +kernel

theorem tabC_first (a : Nat) : tabC a 1 = tabC a 0 := by
  unfold tabC
  apply List.map_congr_left
  intro j _
  by_cases h : j < 1
  · obtain rfl : j = 0 := by omega
    simp [mu_zero]
  · simp [h]

set_option maxHeartbeats 2000000 in
set_option maxRecDepth 1000000 in
theorem pmul_any (a : Nat) (ha : a < 256) (w : World) :
    Calls Try.prog 60 #[.int .u8 (a : Int)] w fun e w' => e = .returned (.agg (tabA a)) ∧ Kept [] w w' := by
  obtain ⟨hvT, hiT⟩ := zero_of_info Try.infoT
  have Hi := Hid.mk hiT
  clear hiT
  go_enter Try.func60, Try.ntmps60
  go_wp2
  clear hvT
  go_loopw [8] (fun i wr => ∃ k : Nat, k ≤ 8 ∧ i = .int .i64 (k : Int) ∧ wr.heap[w.heap.size]? = some (.cells (tabC a 0).toArray 104 (0, 0)) ∧ wr.heap[w.heap.size + 1]? = some (.cells (tabC a (2 ^ k)).toArray 104 (0, 0)) ∧ Kept [] w wr)
    (fun i _ => 8 - (intOf i).toNat)
  case atStart =>
    refine ⟨0, by omega, rfl, ?_, ?_, ((Kept.refl _ _).alloc _).alloc _⟩
    · rw [heap_alloc_old _ _ (by simp), heap_alloc_new, tabC_start]
    · rw [heap_alloc2_new, show (2 : Nat) ^ 0 = 1 from rfl, tabC_first, tabC_start]
  case round =>
    obtain ⟨k, hk, rfl, h0, h1, hkr⟩ := hrel
    have H0 := Hid.mk h0
    have H1 := Hid.mk h1
    have Hk := Hid.mk hkr
    clear h0 h1 hkr
    by_cases hlt : k < 8
    · have hp2 := pow_le_all ⟨k, hlt⟩
      have hpp := Nat.two_pow_pos k
      have Hx := Hid.mk (pow_xor_all ⟨k, hlt⟩)
      have Hs := Hid.mk (Nat.pow_succ 2 k)
      simp only at hp2 Hx
      have hq : ((2 ^ k : Nat) : Int) = (2 : Int) ^ k := by simp
      obtain ⟨h, hh⟩ : ∃ h : Nat, h = 2 ^ k := ⟨_, rfl⟩
      rw [← hh] at hp2 hpp Hx hq H1 Hs
      have Hh := Hid.mk hh
      clear hh
      have Hm1 := Hid.mk (mul_any a h ha (by omega))
      have hsh : wrap64 ((2 : Int) ^ k) = (h : Int) := by rw [← hq]; unfold wrap64; omega
      have hsm : (h : Int) % 256 = (h : Int) := by omega
      clear hq
      have Hpp := Hid.mk hpp
      clear hpp
      go_wp2_with (go_at_call 17; rw [hsh]; refine (Hm1.out _).mono ?_; rintro e w1 ⟨rfl, m, hw1⟩; clear hsh hsm; have hk1 : Kept [] wr w1 := by { rw [hw1]; exact (Kept.refl _ _).drewN m }; clear hw1)
      have hpp := Hpp.out
      have H0' := Hid.mk (hk1.heap H0.out (by simp))
      have H1' := Hid.mk (hk1.heap H1.out (by simp))
      have Hk' := Hid.mk (Hk.out.trans hk1)
      have hmu := mu_lt a h
      obtain ⟨y, hy⟩ : ∃ y, y = mu a h := ⟨_, rfl⟩
      have Hy := Hid.mk hy
      rw [← hy] at hmu ⊢
      clear hy hk1 H0 H1 Hk
      go_loopw [18] (fun i wx => ∃ l : Nat, l ≤ h ∧ i = .int .i64 (l : Int) ∧ wx.heap[w.heap.size]? = some (.cells (tabC a 0).toArray 104 (0, 0)) ∧ wx.heap[w.heap.size + 1]? = some (.cells (tabC a (h + l)).toArray 104 (0, 0)) ∧ Kept [] w wx)
        (fun i _ => h - (intOf i).toNat)
      case atStart => exact ⟨0, by omega, rfl, H0'.out, H1'.out, Hk'.out⟩
      case round =>
        obtain ⟨l, hl, rfl, g0, g1, gk⟩ := hrel
        have G0 := Hid.mk g0
        have G1 := Hid.mk g1
        have Gk := Hid.mk gk
        clear g0 g1 gk
        by_cases hll : l < h
        · have hcell : wr.cell? ⟨w.heap.size + 1, l, none⟩ = some (.int .u8 (mu a l : Int)) := by
            rw [cell_of_row _ _ _ _ _ _ G1.out, List.getElem?_toArray, tabC_at _ _ _ (by omega), if_pos (by omega)]
          obtain ⟨u, hu⟩ : ∃ u, wr.cell? ⟨w.heap.size + 1, h + l, none⟩ = some u := row_cell_at G1.out (by rw [tabC_length]; omega)
          have hfz : wr.frozen? ⟨w.heap.size + 1, h + l, none⟩ = false := by simp [World.frozen?, G1.out]
          have He : mu a (h + l) = y ^^^ mu a l := by rw [Hy.out, ← mu_xor, Hx.out ⟨l, by omega⟩ hll]
          have hA1 := mu_lt a l
          obtain ⟨A, hA⟩ : ∃ A, A = mu a l := ⟨_, rfl⟩
          rw [← hA] at He hcell hA1
          clear hA
          have hx := u8_xor_nat y A hmu hA1
          have HE := Hid.mk He
          clear He
          have ix : ((h : Int) + (l : Int)) < 256 := by omega
          go_wp2
          refine ⟨⟨l + 1, by omega, by go_num, ?_, ?_, Gk.out.setCell (p := ⟨w.heap.size + 1, h + l, none⟩) (.inr (by simp)) _⟩, by simp [intOf]; omega⟩
          · rw [Below.heap_setCell _ _ _ _ (by simp)]; exact G0.out
          · rw [heap_setCell_at G1.out, List.setIfInBounds_toArray, ← HE.out, tabC_set a (h + l) (by omega), Nat.add_assoc]
        · obtain rfl : h = l := by omega
          go_wp2
          go_roundw
          case rel => exact ⟨k + 1, by omega, by go_num, G0.out, by rw [Hs.out, Nat.mul_two]; exact G1.out, Gk.out⟩
          case measure => simp [intOf]; omega
    · obtain rfl : k = 8 := by omega
      have hi := Hi.out
      have h1 := H1.out
      have e1 : (tabC a (2 ^ 8)).toArray = tabA a := rfl
      rw [e1] at h1
      clear e1
      have H1 := Hid.mk h1
      have HI := Hid.mk hi
      clear h1 hi
      go_wp2
      refine wp_load_row 104 _ (by rfl) (w.heap.size + 1) (by rfl) 104 (tabA a) (0, 0) (.array 256 5) H1.out Try.underT rfl (by rw [tabA_size]; exact HI.out) ?_
      have hsc := storeCells_row wr w.heap.size 104 (tabA a).toList _ H0.out (by simp [tabC_length, tabA_size]) (fun v hv => (Array.all_eq_true_iff_forall_mem.1 (tabA_one a)) v (by simpa using hv))
      obtain ⟨wz, hz⟩ : ∃ wz, wz = wr.setRow w.heap.size (tabA a).toList.toArray := ⟨_, rfl⟩
      have hr : wz.heap[w.heap.size]? = some (.cells (tabA a) 104 (0, 0)) := by rw [hz, Array.toArray_toList]; exact setRow_heap wr _ _ _ 104 _ H0.out
      have hK : Kept [] w wz := by rw [hz]; exact Hk.out.step (setRow_kept _ _ _) (fun x hx => by simp at hx; subst hx; exact .inr (Nat.le_refl _))
      rw [← hz] at hsc
      have Hr := Hid.mk hr
      have HK := Hid.mk hK
      clear hr hK hz
      go_wp2
      refine bodyPost_ret (v := .agg (tabA a)) ?_ rfl ⟨rfl, HK.out⟩
      exact results_cell_row rfl _ _ w.heap.size 104 (tabA a) (0, 0) (.array 256 5) rfl Hr.out Try.underT rfl (by rw [tabA_size]; exact HI.out)
end Go.Proofs.Ytmgfapooanpgfaa
