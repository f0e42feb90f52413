import Derived.Test.YtmgfapooanpgfaaG1
import Derived.Test.YtmgfapooanpgfaaM4
import Derived.Deep.WholeRow
import Derived.Deep.MidRow
import Derived.Laws.ResultCell
import Derived.Deep.RegionLaw
namespace Go.Proofs.Ytmgfapooanpgfaa
open Go.RowKit

/-- The cells of a table of which k places are filled. -/
def tabC (a k : Nat) : List Value := (List.range 256).map fun j => .int .u8 (if j < k then (mu a j : Int) else 0)
def tabA (a : Nat) : Array Value := (tabC a 256).toArray

theorem tabC_length (a k : Nat) : (tabC a k).length = 256 := by simp [tabC]
theorem tabC_at (a k j : Nat) (hj : j < 256) : (tabC a k)[j]? = some (.int .u8 (if j < k then (mu a j : Int) else 0)) := by simp [tabC, hj]
theorem tabC_zero (a : Nat) : tabC a 0 = List.replicate 256 (.int .u8 0) := by
  unfold tabC
  apply List.ext_getElem?
  intro i
  by_cases h : i < 256
  · rw [List.getElem?_map, List.getElem?_range h, List.getElem?_replicate, if_pos h]; simp only [Option.map_some, Nat.not_lt_zero, if_false]
  · rw [List.getElem?_eq_none (by rw [List.length_map, List.length_range]; omega), List.getElem?_eq_none (by rw [List.length_replicate]; omega)]
theorem tabC_start (a : Nat) : (tabC a 0).toArray = Array.replicate 256 (.int .u8 0) := by rw [tabC_zero]; exact List.toArray_replicate ..
theorem tabC_set (a k : Nat) (hk : k < 256) : (tabC a k).set k (.int .u8 (mu a k : Int)) = tabC a (k + 1) := by
  apply List.ext_getElem?
  intro i
  by_cases h : i < 256
  · rw [List.getElem?_set, tabC_at _ _ _ h, tabC_at _ _ _ h]
    by_cases e : k = i
    · subst e; simp [tabC_length, hk]
    · rw [if_neg e]
      have : (i < k) = (i < k + 1) := by apply propext; omega
      simp [this]
  · rw [List.getElem?_eq_none (by simp [tabC_length]; omega), List.getElem?_eq_none (by simp [tabC_length]; omega)]
theorem tabC_one (a k : Nat) : ∀ v ∈ tabC a k, v.oneCell' = true := by
  intro v hv
  simp only [tabC, List.mem_map] at hv
  obtain ⟨j, _, rfl⟩ := hv
  rfl

theorem mu_t2 (a x : Nat) (hx : x < 256) : mu a (t2 x) = t2 (mu a x) := by
  rw [t2_tx hx, t2_tx (mu_lt _ _)]
  unfold mu
  rw [el_toNat, el_toNat, M_tx]
theorem half_all : ∀ k : Fin 256, k.val = t2 (k.val / 2) ^^^ (k.val % 2) := by decide +kernel
theorem tb_half (a k : Nat) (ha : a < 256) (hk : k < 256) : mu a k = t2 (mu a (k / 2)) ^^^ (if k % 2 = 1 then a else 0) := by
  have h := half_all ⟨k, hk⟩
  simp only at h
  rw [← mu_t2 _ _ (by omega)]
  have e : mu a k = mu a (t2 (k / 2) ^^^ (k % 2)) := by rw [← h]
  rw [e, mu_xor]
  congr 1
  rcases Nat.mod_two_eq_zero_or_one k with h2 | h2
  · rw [h2, mu_zero]; rfl
  · rw [h2, mu_one ha]; rfl
theorem tab_read (a k : Nat) (hk : k < 256) : (tabC a k)[k / 2]? = some (.int .u8 (mu a (k / 2) : Int)) := by
  rw [tabC_at _ _ _ (by omega)]
  by_cases h : k / 2 < k
  · rw [if_pos h]
  · have : k = 0 := by omega
    subst this
    rw [if_neg (by omega), show 0 / 2 = 0 from rfl, mu_zero]; rfl

theorem Try.infoT : (Try.prog.info? 104).map (fun i => (i.zero, i.size)) = some (some (.agg (Array.replicate 256 (.int .u8 0))), 256) := by kernel_rfl
theorem Try.underT : Try.prog.underlying 104 = some (.array 256 5) := by kernel_rfl

theorem tabA_size (a : Nat) : (tabA a).size = 256 := by simp [tabA, tabC_length]
theorem tabA_one (a : Nat) : (tabA a).all (·.oneCell') = true := all_oneCell_toArray (tabC_one a 256)
theorem tabA_at (a j : Nat) (hj : j < 256) : (tabA a)[j]? = some (.int .u8 (mu a j : Int)) := by
  rw [tabA, List.getElem?_toArray, tabC_at _ _ _ hj, if_pos hj]

theorem setRow_kept (w : World) (g : Nat) (cs : Array Value) : Kept [g] w (w.setRow g cs) :=
  ⟨rfl, rfl, rfl, by simp [World.setRow], fun k _ hk => setRow_other w g k _ (by simpa using hk)⟩

theorem storeCells_row (w : World) (g : Nat) (t : TypeId) (cs old : List Value) (hg : w.heap[g]? = some (.cells old.toArray t (0, 0))) (hl : old.length = cs.length) (h1 : ∀ v ∈ cs, v.oneCell' = true) :
    Sem.run Try.prog (storeCells ⟨g, 0, none⟩ cs) w = .ok () (w.setRow g cs.toArray) := by
  have := run_storeCells_from (P := Try.prog) g t cs 0 old.toArray w hg (by simp; omega) h1
  simpa using this

set_option maxHeartbeats 2000000 in
set_option maxRecDepth 1000000 in
theorem multiples_any (a : Nat) (ha : a < 256) (w : World) :
    Calls Try.prog 77 #[.int .u8 (a : Int)] w fun e w' => e = .returned (.agg (tabA a)) ∧ Kept [] w w' := by
  obtain ⟨hvT, hiT⟩ := zero_of_info Try.infoT
  have Hi := Hid.mk hiT
  clear hiT
  go_enter Try.func77, Try.ntmps77
  go_wp2
  clear hvT
  go_loopw [5] (fun i wr => ∃ k : Nat, k ≤ 256 ∧ i = .int .i64 (k : Int) ∧ wr.heap[w.heap.size]? = some (.cells (tabC a 0).toArray 104 (0, 0)) ∧ wr.heap[w.heap.size + 1]? = some (.cells (tabC a k).toArray 104 (0, 0)) ∧ Kept [] w wr)
    (fun i _ => 256 - (intOf i).toNat)
  case atStart =>
    refine ⟨0, by omega, rfl, ?_, ?_, ((Kept.refl _ _).alloc _).alloc _⟩
    · rw [heap_alloc_old _ _ (by simp), heap_alloc_new, tabC_start]
    · rw [heap_alloc2_new, tabC_start]
  case round =>
    obtain ⟨k, hk, rfl, h0, h1, hkr⟩ := hrel
    have H0 := Hid.mk h0
    have H1 := Hid.mk h1
    have Hk := Hid.mk hkr
    clear h0 h1 hkr
    by_cases hlt : k < 256
    · have hd : (k : Int).tdiv 2 = ((k / 2 : Nat) : Int) := by rw [Int.tdiv_eq_ediv_of_nonneg (by omega)]; omega
      have hm2 : (k : Int).tmod 2 = ((k % 2 : Nat) : Int) := by rw [Int.tmod_eq_emod_of_nonneg (by omega)]; omega
      have hcell : wr.cell? ⟨w.heap.size + 1, k / 2, none⟩ = some (.int .u8 (mu a (k / 2) : Int)) := by
        rw [cell_of_row _ _ _ _ _ _ H1.out, List.getElem?_toArray]; exact tab_read a k hlt
      obtain ⟨u, hu⟩ : ∃ u, wr.cell? ⟨w.heap.size + 1, k, none⟩ = some u := row_cell_at H1.out (by rw [tabC_length]; exact hlt)
      have hfz : wr.frozen? ⟨w.heap.size + 1, k, none⟩ = false := by simp [World.frozen?, H1.out]
      have hk2 : k / 2 < 256 := by omega
      have hA1 := mu_lt a (k / 2)
      have He := tb_half a k ha hlt
      obtain ⟨A, hA⟩ : ∃ A, A = mu a (k / 2) := ⟨_, rfl⟩
      rw [← hA] at He hcell hA1
      clear hA
      have hA2 := t2_lt hA1
      rcases Nat.mod_two_eq_zero_or_one k with h2 | h2
      · rw [h2] at hm2
        rw [if_neg (by omega), Nat.xor_zero] at He
        have hx := u8_xor_nat (t2 A) 0 hA2 (by decide)
        rw [Nat.xor_zero, ← He, show ((0 : Nat) : Int) = 0 from rfl] at hx
        have HE := Hid.mk He
        have hml := mu_lt a k
        rw [He] at hx
        clear He h2
        go_wp2_with (go_at_call 39; refine (timesX_any _ hA1 _).mono ?_; rintro e w' ⟨rfl, rfl⟩)
        go_roundw
        case rel =>
          refine ⟨k + 1, by omega, by go_num, ?_, ?_, Hk.out.setCell (p := ⟨w.heap.size + 1, k, none⟩) (.inr (by simp)) _⟩
          · rw [Below.heap_setCell _ _ _ _ (by simp)]; exact H0.out
          · rw [heap_setCell_at H1.out, List.setIfInBounds_toArray, ← HE.out, tabC_set a k hlt]
        case measure => simp [intOf]; omega
      · rw [h2] at hm2
        rw [if_pos h2] at He
        have hx := u8_xor_nat (t2 A) a hA2 ha
        have HE := Hid.mk He
        clear He h2
        go_wp2_with (go_at_call 39; refine (timesX_any _ hA1 _).mono ?_; rintro e w' ⟨rfl, rfl⟩)
        go_roundw
        case rel =>
          refine ⟨k + 1, by omega, by go_num, ?_, ?_, Hk.out.setCell (p := ⟨w.heap.size + 1, k, none⟩) (.inr (by simp)) _⟩
          · rw [Below.heap_setCell _ _ _ _ (by simp)]; exact H0.out
          · rw [heap_setCell_at H1.out, List.setIfInBounds_toArray, ← HE.out, tabC_set a k hlt]
        case measure => simp [intOf]; omega
    · obtain rfl : k = 256 := by omega
      have hi := Hi.out
      have h1 := H1.out
      have e1 : (tabC a 256).toArray = tabA a := rfl
      rw [e1] at h1
      clear e1
      have H1 := Hid.mk h1
      have HI := Hid.mk hi
      clear h1 hi
      go_wp2
      refine wp_load_row 104 _ (by rfl) (w.heap.size + 1) (by rfl) 104 (tabA a) (0, 0) (.array 256 5) H1.out Try.underT rfl (by rw [tabA_size]; exact HI.out) ?_
      have hsc := storeCells_row wr w.heap.size 104 (tabA a).toList _ H0.out (by simp [tabC_length, tabA_size]) (fun v hv => (Array.all_eq_true_iff_forall_mem.1 (tabA_one a)) v (by simpa using hv))
      obtain ⟨wz, hz⟩ : ∃ wz, wz = wr.setRow w.heap.size (tabA a).toList.toArray := ⟨_, rfl⟩
      have hr : wz.heap[w.heap.size]? = some (.cells (tabA a) 104 (0, 0)) := by rw [hz, Array.toArray_toList]; exact setRow_heap wr _ _ _ 104 _ H0.out
      have hK : Kept [] w wz := by rw [hz]; exact Hk.out.step (setRow_kept _ _ _) (fun x hx => by simp at hx; subst hx; exact .inr (Nat.le_refl _))
      rw [← hz] at hsc
      have Hr := Hid.mk hr
      have HK := Hid.mk hK
      clear hr hK hz
      go_wp2
      refine bodyPost_ret (v := .agg (tabA a)) ?_ rfl ⟨rfl, HK.out⟩
      exact results_cell_row rfl _ _ w.heap.size 104 (tabA a) (0, 0) (.array 256 5) rfl Hr.out Try.underT rfl (by rw [tabA_size]; exact HI.out)

theorem table_stored (a : Nat) (u : World) : Sem.run Try.prog (storeCells ⟨u.heap.size, 0, none⟩ (tabA a).toList) (u.alloc (.cells (Array.replicate 256 (.int .u8 0)) 104)) = .ok () (u.alloc (.cells (tabA a) 104)) := by
  obtain ⟨hvT, hiT⟩ := zero_of_info Try.infoT
  exact run_storeCells_new u 104 _ (tabA a) (by rw [tabA_size]; exact hiT) (by rw [tabA_size, Array.size_replicate]) (tabA_one a)
end Go.Proofs.Ytmgfapooanpgfaa
