import Derived.Test.YthhegomjipbdbaaGreatDoorLZ
import Derived.Deep.WholeRow
import Derived.Deep.MidRow
import Derived.Laws.ResultCell
namespace Go.Proofs.YthhegomjipbdbaaGreatDoor.Cr
open Go.RowKit

/-- The table's numbers. -/
def tb (j : Nat) : BitVec 32 := X 32 (by8 j)

/-- The cells of a table of which k places are filled. -/
def tabC (k : Nat) : List Value := (List.range 256).map fun j => .int .u32 (if j < k then nm (tb j) else 0)
def tabA : Array Value := (tabC 256).toArray

theorem tabC_length (k : Nat) : (tabC k).length = 256 := by simp [tabC]
theorem tabC_at (k j : Nat) (hj : j < 256) : (tabC k)[j]? = some (.int .u32 (if j < k then nm (tb j) else 0)) := by simp [tabC, hj]
theorem tabC_zero : tabC 0 = List.replicate 256 (.int .u32 0) := by
  unfold tabC
  apply List.ext_getElem?
  intro i
  by_cases h : i < 256
  · rw [List.getElem?_map, List.getElem?_range h, List.getElem?_replicate, if_pos h]; simp only [Option.map_some, Nat.not_lt_zero, if_false]
  · rw [List.getElem?_eq_none (by rw [List.length_map, List.length_range]; omega), List.getElem?_eq_none (by rw [List.length_replicate]; omega)]
theorem tabC_start : (tabC 0).toArray = Array.replicate 256 (.int .u32 0) := by rw [tabC_zero]; exact List.toArray_replicate ..
theorem tabC_set (k : Nat) (hk : k < 256) : (tabC k).set k (.int .u32 (nm (tb k))) = tabC (k + 1) := by
  apply List.ext_getElem?
  intro i
  by_cases h : i < 256
  · rw [List.getElem?_set, tabC_at _ _ h, tabC_at _ _ h]
    by_cases e : k = i
    · subst e; simp [tabC_length, hk]
    · rw [if_neg e]
      have : (i < k) = (i < k + 1) := by apply propext; omega
      simp [this]
  · rw [List.getElem?_eq_none (by simp [tabC_length]; omega), List.getElem?_eq_none (by simp [tabC_length]; omega)]
theorem tabC_one (k : Nat) : ∀ v ∈ tabC k, v.oneCell' = true := by
  intro v hv
  simp only [tabC, List.mem_map] at hv
  obtain ⟨j, _, rfl⟩ := hv
  rfl

theorem by8_half (k : Nat) (hk : k < 256) : by8 k = tx (by8 (k / 2)) ^^^ bv (decide (k % 2 = 1)) := by
  rw [tx_low (by rw [by8_bit _ _ (by decide)]; exact byte_bit (by omega) _ (by decide))]
  apply BitVec.eq_of_getLsbD_eq
  intro j hj
  rw [by8_bit _ _ hj, BitVec.getLsbD_xor, shl1_bit _ _ hj, by8_bit _ _ (by omega)]
  rcases j with _ | j
  · rw [Nat.testBit_zero]
    by_cases h : k % 2 = 1 <;> simp [h, bv]
  · rw [Nat.testBit_succ]
    by_cases h : k % 2 = 1 <;> simp [h, bv, BitVec.getLsbD_one]

theorem tb_half (k : Nat) (hk : k < 256) : tb k = tx (tb (k / 2)) ^^^ (if k % 2 = 1 then P else 0#32) := by
  unfold tb
  rw [by8_half k hk, X_xor, X_tx]
  congr 1
  by_cases h : k % 2 = 1
  · simp only [h, decide_true, bv, if_true]; exact X_32_1
  · simp only [h, decide_false, bv, Bool.false_eq_true, if_false]; exact X_zero 32
theorem tb_zero : tb 0 = 0#32 := X_zero 32

theorem Tryz.info188 : (Tryz.prog.info? 188).map (fun i => (i.zero, i.size)) = some (some (.agg (Array.replicate 256 (.int .u32 0))), 256) := by kernel_rfl

theorem Tryz.underlying188 : Tryz.prog.underlying 188 = some (.array 256 84) := by kernel_rfl

theorem tabA_size : tabA.size = 256 := by simp [tabA, tabC_length]
theorem tabA_one : tabA.all (·.oneCell') = true := all_oneCell_toArray (tabC_one 256)

theorem setRow_kept (w : World) (g : Nat) (cs : Array Value) : Kept [g] w (w.setRow g cs) :=
  ⟨rfl, rfl, rfl, by simp [World.setRow], fun k _ hk => setRow_other w g k _ (by simpa using hk)⟩

theorem tab_even (k : Nat) (h : k % 2 = 0) (hk : k < 256) : tx (tb (k / 2)) = tb k := by
  rw [tb_half k hk, if_neg (by omega), BitVec.xor_zero]
theorem tab_odd (k : Nat) (h : k % 2 = 1) (hk : k < 256) : tx (tb (k / 2)) ^^^ P = tb k := by
  rw [tb_half k hk, if_pos h]
theorem tab_read (k : Nat) (hk : k < 256) : (tabC k)[k / 2]? = some (.int .u32 (nm (tb (k / 2)))) := by
  rw [tabC_at _ _ (by omega)]
  by_cases h : k / 2 < k
  · rw [if_pos h]
  · have : k = 0 := by omega
    subst this
    rw [if_neg (by omega), show 0 / 2 = 0 from rfl, tb_zero]; rfl

theorem storeCells_row (w : World) (g : Nat) (t : TypeId) (cs old : List Value) (hg : w.heap[g]? = some (.cells old.toArray t (0, 0))) (hl : old.length = cs.length) (h1 : ∀ v ∈ cs, v.oneCell' = true) :
    Sem.run Tryz.prog (storeCells ⟨g, 0, none⟩ cs) w = .ok () (w.setRow g cs.toArray) := by
  have := run_storeCells_from (P := Tryz.prog) g t cs 0 old.toArray w hg (by simp; omega) h1
  simpa using this

set_option maxHeartbeats 1000000 in
set_option maxRecDepth 1000000 in
theorem table_any (w : World) :
    Calls Tryz.prog 125 #[] w fun e w' => e = .returned (.agg tabA) ∧ Kept [] w w' := by
  obtain ⟨hv26, hi26⟩ := zero_of_info Tryz.info188
  have Hi := Hid.mk hi26
  clear hi26
  go_enter Tryz.func125, Tryz.ntmps125
  go_wp2
  clear hv26
  go_loopw [3] (fun i wr => ∃ k : Nat, k ≤ 256 ∧ i = .int .i64 (k : Int) ∧ wr.heap[w.heap.size]? = some (.cells (tabC 0).toArray 188 (0, 0)) ∧ wr.heap[w.heap.size + 1]? = some (.cells (tabC k).toArray 188 (0, 0)) ∧ Kept [] w wr)
    (fun i _ => 256 - (intOf i).toNat)
  case atStart =>
    refine ⟨0, by omega, rfl, ?_, ?_, ((Kept.refl _ _).alloc _).alloc _⟩
    · rw [heap_alloc_old _ _ (by simp), heap_alloc_new, tabC_start]
    · rw [heap_alloc2_new, tabC_start]
  case round =>
    obtain ⟨k, hk, rfl, h0, h1, hkr⟩ := hrel
    have H0 := Hid.mk h0
    have H1 := Hid.mk h1
    have Hk := Hid.mk hkr
    clear h0 h1 hkr
    by_cases hlt : k < 256
    · have hd : (k : Int).tdiv 2 = ((k / 2 : Nat) : Int) := by rw [Int.tdiv_eq_ediv_of_nonneg (by omega)]; omega
      have hm2 : (k : Int).tmod 2 = ((k % 2 : Nat) : Int) := by rw [Int.tmod_eq_emod_of_nonneg (by omega)]; omega
      have hcell : wr.cell? ⟨w.heap.size + 1, k / 2, none⟩ = some (.int .u32 (nm (tb (k / 2)))) := by
        rw [cell_of_row _ _ _ _ _ _ H1.out, List.getElem?_toArray]; exact tab_read k hlt
      obtain ⟨u, hu⟩ : ∃ u, wr.cell? ⟨w.heap.size + 1, k, none⟩ = some u := row_cell_at H1.out (by rw [tabC_length]; exact hlt)
      have hfz : wr.frozen? ⟨w.heap.size + 1, k, none⟩ = false := by simp [World.frozen?, H1.out]
      have hk2 : k / 2 < 256 := by omega
      rcases Nat.mod_two_eq_zero_or_one k with h2 | h2
      · rw [h2] at hm2
        have He := Hid.mk (tab_even k h2 hlt)
        obtain ⟨A, hA⟩ : ∃ A, A = tb (k / 2) := ⟨_, rfl⟩
        rw [← hA] at He hcell
        clear hA h2
        go_wp2_with (go_at_call 141; refine (timesX_any _ _).mono ?_; rintro e w' ⟨rfl, rfl⟩)
        go_roundw
        case rel =>
          refine ⟨k + 1, by omega, by go_num, ?_, ?_, Hk.out.setCell (p := ⟨w.heap.size + 1, k, none⟩) (.inr (by simp)) _⟩
          · rw [Below.heap_setCell _ _ _ _ (by simp)]; exact H0.out
          · rw [heap_setCell_at H1.out, List.setIfInBounds_toArray, He.out, tabC_set k hlt]
        case measure => simp [intOf]; omega
      · rw [h2] at hm2
        have He := Hid.mk (tab_odd k h2 hlt)
        have hx := nm_xor (tx (tb (k / 2))) P
        rw [← nm_P] at hx
        obtain ⟨A, hA⟩ : ∃ A, A = tb (k / 2) := ⟨_, rfl⟩
        rw [← hA] at He hcell hx
        clear hA h2
        go_wp2_with (go_at_call 141; refine (timesX_any _ _).mono ?_; rintro e w' ⟨rfl, rfl⟩)
        go_roundw
        case rel =>
          refine ⟨k + 1, by omega, by go_num, ?_, ?_, (Hk.out.setCell (p := ⟨w.heap.size + 1, k, none⟩) (.inr (by simp)) _).setCell (p := ⟨w.heap.size + 1, k, none⟩) (.inr (by simp)) _⟩
          · rw [Below.heap_setCell _ _ _ _ (by simp), Below.heap_setCell _ _ _ _ (by simp)]; exact H0.out
          · rw [heap_setCell_at (heap_setCell_at H1.out), List.setIfInBounds_toArray, List.setIfInBounds_toArray, List.set_set, He.out, tabC_set k hlt]
        case measure => simp [intOf]; omega
    · obtain rfl : k = 256 := by omega
      have hi := Hi.out
      have h1 := H1.out
      have e1 : (tabC 256).toArray = tabA := rfl
      rw [e1] at h1
      clear e1
      have H1 := Hid.mk h1
      have HI := Hid.mk hi
      clear h1 hi
      go_wp2
      refine wp_load_row 188 _ (by rfl) (w.heap.size + 1) (by rfl) 188 tabA (0, 0) (.array 256 84) H1.out Tryz.underlying188 rfl (by rw [tabA_size]; exact HI.out) ?_
      have hsc := storeCells_row wr w.heap.size 188 tabA.toList _ H0.out (by simp [tabC_length, tabA_size]) (fun v hv => (Array.all_eq_true_iff_forall_mem.1 tabA_one) v (by simpa using hv))
      obtain ⟨wz, hz⟩ : ∃ wz, wz = wr.setRow w.heap.size tabA.toList.toArray := ⟨_, rfl⟩
      have hr : wz.heap[w.heap.size]? = some (.cells tabA 188 (0, 0)) := by rw [hz, Array.toArray_toList]; exact setRow_heap wr _ _ _ 188 _ H0.out
      have hK : Kept [] w wz := by rw [hz]; exact Hk.out.step (setRow_kept _ _ _) (fun x hx => by simp at hx; subst hx; exact .inr (Nat.le_refl _))
      rw [← hz] at hsc
      have Hr := Hid.mk hr
      have HK := Hid.mk hK
      clear hr hK hz
      go_wp2
      refine bodyPost_ret (v := .agg tabA) ?_ rfl ⟨rfl, HK.out⟩
      exact results_cell_row rfl _ _ w.heap.size 188 tabA (0, 0) (.array 256 84) rfl Hr.out Tryz.underlying188 rfl (by rw [tabA_size]; exact HI.out)
end Go.Proofs.YthhegomjipbdbaaGreatDoor.Cr

namespace Go.Proofs.YthhegomjipbdbaaGreatDoor.Cr
open Go.RowKit

theorem by8_xor (x y : Nat) : by8 (x ^^^ y) = by8 x ^^^ by8 y := by
  apply BitVec.eq_of_getLsbD_eq
  intro j hj
  rw [BitVec.getLsbD_xor, by8_bit _ _ hj, by8_bit _ _ hj, by8_bit _ _ hj, Nat.testBit_xor]

theorem top_bit (a : BitVec 32) (j : Nat) : (a.toNat / 16777216).testBit j = a.getLsbD (24 + j) := by
  rw [show 16777216 = 2 ^ 24 from rfl, ← Nat.shiftRight_eq_div_pow, Nat.testBit_shiftRight, BitVec.testBit_toNat]

theorem top_lt (a : BitVec 32) : a.toNat / 16777216 < 256 := by have := a.isLt; omega

theorem X_8 (a : BitVec 32) : X 8 a = (a <<< 8) ^^^ X 8 (by8 (a.toNat / 16777216) <<< 24) := by
  have hL : ∀ j, 32 - 8 ≤ j → (a ^^^ (by8 (a.toNat / 16777216) <<< 24)).getLsbD j = false := by
    intro j hj
    by_cases h : j < 32
    · rw [BitVec.getLsbD_xor, BitVec.getLsbD_shiftLeft, by8_bit _ _ (by omega), top_bit]
      have e : 24 + (j - 24) = j := by omega
      have : ¬ j < 24 := by omega
      simp [h, this, e]
    · exact BitVec.getLsbD_of_ge _ _ (by omega)
  have h1 := X_shl 8 _ (by omega) hL
  have h2 : (a ^^^ (by8 (a.toNat / 16777216) <<< 24)) <<< 8 = a <<< 8 := by
    rw [shl_xor, ← BitVec.shiftLeft_add]
    have : by8 (a.toNat / 16777216) <<< (24 + 8) = 0#32 := BitVec.shiftLeft_eq_zero (by omega)
    rw [this, BitVec.xor_zero]
  rw [h2, X_xor] at h1
  rw [← h1, BitVec.xor_assoc, BitVec.xor_self, BitVec.xor_zero]

theorem ad1_tab (a : BitVec 32) (v : Nat) (hv : v < 256) : (a <<< 8) ^^^ tb (a.toNat / 16777216 ^^^ v) = ad1 a v := by
  unfold tb ad1
  rw [by8_xor, X_xor, X_xor, X_32_byte _ (top_lt a), X_32_byte v hv, X_8 a, BitVec.xor_assoc]

theorem nm_top8 (a : BitVec 32) : nm a / 16777216 = ((a.toNat / 16777216 : Nat) : Int) := by unfold nm; omega

theorem idx_lt (a : BitVec 32) (v : Nat) (hv : v < 256) : a.toNat / 16777216 ^^^ v < 256 := by
  have := Nat.xor_lt_two_pow (n := 8) (top_lt a) hv
  exact this

theorem idx_eq (a : BitVec 32) (v : Nat) (hv : v < 256) : bits BinOp.xor IntKind.u8 (nm a / 16777216) (v : Int) = ((a.toNat / 16777216 ^^^ v : Nat) : Int) := by
  rw [nm_top8]; exact u8_xor_nat _ _ (top_lt a) hv

theorem ad1_eq (a : BitVec 32) (v : Nat) (hv : v < 256) : bits BinOp.xor IntKind.u32 (nm a * 256 % 4294967296) (nm (tb (a.toNat / 16777216 ^^^ v))) = nm (ad1 a v) := by
  have h := nm_shl a 8
  rw [show (2 : Int) ^ 8 = 256 from rfl] at h
  rw [h, nm_xor, ad1_tab a v hv]

theorem tabA_at (j : Nat) (hj : j < 256) : tabA[j]? = some (.int .u32 (nm (tb j))) := by
  rw [tabA, List.getElem?_toArray, tabC_at _ _ hj, if_pos hj]

theorem adv_take (s : BitVec 32) (l : List Nat) (k : Nat) (h : k < l.length) : adv s (l.take (k + 1)) = ad1 (adv s (l.take k)) (l.getD k 0) := by
  rw [List.take_succ_eq_append_getElem h, adv_snoc]; simp [h]

theorem table_stored (u : World) : Sem.run Tryz.prog (storeCells ⟨u.heap.size, 0, none⟩ tabA.toList) (u.alloc (.cells (Array.replicate 256 (.int .u32 0)) 188)) = .ok () (u.alloc (.cells tabA 188)) := by
  obtain ⟨hv26, hi26⟩ := zero_of_info Tryz.info188
  exact run_storeCells_new u 188 _ tabA (by rw [tabA_size]; exact hi26) (by rw [tabA_size, Array.size_replicate]) tabA_one

set_option maxHeartbeats 1000000 in
set_option maxRecDepth 1000000 in
theorem advance_any (ao : Option Addr) (cap : Nat) (l : List Nat) (s : BitVec 32) (w : World) (hr : Reads w ao l) (hb : Byts l) (hl : l.length ≤ 9223372036854775807) :
    Calls Tryz.prog 104 #[.int .u32 (nm s), .slice ao l.length cap] w fun e w' => e = .returned (.int .u32 (nm (adv s l))) ∧ Kept [] w w' := by
  obtain ⟨hv26, hi26⟩ := zero_of_info Tryz.info188
  clear hi26
  have hsc := table_stored
  go_enter Tryz.func104, Tryz.ntmps104
  go_wp2_with (go_at_call 125; refine (table_any _).mono ?_; rintro e w1 ⟨rfl, hk1⟩)
  clear hsc hv26
  have hr2 := hr.keep (hk1.alloc (.cells tabA 188))
  have hk2 := hk1.alloc (.cells tabA 188)
  obtain ⟨T, hT⟩ : ∃ T, T = w1.heap.size := ⟨_, rfl⟩
  have ht : (w1.alloc (.cells tabA 188)).heap[T]? = some (.cells tabA 188 (0, 0)) := by rw [hT, heap_alloc_new]
  obtain ⟨w2, hw2⟩ : ∃ w2, w2 = w1.alloc (.cells tabA 188) := ⟨_, rfl⟩
  rw [← hT, ← hw2]
  rw [← hw2] at ht hk2 hr2
  clear hw2 hT hk1 hr
  have Ht := Hid.mk ht
  have Hk := Hid.mk hk2
  have Hr := Hid.mk hr2
  clear ht hk2 hr2
  go_loop [0, 11] (fun a i => ∃ k : Nat, k ≤ l.length ∧ i = .int .i64 (k : Int) ∧ a = .int .u32 (nm (adv s (l.take k)))) (fun _ i => l.length - (intOf i).toNat)
  case atStart => exact ⟨0, by omega, rfl, by rw [List.take_zero]; rfl⟩
  case round =>
    obtain ⟨k, hk, rfl, rfl⟩ := hrel
    by_cases hlt : k < l.length
    · have Hn := Hid.mk (adv_take s l k hlt)
      obtain ⟨A, hA⟩ : ∃ A, A = adv s (l.take k) := ⟨_, rfl⟩
      rw [← hA] at Hn ⊢
      clear hA
      obtain ⟨g, off, rfl, hc⟩ : ∃ g off, ao = some ⟨g, off, none⟩ ∧ w2.cell? ⟨g, off + k, none⟩ = some (.int .u8 (l.getD k 0 : Nat)) := by
        rcases Hr.out with h | ⟨g, off, h, hc⟩
        · subst h; simp at hlt
        · exact ⟨g, off, h, hc k hlt⟩
      have hv := getD_lt l k hb
      obtain ⟨v, hvv⟩ : ∃ v, v = l.getD k 0 := ⟨_, rfl⟩
      rw [← hvv] at hc hv Hn
      clear hvv
      have a0 := nm_lo A
      have a1 := nm_hi A
      have hi := idx_eq A v hv
      have hj := idx_lt A v hv
      have hx := ad1_eq A v hv
      have ht : w2.cell? ⟨T, A.toNat / 16777216 ^^^ v, none⟩ = some (.int .u32 (nm (tb (A.toNat / 16777216 ^^^ v)))) := by
        rw [cell_of_row _ _ _ _ _ _ Ht.out, tabA_at _ hj]
      obtain ⟨j, hjj⟩ : ∃ j, j = A.toNat / 16777216 ^^^ v := ⟨_, rfl⟩
      rw [← hjj] at hi hj hx ht
      obtain ⟨B, hB⟩ : ∃ B, B = tb j := ⟨_, rfl⟩
      rw [← hB] at hx ht
      obtain ⟨D, hD⟩ : ∃ D, D = ad1 A v := ⟨_, rfl⟩
      rw [← hD] at hx Hn
      clear hjj hB hD
      go_wp2
      go_round
      case rel => exact ⟨k + 1, by omega, by go_num, by rw [Hn.out]⟩
      case measure => simp [intOf]; omega
    · obtain rfl : k = l.length := by omega
      rw [List.take_length]
      obtain ⟨A, hA⟩ : ∃ A, A = adv s l := ⟨_, rfl⟩
      rw [← hA]
      have HA := Hid.mk hA
      clear hA
      go_wp2
      go_ret
      exact ⟨ret_int (by rw [HA.out]), Hk.out⟩
end Go.Proofs.YthhegomjipbdbaaGreatDoor.Cr
