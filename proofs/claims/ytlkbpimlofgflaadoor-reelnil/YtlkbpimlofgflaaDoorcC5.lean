import Derived.Test.YtlkbpimlofgflaaDoorcC4
namespace Go.Proofs.YtlkbpimlofgflaaDoor.Cr
open Go.RowKit

theorem by8_xor (x y : Nat) : by8 (x ^^^ y) = by8 x ^^^ by8 y := by
  apply BitVec.eq_of_getLsbD_eq
  intro j hj
  rw [BitVec.getLsbD_xor, by8_bit _ _ hj, by8_bit _ _ hj, by8_bit _ _ hj, Nat.testBit_xor]

theorem top_bit (a : BitVec 32) (j : Nat) : (a.toNat / 16777216).testBit j = a.getLsbD (24 + j) := by
  rw [show 16777216 = 2 ^ 24 from rfl, ← Nat.shiftRight_eq_div_pow, Nat.testBit_shiftRight, BitVec.testBit_toNat]

theorem top_lt (a : BitVec 32) : a.toNat / 16777216 < 256 := by have := a.isLt; omega

theorem X_8 (a : BitVec 32) : X 8 a = (a <<< 8) ^^^ X 8 (by8 (a.toNat / 16777216) <<< 24) := by
  have hL : ∀ j, 32 - 8 ≤ j → (a ^^^ (by8 (a.toNat / 16777216) <<< 24)).getLsbD j = false := by
    intro j hj
    by_cases h : j < 32
    · rw [BitVec.getLsbD_xor, BitVec.getLsbD_shiftLeft, by8_bit _ _ (by omega), top_bit]
      have e : 24 + (j - 24) = j := by omega
      have : ¬ j < 24 := by omega
      simp [h, this, e]
    · exact BitVec.getLsbD_of_ge _ _ (by omega)
  have h1 := X_shl 8 _ (by omega) hL
  have h2 : (a ^^^ (by8 (a.toNat / 16777216) <<< 24)) <<< 8 = a <<< 8 := by
    rw [shl_xor, ← BitVec.shiftLeft_add]
    have : by8 (a.toNat / 16777216) <<< (24 + 8) = 0#32 := BitVec.shiftLeft_eq_zero (by omega)
    rw [this, BitVec.xor_zero]
  rw [h2, X_xor] at h1
  rw [← h1, BitVec.xor_assoc, BitVec.xor_self, BitVec.xor_zero]

theorem ad1_tab (a : BitVec 32) (v : Nat) (hv : v < 256) : (a <<< 8) ^^^ tb (a.toNat / 16777216 ^^^ v) = ad1 a v := by
  unfold tb ad1
  rw [by8_xor, X_xor, X_xor, X_32_byte _ (top_lt a), X_32_byte v hv, X_8 a, BitVec.xor_assoc]

theorem nm_top8 (a : BitVec 32) : nm a / 16777216 = ((a.toNat / 16777216 : Nat) : Int) := by unfold nm; omega

theorem idx_lt (a : BitVec 32) (v : Nat) (hv : v < 256) : a.toNat / 16777216 ^^^ v < 256 := by
  have := Nat.xor_lt_two_pow (n := 8) (top_lt a) hv
  exact this

theorem idx_eq (a : BitVec 32) (v : Nat) (hv : v < 256) : bits BinOp.xor IntKind.u8 (nm a / 16777216) (v : Int) = ((a.toNat / 16777216 ^^^ v : Nat) : Int) := by
  rw [nm_top8]; exact u8_xor_nat _ _ (top_lt a) hv

theorem ad1_eq (a : BitVec 32) (v : Nat) (hv : v < 256) : bits BinOp.xor IntKind.u32 (nm a * 256 % 4294967296) (nm (tb (a.toNat / 16777216 ^^^ v))) = nm (ad1 a v) := by
  have h := nm_shl a 8
  rw [show (2 : Int) ^ 8 = 256 from rfl] at h
  rw [h, nm_xor, ad1_tab a v hv]

theorem tabA_at (j : Nat) (hj : j < 256) : tabA[j]? = some (.int .u32 (nm (tb j))) := by
  rw [tabA, List.getElem?_toArray, tabC_at _ _ hj, if_pos hj]

theorem adv_take (s : BitVec 32) (l : List Nat) (k : Nat) (h : k < l.length) : adv s (l.take (k + 1)) = ad1 (adv s (l.take k)) (l.getD k 0) := by
  rw [List.take_succ_eq_append_getElem h, adv_snoc]; simp [h]

theorem table_stored (u : World) : Sem.run Tryd.prog (storeCells ⟨u.heap.size, 0, none⟩ tabA.toList) (u.alloc (.cells (Array.replicate 256 (.int .u32 0)) 114)) = .ok () (u.alloc (.cells tabA 114)) := by
  obtain ⟨hv26, hi26⟩ := zero_of_info Tryd.info114
  exact run_storeCells_new u 114 _ tabA (by rw [tabA_size]; exact hi26) (by rw [tabA_size, Array.size_replicate]) tabA_one

set_option maxHeartbeats 1000000 in
set_option maxRecDepth 1000000 in
theorem advance_any (ao : Option Addr) (cap : Nat) (l : List Nat) (s : BitVec 32) (w : World) (hr : Reads w ao l) (hb : Byts l) (hl : l.length ≤ 9223372036854775807) :
    Calls Tryd.prog 67 #[.int .u32 (nm s), .slice ao l.length cap] w fun e w' => e = .returned (.int .u32 (nm (adv s l))) ∧ Kept [] w w' := by
  obtain ⟨hv26, hi26⟩ := zero_of_info Tryd.info114
  clear hi26
  have hsc := table_stored
  go_enter Tryd.func67, Tryd.ntmps67
  go_wp2_with (go_at_call 68; refine (table_any _).mono ?_; rintro e w1 ⟨rfl, hk1⟩)
  clear hsc hv26
  have hr2 := hr.keep (hk1.alloc (.cells tabA 114))
  have hk2 := hk1.alloc (.cells tabA 114)
  obtain ⟨T, hT⟩ : ∃ T, T = w1.heap.size := ⟨_, rfl⟩
  have ht : (w1.alloc (.cells tabA 114)).heap[T]? = some (.cells tabA 114 (0, 0)) := by rw [hT, heap_alloc_new]
  obtain ⟨w2, hw2⟩ : ∃ w2, w2 = w1.alloc (.cells tabA 114) := ⟨_, rfl⟩
  rw [← hT, ← hw2]
  rw [← hw2] at ht hk2 hr2
  clear hw2 hT hk1 hr
  have Ht := Hid.mk ht
  have Hk := Hid.mk hk2
  have Hr := Hid.mk hr2
  clear ht hk2 hr2
  go_loop [0, 11] (fun a i => ∃ k : Nat, k ≤ l.length ∧ i = .int .i64 (k : Int) ∧ a = .int .u32 (nm (adv s (l.take k)))) (fun _ i => l.length - (intOf i).toNat)
  case atStart => exact ⟨0, by omega, rfl, by rw [List.take_zero]; rfl⟩
  case round =>
    obtain ⟨k, hk, rfl, rfl⟩ := hrel
    by_cases hlt : k < l.length
    · have Hn := Hid.mk (adv_take s l k hlt)
      obtain ⟨A, hA⟩ : ∃ A, A = adv s (l.take k) := ⟨_, rfl⟩
      rw [← hA] at Hn ⊢
      clear hA
      obtain ⟨g, off, rfl, hc⟩ : ∃ g off, ao = some ⟨g, off, none⟩ ∧ w2.cell? ⟨g, off + k, none⟩ = some (.int .u8 (l.getD k 0 : Nat)) := by
        rcases Hr.out with h | ⟨g, off, h, hc⟩
        · subst h; simp at hlt
        · exact ⟨g, off, h, hc k hlt⟩
      have hv := getD_lt l k hb
      obtain ⟨v, hvv⟩ : ∃ v, v = l.getD k 0 := ⟨_, rfl⟩
      rw [← hvv] at hc hv Hn
      clear hvv
      have a0 := nm_lo A
      have a1 := nm_hi A
      have hi := idx_eq A v hv
      have hj := idx_lt A v hv
      have hx := ad1_eq A v hv
      have ht : w2.cell? ⟨T, A.toNat / 16777216 ^^^ v, none⟩ = some (.int .u32 (nm (tb (A.toNat / 16777216 ^^^ v)))) := by
        rw [cell_of_row _ _ _ _ _ _ Ht.out, tabA_at _ hj]
      obtain ⟨j, hjj⟩ : ∃ j, j = A.toNat / 16777216 ^^^ v := ⟨_, rfl⟩
      rw [← hjj] at hi hj hx ht
      obtain ⟨B, hB⟩ : ∃ B, B = tb j := ⟨_, rfl⟩
      rw [← hB] at hx ht
      obtain ⟨D, hD⟩ : ∃ D, D = ad1 A v := ⟨_, rfl⟩
      rw [← hD] at hx Hn
      clear hjj hB hD
      go_wp2
      go_round
      case rel => exact ⟨k + 1, by omega, by go_num, by rw [Hn.out]⟩
      case measure => simp [intOf]; omega
    · obtain rfl : k = l.length := by omega
      rw [List.take_length]
      obtain ⟨A, hA⟩ : ∃ A, A = adv s l := ⟨_, rfl⟩
      rw [← hA]
      have HA := Hid.mk hA
      clear hA
      go_wp2
      go_ret
      exact ⟨ret_int (by rw [HA.out]), Hk.out⟩
end Go.Proofs.YtlkbpimlofgflaaDoor.Cr
