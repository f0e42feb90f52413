import Derived.Test.YthhegomjipbdbaaGreatDoorcC4Z
import Derived.Test.YthhegomjipbdbaaGreatDoorLZ
import Derived.Lib.SlBytesConst
namespace Go.Proofs.YthhegomjipbdbaaGreatDoor.Cr
open Go.RowKit

theorem adv_m (ao : Option Addr) (cap m : Nat) (l : List Nat) (s : BitVec 32) (w : World) (hr : Reads w ao l) (hb : Byts l) (hm : l.length = m) (hl : m ≤ 9223372036854775807) :
    Calls Tryz.prog 104 #[.int .u32 (nm s), .slice ao m cap] w fun e w' => e = .returned (.int .u32 (nm (adv s l))) ∧ Kept [] w w' := by
  subst hm; exact advance_any ao cap l s w hr hb hl

/-- The sum that goes on, the sum. -/
def mr (s : BitVec 32) (l : List Nat) : BitVec 32 := ~~~ adv (~~~ s) l
def sm (l : List Nat) : BitVec 32 := mr 0#32 l
def rm (l : List Nat) : BitVec 32 := adv 0#32 l

theorem nm_not (a : BitVec 32) : bits BinOp.xor IntKind.u32 (if IntKind.u32.signed = true then -1 else IntKind.u32.max) (nm a) = nm (~~~ a) := by
  have e : (if IntKind.u32.signed = true then (-1 : Int) else IntKind.u32.max) = nm (BitVec.allOnes 32) := by decide
  rw [e, nm_xor]
  congr 1

set_option maxHeartbeats 1000000 in
set_option maxRecDepth 1000000 in
theorem more_any (ao : Option Addr) (cap m : Nat) (l : List Nat) (s : BitVec 32) (w : World) (hr : Reads w ao l) (hb : Byts l) (hm : l.length = m) (hl : m ≤ 9223372036854775807) :
    Calls Tryz.prog 84 #[.int .u32 (nm s), .slice ao m cap] w fun e w' => e = .returned (.int .u32 (nm (mr s l))) ∧ Kept [] w w' := by
  have h1 := nm_not s
  have h2 := nm_not (adv (~~~ s) l)
  go_enter Tryz.func84, Tryz.ntmps84
  go_wp2_with (go_at_call 104; refine (adv_m _ _ _ l _ _ hr hb hm hl).mono ?_; rintro e w' ⟨rfl, hk⟩)
  go_ret
  refine ⟨ret_int ?_, hk⟩
  first
  | exact h2
  | rfl

theorem nm_zero32 : (0 : Int) = nm 0#32 := rfl

set_option maxHeartbeats 1000000 in
set_option maxRecDepth 1000000 in
theorem sum_any (ao : Option Addr) (cap m : Nat) (l : List Nat) (w : World) (hr : Reads w ao l) (hb : Byts l) (hm : l.length = m) (hl : m ≤ 9223372036854775807) :
    Calls Tryz.prog 57 #[.slice ao m cap] w fun e w' => e = .returned (.int .u32 (nm (sm l))) ∧ Kept [] w w' := by
  go_enter Tryz.func57, Tryz.ntmps57
  go_wp2_with (go_at_call 84; refine (more_any _ _ _ l 0#32 _ hr hb hm hl).mono ?_; rintro e w' ⟨rfl, hk⟩)
  go_ret
  exact ⟨rfl, hk⟩

theorem reads_new (w : World) (l : List Nat) (fr : Nat × Nat) : Reads (w.alloc (.cells (l.map byt).toArray 5 fr)) (some ⟨w.heap.size, 0, none⟩) l := by
  refine .inr ⟨w.heap.size, 0, rfl, fun i hi => ?_⟩
  rw [cell_of_row _ _ _ _ _ _ (heap_alloc_new w _)]
  simp [hi]

/-- The nine digits of the document's example. -/
def dgt : List Nat := [49, 50, 51, 52, 53, 54, 55, 56, 57]

theorem dgt_sum : nm (sm dgt) = 4236843288 := by decide +kernel
theorem one_rem : nm (rm [1]) = 79764919 := by decide +kernel
theorem seven_nine : nm (jn 7#32 9#32 0) = 14 := by decide +kernel
theorem nm_7 : (7 : Int) = nm 7#32 := rfl
theorem nm_9 : (9 : Int) = nm 9#32 := rfl

theorem shown_sum (w : World) : Calls Tryz.prog 57 #[.slice (some ⟨w.heap.size, 0, none⟩) 9 9] (w.alloc (.cells #[.int .u8 49, .int .u8 50, .int .u8 51, .int .u8 52, .int .u8 53, .int .u8 54, .int .u8 55, .int .u8 56, .int .u8 57] 5 (9, 10))) fun e w' => e = .returned (.int .u32 4236843288) ∧ Kept [] w w' := by
  have h := sum_any _ 9 9 dgt _ (reads_new w dgt (9, 10)) (by unfold Byts dgt; decide) rfl (by decide)
  rw [dgt_sum] at h
  exact h.mono fun e w' ⟨he, hk⟩ => ⟨he, ((Kept.refl [] w).alloc _).trans hk⟩

end Go.Proofs.YthhegomjipbdbaaGreatDoor.Cr

namespace Go.Proofs.YthhegomjipbdbaaGreatDoor.Cr
open Go.RowKit

theorem bit_num (x j : Nat) : ((x / 2 ^ j % 2 : Nat) : Int) = bi (x.testBit j) := by
  rw [Nat.testBit_eq_decide_div_mod_eq]
  unfold bi
  rcases Nat.mod_two_eq_zero_or_one (x / 2 ^ j) with h | h <;> simp [h]

set_option maxHeartbeats 1000000 in
set_option maxRecDepth 1000000 in
theorem bit_any (ao : Option Addr) (cap m : Nat) (l : List Nat) (i : Nat) (w : World) (hr : Reads w ao l) (hb : Byts l) (hm : l.length = m) (hl : m ≤ 1152921504606846976) (hi : i ≤ 9223372036854775807) :
    Calls Tryz.prog 105 #[.slice ao m cap, .int .i64 (i : Int)] w fun e w' => e = .returned (.int .u32 (bi (bt l i))) ∧ w' = w := by
  have hd : (i : Int).tdiv 8 = ((i / 8 : Nat) : Int) := by rw [Int.tdiv_eq_ediv_of_nonneg (by omega)]; omega
  have hmm : (i : Int).tmod 8 = ((i % 8 : Nat) : Int) := by rw [Int.tmod_eq_emod_of_nonneg (by omega)]; omega
  by_cases h : i / 8 < m
  · obtain ⟨g, off, rfl, hc⟩ : ∃ g off, ao = some ⟨g, off, none⟩ ∧ w.cell? ⟨g, off + i / 8, none⟩ = some (.int .u8 (l.getD (i / 8) 0 : Nat)) := by
      rcases hr with h' | ⟨g, off, h', hc⟩
      · subst h'; simp at hm; omega
      · exact ⟨g, off, h', hc (i / 8) (by omega)⟩
    have hv := getD_lt l (i / 8) hb
    have Hb : Hid (bt l i = (l.getD (i / 8) 0).testBit (7 - i % 8)) := Hid.mk rfl
    obtain ⟨v, hvv⟩ : ∃ v, v = l.getD (i / 8) 0 := ⟨_, rfl⟩
    rw [← hvv] at hc hv Hb
    obtain ⟨q, hq⟩ : ∃ q, q = i / 8 := ⟨_, rfl⟩
    rw [← hq] at hc hd h
    have hr8 : i % 8 < 8 := Nat.mod_lt _ (by decide)
    obtain ⟨r, hrr⟩ : ∃ r, r = i % 8 := ⟨_, rfl⟩
    rw [← hrr] at hmm hr8 Hb
    clear hvv hq hrr hm hr
    go_enter Tryz.func105, Tryz.ntmps105
    go_wp2
    go_ret
    refine ⟨ret_int ?_, rfl⟩
    rw [Hb.out, ← bit_num]
    have h1 : v / 2 ^ (7 - r) ≤ v := Nat.div_le_self _ _
    have h2 : (v : Int) / 2 ^ (7 - r) = ((v / 2 ^ (7 - r) : Nat) : Int) := by simp
    rw [h2]
    omega
  · have hz : bt l i = false := by
      unfold bt
      rw [List.getD_eq_getElem?_getD, List.getElem?_eq_none (by omega)]
      simp
    have h' : ((m : Int) ≤ ((i / 8 : Nat) : Int)) := by omega
    rw [hz]
    clear hr hm hz
    go_enter Tryz.func105, Tryz.ntmps105
    go_wp2
    go_ret
    exact ⟨rfl, rfl⟩

theorem bi_xor (x y : Bool) : bits BinOp.xor IntKind.u32 (bi x) (bi y) = bi (x ^^ y) := by cases x <;> cases y <;> decide

theorem state_bit (s : BitVec 32) (j : Nat) : (nm s / 2 ^ j).tmod 2 = bi (s.getLsbD j) := by
  rw [Int.tmod_eq_emod_of_nonneg (Int.ediv_nonneg (nm_lo s) (Int.le_of_lt (Int.pow_pos (by decide)))), nm_bit]
  unfold bi
  have := Int.emod_two_eq (nm s / 2 ^ j)
  by_cases h : nm s / 2 ^ j % 2 = 1
  · simp [h]
  · simp [h]; omega

theorem coef_lo (s : BitVec 32) (l : List Nat) (k : Nat) (h : k < 32) : (bt l k ^^ s.getLsbD (31 - k)) = coef s l k := by simp [coef, h]
theorem coef_hi (s : BitVec 32) (l : List Nat) (k : Nat) (h : ¬ k < 32) : bt l k = coef s l k := by simp [coef, h]

theorem hor_next (c : Nat → Bool) (k : Nat) : tx (hor c k) ^^^ bv (c k) = hor c (k + 1) := rfl

set_option maxHeartbeats 1000000 in
set_option maxRecDepth 1000000 in
theorem divided_any (ao : Option Addr) (cap m : Nat) (l : List Nat) (s : BitVec 32) (w : World) (hr : Reads w ao l) (hb : Byts l) (hm : l.length = m) (hl : m ≤ 1000000000000000000) :
    Calls Tryz.prog 88 #[.int .u32 (nm s), .slice ao m cap] w fun e w' => e = .returned (.int .u32 (nm (adv s l))) ∧ w' = w := by
  have s0 := nm_lo s
  have s1 := nm_hi s
  go_enter Tryz.func88, Tryz.ntmps88
  go_wp2
  go_loop [5, 6] (fun p i => ∃ k : Nat, k ≤ 8 * m + 32 ∧ i = .int .i64 (k : Int) ∧ p = .int .u32 (nm (hor (coef s l) k))) (fun _ i => 8 * m + 32 - (intOf i).toNat)
  case atStart => exact ⟨0, by omega, rfl, rfl⟩
  case round =>
    obtain ⟨k, hk, rfl, rfl⟩ := hrel
    have Hr := Hid.mk hr
    have Hm := Hid.mk hm
    clear hr hm
    by_cases hlt : k < 8 * m + 32
    · have Hn := Hid.mk (hor_next (coef s l) k)
      obtain ⟨p, hp⟩ : ∃ p, p = hor (coef s l) k := ⟨_, rfl⟩
      rw [← hp] at Hn ⊢
      clear hp
      have ht := state_bit s (31 - k)
      by_cases h32 : k < 32
      · have hx := bi_xor (bt l k) (s.getLsbD (31 - k))
        rw [coef_lo s l k h32] at hx
        obtain ⟨x, hxx⟩ : ∃ x, x = s.getLsbD (31 - k) := ⟨_, rfl⟩
        rw [← hxx] at ht hx
        obtain ⟨y, hyy⟩ : ∃ y, y = coef s l k := ⟨_, rfl⟩
        rw [← hyy] at hx Hn
        clear hxx hyy s0 s1
        go_wp2_with (first
          | (go_at_call 105; refine (bit_any _ _ _ l k _ Hr.out hb Hm.out (by omega) (by omega)).mono ?_; rintro e w' ⟨rfl, rfl⟩)
          | (go_at_call 106; refine (step_any p y _).mono ?_; rintro e w' ⟨rfl, rfl⟩))
        go_round
        case rel => exact ⟨k + 1, by omega, by go_num, by rw [Hn.out]⟩
        case measure => simp [intOf]; omega
      · rw [← coef_hi s l k h32] at Hn
        clear ht s0 s1
        go_wp2_with (first
          | (go_at_call 105; refine (bit_any _ _ _ l k _ Hr.out hb Hm.out (by omega) (by omega)).mono ?_; rintro e w' ⟨rfl, rfl⟩)
          | (go_at_call 106; refine (step_any p (bt l k) _).mono ?_; rintro e w' ⟨rfl, rfl⟩))
        go_round
        case rel => exact ⟨k + 1, by omega, by go_num, by rw [Hn.out]⟩
        case measure => simp [intOf]; omega
    · obtain rfl : k = 8 * m + 32 := by omega
      have HA := Hid.mk (adv_coef s l hb)
      rw [Hm.out] at HA
      obtain ⟨p, hp⟩ : ∃ p, p = hor (coef s l) (8 * m + 32) := ⟨_, rfl⟩
      rw [← hp] at HA ⊢
      clear hp
      go_wp2
      go_ret
      exact ⟨ret_int (by rw [HA.out]), rfl⟩

set_option maxHeartbeats 1000000 in
set_option maxRecDepth 1000000 in
theorem moreD_any (ao : Option Addr) (cap m : Nat) (l : List Nat) (s : BitVec 32) (w : World) (hr : Reads w ao l) (hb : Byts l) (hm : l.length = m) (hl : m ≤ 1000000000000000000) :
    Calls Tryz.prog 64 #[.int .u32 (nm s), .slice ao m cap] w fun e w' => e = .returned (.int .u32 (nm (mr s l))) ∧ w' = w := by
  have h1 := nm_not s
  have h2 := nm_not (adv (~~~ s) l)
  go_enter Tryz.func64, Tryz.ntmps64
  go_wp2_with (go_at_call 88; refine (divided_any _ _ _ l _ _ hr hb hm hl).mono ?_; rintro e w' ⟨rfl, rfl⟩)
  go_ret
  refine ⟨ret_int ?_, rfl⟩
  first
  | exact h2
  | rfl

set_option maxHeartbeats 1000000 in
set_option maxRecDepth 1000000 in
theorem sumD_any (ao : Option Addr) (cap m : Nat) (l : List Nat) (w : World) (hr : Reads w ao l) (hb : Byts l) (hm : l.length = m) (hl : m ≤ 1000000000000000000) :
    Calls Tryz.prog 36 #[.slice ao m cap] w fun e w' => e = .returned (.int .u32 (nm (sm l))) ∧ w' = w := by
  go_enter Tryz.func36, Tryz.ntmps36
  go_wp2_with (go_at_call 64; refine (moreD_any _ _ _ l 0#32 _ hr hb hm hl).mono ?_; rintro e w' ⟨rfl, rfl⟩)
  go_ret
  exact ⟨rfl, rfl⟩

end Go.Proofs.YthhegomjipbdbaaGreatDoor.Cr
