import Derived.Test.YtpfpmnlklhjggaaC6
namespace Go.Proofs.Ytpfpmnlklhjggaa
open Go.RowKit

theorem bit_num (x j : Nat) : ((x / 2 ^ j % 2 : Nat) : Int) = bi (x.testBit j) := by
  rw [Nat.testBit_eq_decide_div_mod_eq]
  unfold bi
  rcases Nat.mod_two_eq_zero_or_one (x / 2 ^ j) with h | h <;> simp [h]

set_option maxHeartbeats 1000000 in
set_option maxRecDepth 1000000 in
theorem bit_any (ao : Option Addr) (cap m : Nat) (l : List Nat) (i : Nat) (w : World) (hr : Reads w ao l) (hb : Byts l) (hm : l.length = m) (hl : m ≤ 1152921504606846976) (hi : i ≤ 9223372036854775807) :
    Calls Try.prog 33 #[.slice ao m cap, .int .i64 (i : Int)] w fun e w' => e = .returned (.int .u32 (bi (bt l i))) ∧ w' = w := by
  have hd : (i : Int).tdiv 8 = ((i / 8 : Nat) : Int) := by rw [Int.tdiv_eq_ediv_of_nonneg (by omega)]; omega
  have hmm : (i : Int).tmod 8 = ((i % 8 : Nat) : Int) := by rw [Int.tmod_eq_emod_of_nonneg (by omega)]; omega
  by_cases h : i / 8 < m
  · obtain ⟨g, off, rfl, hc⟩ : ∃ g off, ao = some ⟨g, off, none⟩ ∧ w.cell? ⟨g, off + i / 8, none⟩ = some (.int .u8 (l.getD (i / 8) 0 : Nat)) := by
      rcases hr with h' | ⟨g, off, h', hc⟩
      · subst h'; simp at hm; omega
      · exact ⟨g, off, h', hc (i / 8) (by omega)⟩
    have hv := getD_lt l (i / 8) hb
    have Hb : Hid (bt l i = (l.getD (i / 8) 0).testBit (7 - i % 8)) := Hid.mk rfl
    obtain ⟨v, hvv⟩ : ∃ v, v = l.getD (i / 8) 0 := ⟨_, rfl⟩
    rw [← hvv] at hc hv Hb
    obtain ⟨q, hq⟩ : ∃ q, q = i / 8 := ⟨_, rfl⟩
    rw [← hq] at hc hd h
    have hr8 : i % 8 < 8 := Nat.mod_lt _ (by decide)
    obtain ⟨r, hrr⟩ : ∃ r, r = i % 8 := ⟨_, rfl⟩
    rw [← hrr] at hmm hr8 Hb
    clear hvv hq hrr hm hr
    go_enter Try.func33, Try.ntmps33
    go_wp2
    go_ret
    refine ⟨ret_int ?_, rfl⟩
    rw [Hb.out, ← bit_num]
    have h1 : v / 2 ^ (7 - r) ≤ v := Nat.div_le_self _ _
    have h2 : (v : Int) / 2 ^ (7 - r) = ((v / 2 ^ (7 - r) : Nat) : Int) := by simp
    rw [h2]
    omega
  · have hz : bt l i = false := by
      unfold bt
      rw [List.getD_eq_getElem?_getD, List.getElem?_eq_none (by omega)]
      simp
    have h' : ((m : Int) ≤ ((i / 8 : Nat) : Int)) := by omega
    rw [hz]
    clear hr hm hz
    go_enter Try.func33, Try.ntmps33
    go_wp2
    go_ret
    exact ⟨rfl, rfl⟩

theorem bi_xor (x y : Bool) : bits BinOp.xor IntKind.u32 (bi x) (bi y) = bi (x ^^ y) := by cases x <;> cases y <;> decide

theorem state_bit (s : BitVec 32) (j : Nat) : (nm s / 2 ^ j).tmod 2 = bi (s.getLsbD j) := by
  rw [Int.tmod_eq_emod_of_nonneg (Int.ediv_nonneg (nm_lo s) (Int.le_of_lt (Int.pow_pos (by decide)))), nm_bit]
  unfold bi
  have := Int.emod_two_eq (nm s / 2 ^ j)
  by_cases h : nm s / 2 ^ j % 2 = 1
  · simp [h]
  · simp [h]; omega

theorem coef_lo (s : BitVec 32) (l : List Nat) (k : Nat) (h : k < 32) : (bt l k ^^ s.getLsbD (31 - k)) = coef s l k := by simp [coef, h]
theorem coef_hi (s : BitVec 32) (l : List Nat) (k : Nat) (h : ¬ k < 32) : bt l k = coef s l k := by simp [coef, h]

theorem hor_next (c : Nat → Bool) (k : Nat) : tx (hor c k) ^^^ bv (c k) = hor c (k + 1) := rfl

set_option maxHeartbeats 1000000 in
set_option maxRecDepth 1000000 in
theorem divided_any (ao : Option Addr) (cap m : Nat) (l : List Nat) (s : BitVec 32) (w : World) (hr : Reads w ao l) (hb : Byts l) (hm : l.length = m) (hl : m ≤ 1000000000000000000) :
    Calls Try.prog 31 #[.int .u32 (nm s), .slice ao m cap] w fun e w' => e = .returned (.int .u32 (nm (adv s l))) ∧ w' = w := by
  have s0 := nm_lo s
  have s1 := nm_hi s
  go_enter Try.func31, Try.ntmps31
  go_wp2
  go_loop [5, 6] (fun p i => ∃ k : Nat, k ≤ 8 * m + 32 ∧ i = .int .i64 (k : Int) ∧ p = .int .u32 (nm (hor (coef s l) k))) (fun _ i => 8 * m + 32 - (intOf i).toNat)
  case atStart => exact ⟨0, by omega, rfl, rfl⟩
  case round =>
    obtain ⟨k, hk, rfl, rfl⟩ := hrel
    have Hr := Hid.mk hr
    have Hm := Hid.mk hm
    clear hr hm
    by_cases hlt : k < 8 * m + 32
    · have Hn := Hid.mk (hor_next (coef s l) k)
      obtain ⟨p, hp⟩ : ∃ p, p = hor (coef s l) k := ⟨_, rfl⟩
      rw [← hp] at Hn ⊢
      clear hp
      have ht := state_bit s (31 - k)
      by_cases h32 : k < 32
      · have hx := bi_xor (bt l k) (s.getLsbD (31 - k))
        rw [coef_lo s l k h32] at hx
        obtain ⟨x, hxx⟩ : ∃ x, x = s.getLsbD (31 - k) := ⟨_, rfl⟩
        rw [← hxx] at ht hx
        obtain ⟨y, hyy⟩ : ∃ y, y = coef s l k := ⟨_, rfl⟩
        rw [← hyy] at hx Hn
        clear hxx hyy s0 s1
        go_wp2_with (first
          | (go_at_call 33; refine (bit_any _ _ _ l k _ Hr.out hb Hm.out (by omega) (by omega)).mono ?_; rintro e w' ⟨rfl, rfl⟩)
          | (go_at_call 32; refine (step_any p y _).mono ?_; rintro e w' ⟨rfl, rfl⟩))
        go_round
        case rel => exact ⟨k + 1, by omega, by go_num, by rw [Hn.out]⟩
        case measure => simp [intOf]; omega
      · rw [← coef_hi s l k h32] at Hn
        clear ht s0 s1
        go_wp2_with (first
          | (go_at_call 33; refine (bit_any _ _ _ l k _ Hr.out hb Hm.out (by omega) (by omega)).mono ?_; rintro e w' ⟨rfl, rfl⟩)
          | (go_at_call 32; refine (step_any p (bt l k) _).mono ?_; rintro e w' ⟨rfl, rfl⟩))
        go_round
        case rel => exact ⟨k + 1, by omega, by go_num, by rw [Hn.out]⟩
        case measure => simp [intOf]; omega
    · obtain rfl : k = 8 * m + 32 := by omega
      have HA := Hid.mk (adv_coef s l hb)
      rw [Hm.out] at HA
      obtain ⟨p, hp⟩ : ∃ p, p = hor (coef s l) (8 * m + 32) := ⟨_, rfl⟩
      rw [← hp] at HA ⊢
      clear hp
      go_wp2
      go_ret
      exact ⟨ret_int (by rw [HA.out]), rfl⟩

set_option maxHeartbeats 1000000 in
set_option maxRecDepth 1000000 in
theorem moreD_any (ao : Option Addr) (cap m : Nat) (l : List Nat) (s : BitVec 32) (w : World) (hr : Reads w ao l) (hb : Byts l) (hm : l.length = m) (hl : m ≤ 1000000000000000000) :
    Calls Try.prog 25 #[.int .u32 (nm s), .slice ao m cap] w fun e w' => e = .returned (.int .u32 (nm (mr s l))) ∧ w' = w := by
  have h1 := nm_not s
  have h2 := nm_not (adv (~~~ s) l)
  go_enter Try.func25, Try.ntmps25
  go_wp2_with (go_at_call 31; refine (divided_any _ _ _ l _ _ hr hb hm hl).mono ?_; rintro e w' ⟨rfl, rfl⟩)
  go_ret
  refine ⟨ret_int ?_, rfl⟩
  first
  | exact h2
  | rfl

set_option maxHeartbeats 1000000 in
set_option maxRecDepth 1000000 in
theorem sumD_any (ao : Option Addr) (cap m : Nat) (l : List Nat) (w : World) (hr : Reads w ao l) (hb : Byts l) (hm : l.length = m) (hl : m ≤ 1000000000000000000) :
    Calls Try.prog 24 #[.slice ao m cap] w fun e w' => e = .returned (.int .u32 (nm (sm l))) ∧ w' = w := by
  go_enter Try.func24, Try.ntmps24
  go_wp2_with (go_at_call 25; refine (moreD_any _ _ _ l 0#32 _ hr hb hm hl).mono ?_; rintro e w' ⟨rfl, rfl⟩)
  go_ret
  exact ⟨rfl, rfl⟩

set_option maxHeartbeats 1000000 in
set_option maxRecDepth 1000000 in
theorem remD_any (ao : Option Addr) (cap m : Nat) (l : List Nat) (w : World) (hr : Reads w ao l) (hb : Byts l) (hm : l.length = m) (hl : m ≤ 1000000000000000000) :
    Calls Try.prog 23 #[.slice ao m cap] w fun e w' => e = .returned (.int .u32 (nm (rm l))) ∧ w' = w := by
  go_enter Try.func23, Try.ntmps23
  go_wp2_with (go_at_call 31; refine (divided_any _ _ _ l 0#32 _ hr hb hm hl).mono ?_; rintro e w' ⟨rfl, rfl⟩)
  go_ret
  exact ⟨rfl, rfl⟩
end Go.Proofs.Ytpfpmnlklhjggaa
