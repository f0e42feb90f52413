import Derived.Test.YtpfpmnlklhjggaaB1
import Derived.Deep.RegionLaw
namespace Go.Proofs.Ytpfpmnlklhjggaa
open Go.RowKit

/-- Which of n things a raw number speaks of. -/
def pick (c : Int) (n : Int) : Int := if c < 0 then (-(c + 1)) % n else c % n
theorem pick_lo (c n : Int) (h : 0 < n) : 0 ≤ pick c n := by
  unfold pick; split <;> exact Int.emod_nonneg _ (by omega)
theorem pick_hi (c n : Int) (h : 0 < n) : pick c n < n := by
  unfold pick; split <;> exact Int.emod_lt_of_pos _ h

set_option maxHeartbeats 400000 in
theorem pick_any (c n : Int) (w : World) (c0 : -9223372036854775808 ≤ c) (c1 : c ≤ 9223372036854775807) (h : 0 < n) :
    Calls Try.prog 18 #[.int .i64 c, .int .i64 n] w fun e w' => e = .returned (.int .i64 (pick c n)) ∧ w' = w := by
  by_cases hc : c < 0
  · go_enter Try.func18, Try.ntmps18
    go_wp2
    go_ret
    exact ⟨ret_int (by unfold pick; rw [if_pos hc, ← Int.neg_tmod, Int.tmod_eq_emod_of_nonneg (by omega)]), rfl⟩
  · go_enter Try.func18, Try.ntmps18
    go_wp2
    go_ret
    exact ⟨ret_int (by unfold pick; rw [if_neg (by omega)]), rfl⟩

theorem pick_nat (c : Int) (n : Nat) (h : 0 < n) : ∃ F : Nat, pick c n = (F : Int) ∧ F < n := by
  have h0 := pick_lo c n (by omega)
  have h1 := pick_hi c n (by omega)
  exact ⟨(pick c n).toNat, by omega, by omega⟩

theorem owns_block {w : World} {g n cap : Nat} {xs : List Value} (h : w.ownsRow 0 5 1 (.slice (some ⟨g, 0, none⟩) n cap) n xs) : ∃ rest : List Value, w.heap[g]? = some (.cells (xs ++ rest).toArray 5 (0, 0)) := by
  rcases h.2 with ⟨h1, _⟩ | ⟨g', cap', cur, h1, _, hg, _, _, hs, ht⟩
  · simp at h1
  · simp at h1
    obtain ⟨rfl, rfl⟩ := h1
    refine ⟨cur.toList.drop (n * 1), ?_⟩
    rw [← ht, List.take_append_drop, hg, Array.toArray_toList]

theorem reads_block {w : World} {g : Nat} {l : List Nat} {rest : List Value} (h : w.heap[g]? = some (.cells (l.map byt ++ rest).toArray 5 (0, 0))) : Reads w (some ⟨g, 0, none⟩) l := by
  refine .inr ⟨g, 0, rfl, fun i hi => ?_⟩
  rw [cell_of_row _ _ _ _ _ _ h]
  simp [hi, List.getElem?_append_left]

theorem ev_hi (r : BitVec 32) (F n j : Nat) (h1 : r.getLsbD (31 - j) = true) (h2 : F + j < n) : ev r F n j = true := by simp [ev, h1, h2]
theorem ev_lo1 (r : BitVec 32) (F n j : Nat) (h1 : r.getLsbD (31 - j) = false) : ev r F n j = false := by simp [ev, h1]
theorem ev_lo2 (r : BitVec 32) (F n j : Nat) (h2 : ¬ F + j < n) : ev r F n j = false := by simp [ev, h2]

theorem fl_no (r : BitVec 32) (F n : Nat) (l : List Nat) (j : Nat) (h : ev r F n j = false) : fl r F n l (j + 1) = fl r F n l j ∧ tn r F n (j + 1) = tn r F n j := by
  constructor
  · rw [fl, h]; rfl
  · rw [tn, h, Bool.or_false]
theorem fl_yes (r : BitVec 32) (F n : Nat) (l : List Nat) (j : Nat) (h : ev r F n j = true) : fl r F n l (j + 1) = (fl r F n l j).set ((F + j) / 8) ((fl r F n l j).getD ((F + j) / 8) 0 ^^^ 2 ^ (7 - (F + j) % 8)) ∧ tn r F n (j + 1) = true := by
  constructor
  · rw [fl, h]; rfl
  · rw [tn, h, Bool.or_true]

theorem wrap_pow7 (q : Nat) : (2 : Int) ^ (7 - q) % 256 = ((2 ^ (7 - q) : Nat) : Int) := by
  have h := pow7_lt q
  have e : ((2 : Int) ^ (7 - q)) = ((2 ^ (7 - q) : Nat) : Int) := by simp
  rw [e]
  generalize 2 ^ (7 - q) = z at *
  omega

theorem row_set (L : List Nat) (rest : List Value) (p v : Nat) (h : p < L.length) : ((L.map byt ++ rest).set p (.int .u8 (v : Int))) = (L.set p v).map byt ++ rest := by
  rw [List.set_append_left _ _ (by simpa using h), List.map_set]
  rfl

set_option maxHeartbeats 4000000 in
set_option maxRecDepth 1000000 in
theorem bursts_any (ao : Option Addr) (cap m : Nat) (l : List Nat) (at_ : Int) (r : BitVec 32) (w : World) (hr : Reads w ao l) (hb : Byts l) (hm : l.length = m) (hz : ao = none → cap = 0) (hl : m ≤ 140737488351232)
    (c0 : -9223372036854775808 ≤ at_) (c1 : at_ ≤ 9223372036854775807) :
    Calls Try.prog 6 #[.slice ao m cap, .int .i64 at_, .int .u32 (nm r)] w fun e w' => e = .returned (.bool true) ∧ Kept [] w w' := by
  obtain ⟨i0, hi, hz0, hz1, hz2⟩ := info_parts Try.info5
  by_cases h0 : m = 0
  · subst h0
    go_enter Try.func6, Try.ntmps6
    go_wp2_with (go_at_call 9; refine (shown_any _).mono ?_; rintro e w1 ⟨rfl, hk1⟩)
    go_ret
    exact ⟨rfl, hk1⟩
  · have hm0 : 0 < m := by omega
    have hne : ((m : Int) == 0) = false := by simp; omega
    obtain ⟨F, hF, hF2⟩ := pick_nat at_ (8 * m) (by omega)
    rw [show ((8 * m : Nat) : Int) = 8 * (m : Int) by omega] at hF
    go_enter Try.func6, Try.ntmps6
    go_wp2_with (first
      | (go_at_call 9; refine (shown_any _).mono ?_; rintro e w1 ⟨rfl, hk1⟩)
      | (go_at_call 18; refine (pick_any _ _ _ c0 c1 (by omega)).mono ?_; rintro e w2 ⟨rfl, rfl⟩)
      | (at_builtin; refine wpList_app _ rfl _ _ rfl _ 0 [] rfl (World.ownsRow_lit _ #[] 0 (Nat.zero_le _) (by unfold maxLen; omega) (by simp)) ao m cap l rfl (hr.keep ?hk) hm hz (by omega) ?_))
    case hk => exact hk1.alloc _
    intro v3 w3 ho3 hk3 hl3
    have ho4 : w3.ownsRow 0 5 1 v3 m (l.map byt) := by simpa using ho3
    clear ho3
    have hk4 : Kept [] w w3 := (hk1.alloc (.cells #[] 5)).step hk3 (fun x hx => .inr (by simp [Value.ownBlock] at hx; have := hk1.size; omega))
    obtain ⟨g, cg, rfl⟩ : ∃ g cg, v3 = .slice (some ⟨g, 0, none⟩) m cg := by
      rcases ho4.2 with ⟨_, h⟩ | ⟨g, cap', cur, h, _⟩
      · omega
      · exact ⟨g, cap', h⟩
    have hg : w.heap.size ≤ g := by
      rcases hl3 with h | ⟨g', h, hs⟩
      · simp [Value.ownBlock] at h; have := hk1.size; omega
      · simp [Value.ownBlock] at h; have := hk1.size; simp at hs; omega
    obtain ⟨rest, hrest⟩ := owns_block ho4
    have Hrest := Hid.mk hrest
    have Hk4 := Hid.mk hk4
    have Hr := Hid.mk hr
    have Hm := Hid.mk hm
    have HS := Hid.mk (burst_sum r F (8 * m) l hb (by omega) hF2)
    clear hrest hk4 hk3 hl3 ho4 hk1 hr hm hi hz0 hz1 hz2
    clear hF
    go_wp2
    go_loopw [10, 11] (fun t i wr => ∃ j : Nat, j ≤ 32 ∧ i = .int .i64 (j : Int) ∧ t = .bool (tn r F (8 * m) j) ∧ wr.heap[g]? = some (.cells ((fl r F (8 * m) l j).map byt ++ rest).toArray 5 (0, 0)) ∧ Kept [] w wr) (fun _ i _ => 32 - (intOf i).toNat)
    case atStart => exact ⟨0, by omega, rfl, rfl, Hrest.out, Hk4.out⟩
    case round =>
      obtain ⟨j, hj, rfl, rfl, hrow, hkr⟩ := hrel
      by_cases hlt : j < 32
      · have ht := state_bit r (31 - j)
        have hfl := fl_length r F (8 * m) l j
        rw [Hm.out] at hfl
        have hfb := fl_byts r F (8 * m) l j hb
        cases hbit : r.getLsbD (31 - j)
        · have He := Hid.mk (fl_no r F (8 * m) l j (ev_lo1 r F (8 * m) j hbit))
          rw [hbit] at ht
          simp only [bi, Bool.false_eq_true, if_false] at ht
          obtain ⟨T, hT⟩ : ∃ T, T = tn r F (8 * m) j := ⟨_, rfl⟩
          rw [← hT] at He ⊢
          have Hrow := Hid.mk hrow
          have Hkr := Hid.mk hkr
          clear hT hrow hkr hbit hfl hfb HS
          go_wp2
          go_roundw
          case rel => exact ⟨j + 1, by omega, by go_num, by rw [He.out.2], by rw [He.out.1]; exact Hrow.out, Hkr.out⟩
          case measure => simp [intOf]; omega
        · rw [hbit] at ht
          simp only [bi, if_true] at ht
          by_cases hin : F + j < 8 * m
          · have He := Hid.mk (fl_yes r F (8 * m) l j (ev_hi r F (8 * m) j hbit hin))
            obtain ⟨T, hT⟩ : ∃ T, T = tn r F (8 * m) j := ⟨_, rfl⟩
            obtain ⟨L, hL⟩ : ∃ L, L = fl r F (8 * m) l j := ⟨_, rfl⟩
            rw [← hT]
            rw [← hL] at He hrow hfl hfb
            have hp : (F + j) / 8 < L.length := by omega
            have hcell : wr.cell? ⟨g, (F + j) / 8, none⟩ = some (.int .u8 ((L.getD ((F + j) / 8) 0 : Nat) : Int)) := by
              rw [cell_of_row _ _ _ _ _ _ hrow]
              simp [hp, List.getElem?_append_left, byt]
            have hfz : wr.frozen? ⟨g, (F + j) / 8, none⟩ = false := by simp [World.frozen?, hrow]
            have hv := getD_lt L ((F + j) / 8) hfb
            have Hset := Hid.mk (row_set L rest ((F + j) / 8) (L.getD ((F + j) / 8) 0 ^^^ 2 ^ (7 - (F + j) % 8)) hp)
            have hx := u8_xor_nat (L.getD ((F + j) / 8) 0) (2 ^ (7 - (F + j) % 8)) hv (pow7_lt _)
            obtain ⟨x, hxx⟩ : ∃ x, x = L.getD ((F + j) / 8) 0 := ⟨_, rfl⟩
            rw [← hxx] at hcell hv Hset hx He
            have Hrow := Hid.mk hrow
            have Hkr := Hid.mk hkr
            have Hx := Hid.mk hx
            have hd : ((F : Int) + (j : Int)).tdiv 8 = (((F + j) / 8 : Nat) : Int) := by rw [Int.tdiv_eq_ediv_of_nonneg (by omega)]; omega
            have hmd : ((F : Int) + (j : Int)).tmod 8 = (((F + j) % 8 : Nat) : Int) := by rw [Int.tmod_eq_emod_of_nonneg (by omega)]; omega
            have hq : (F + j) % 8 < 8 := Nat.mod_lt _ (by decide)
            have hpm : (F + j) / 8 < m := by omega
            have Hpow := Hid.mk (pow7_lt ((F + j) % 8))
            clear hT hL hxx hrow hkr hbit HS hx
            obtain ⟨p, hpp⟩ : ∃ p, p = (F + j) / 8 := ⟨_, rfl⟩
            obtain ⟨q, hqq⟩ : ∃ q, q = (F + j) % 8 := ⟨_, rfl⟩
            rw [← hpp] at hcell hfz hp hd hpm Hset He
            rw [← hqq] at hmd hq Hset He Hx Hpow
            clear hpp hqq hp
            have hin2 : (F : Int) + (j : Int) < 8 * (m : Int) := by omega
            have hFj : (0 : Int) ≤ (F : Int) + (j : Int) := by omega
            have hpi : ((p : Nat) : Int) < (m : Int) := by omega
            have hpi0 : (0 : Int) ≤ ((p : Nat) : Int) := by omega
            have hq7 : (0 : Int) ≤ 7 - (q : Int) := by omega
            have hwp : IntKind.i64.wrap ((p : Nat) : Int) = ((p : Nat) : Int) := by simp only [IntKind.wrap, IntKind.bits, IntKind.signed]; simp; omega
            have hwq : IntKind.i64.wrap ((q : Nat) : Int) = ((q : Nat) : Int) := by simp only [IntKind.wrap, IntKind.bits, IntKind.signed]; simp; omega
            have hwq7 : IntKind.i64.wrap (7 - (q : Int)) = 7 - (q : Int) := by simp only [IntKind.wrap, IntKind.bits, IntKind.signed]; simp; omega
            go_wp2
            go_region_law (fail)
            go_wp2
            go_roundw
            case rel =>
              refine ⟨j + 1, by omega, by go_num, by rw [He.out.2], ?_, (Hkr.out.setCell (p := ⟨g, p, none⟩) (.inr hg) _).drew⟩
              show (World.setCell _ _ _).heap[g]? = _
              rw [heap_setCell_at Hrow.out, List.setIfInBounds_toArray, wrap_pow7, Hx.out, Hset.out, He.out.1]
            case measure => simp [intOf]; omega
          · have He := Hid.mk (fl_no r F (8 * m) l j (ev_lo2 r F (8 * m) j hin))
            obtain ⟨T, hT⟩ : ∃ T, T = tn r F (8 * m) j := ⟨_, rfl⟩
            rw [← hT] at He ⊢
            have Hrow := Hid.mk hrow
            have Hkr := Hid.mk hkr
            clear hT hrow hkr hbit hfl hfb HS
            go_wp2
            go_roundw
            case rel => exact ⟨j + 1, by omega, by go_num, by rw [He.out.2], by rw [He.out.1]; exact Hrow.out, Hkr.out⟩
            case measure => simp [intOf]; omega
      · obtain rfl : j = 32 := by omega
        have hr1 := Hr.out.keep hkr
        have hr2 := reads_block hrow
        have hfl := fl_length r F (8 * m) l 32
        have hm := Hm.out
        rw [hm] at hfl
        have hfb := fl_byts r F (8 * m) l 32 hb
        obtain ⟨L, hL⟩ : ∃ L, L = fl r F (8 * m) l 32 := ⟨_, rfl⟩
        obtain ⟨T, hT⟩ : ∃ T, T = tn r F (8 * m) 32 := ⟨_, rfl⟩
        rw [← hT, ← hL] at HS
        rw [← hT]
        rw [← hL] at hr2 hfl hfb
        have Hkr := Hid.mk hkr
        clear hL hT hrow hkr Hrest Hk4 Hr
        cases T
        · have heq : nm (sm l) = nm (sm L) := HS.out.2 rfl
          clear HS
          go_wp2_with (go_at_call 15; refine (sum_any _ _ _ ?_ _ ?_ ?_ ?_ ?_).mono ?_; rotate_left; assumption; assumption; assumption; omega; rintro e w5 ⟨rfl, hk5⟩; replace hr1 := hr1.keep hk5; replace hr2 := hr2.keep hk5; replace Hkr := Hid.mk (Hkr.out.trans hk5); clear hk5)
          go_ret
          refine ⟨?_, Hkr.out⟩
          first
          | rfl
          | simp [heq]
        · have hne2 : ¬ nm (sm l) = nm (sm L) := fun h => by have := HS.out.1 h; cases this
          clear HS
          go_wp2_with (go_at_call 15; refine (sum_any _ _ _ ?_ _ ?_ ?_ ?_ ?_).mono ?_; rotate_left; assumption; assumption; assumption; omega; rintro e w5 ⟨rfl, hk5⟩; replace hr1 := hr1.keep hk5; replace hr2 := hr2.keep hk5; replace Hkr := Hid.mk (Hkr.out.trans hk5); clear hk5)
          go_ret
          refine ⟨?_, Hkr.out⟩
          first
          | rfl
          | simp [hne2]
end Go.Proofs.Ytpfpmnlklhjggaa
