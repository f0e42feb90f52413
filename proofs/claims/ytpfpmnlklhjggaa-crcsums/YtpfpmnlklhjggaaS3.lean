import Derived.Test.YtpfpmnlklhjggaaS2
namespace Go.Proofs.Ytpfpmnlklhjggaa
open Go.RowKit

/-- What the owner has written over his list, as far as i. -/
def mx (l : List Nat) (m i : Nat) : List Nat := (List.range m).map fun j => if j < i then l.getD j 0 ^^^ ((7 * j + 1) % 256) else l.getD j 0

theorem mx_length (l : List Nat) (m i : Nat) : (mx l m i).length = m := by simp [mx]
theorem mx_at (l : List Nat) (m i j : Nat) (hj : j < m) : (mx l m i)[j]? = some (if j < i then l.getD j 0 ^^^ ((7 * j + 1) % 256) else l.getD j 0) := by simp [mx, hj]
theorem mx_zero (l : List Nat) (m : Nat) (hm : l.length = m) : mx l m 0 = l := by
  apply List.ext_getElem?
  intro j
  by_cases h : j < m
  · rw [mx_at _ _ _ _ h, if_neg (by omega)]; simp [hm, h]
  · rw [List.getElem?_eq_none (by rw [mx_length]; omega), List.getElem?_eq_none (by omega)]
theorem mx_set (l : List Nat) (m i : Nat) (hi : i < m) (R : List Nat) : ((mx l m i ++ R).map byt).set i (byt (l.getD i 0 ^^^ ((7 * i + 1) % 256))) = (mx l m (i + 1) ++ R).map byt := by
  rw [← List.map_set, List.set_append_left _ _ (by rw [mx_length]; exact hi)]
  congr 2
  apply List.ext_getElem?
  intro j
  by_cases h : j < m
  · rw [List.getElem?_set, mx_at _ _ _ _ h, mx_at _ _ _ _ h]
    by_cases e : i = j
    · subst e; simp [mx_length, hi]
    · rw [if_neg e]
      have : (j < i) = (j < i + 1) := by apply propext; omega
      simp [this]
  · rw [List.getElem?_eq_none (by simp [mx_length]; omega), List.getElem?_eq_none (by simp [mx_length]; omega)]
theorem mx_byts (l : List Nat) (m i : Nat) (hb : Byts l) : Byts (mx l m i) := by
  intro b h
  simp only [mx, List.mem_map] at h
  obtain ⟨j, _, rfl⟩ := h
  split
  · exact Nat.xor_lt_two_pow (n := 8) (getD_lt l j hb) (Nat.mod_lt _ (by decide))
  · exact getD_lt l j hb
theorem mx_row (l : List Nat) (m i : Nat) (hi : i < m) (R : List Nat) : (mx l m i ++ R).getD i 0 = l.getD i 0 := by
  rw [List.getD_eq_getElem?_getD, List.getElem?_append_left (by rw [mx_length]; exact hi), mx_at _ _ _ _ hi, if_neg (by omega)]
  rfl

theorem heap_front {w : World} {N : Nat} {l R : List Nat} (h : w.heap[N]? = some (.cells ((l ++ R).map byt).toArray 5 (0, 0))) : Reads w (some ⟨N, 0, none⟩) l := by
  rw [List.map_append] at h
  refine .inr ⟨N, 0, rfl, fun i hi => ?_⟩
  rw [cell_of_row _ _ _ _ _ _ h]
  simp [hi, List.getElem?_append_left]

set_option maxHeartbeats 8000000 in
set_option maxRecDepth 1000000 in
theorem exact_any (ao : Option Addr) (cap m : Nat) (l : List Nat) (s : BitVec 32) (w : World) (hr : Reads w ao l) (hb : Byts l) (hm : l.length = m) (hl : m ≤ 140737488351232) :
    Calls Try.prog 10 #[.slice ao m cap, .int .u32 (nm s)] w fun e w' => e = .returned (.bool true) ∧ Kept [] w w' := by
  go_enter Try.func10, Try.ntmps10
  go_wp2_with (go_at_call 21; refine (lent_any _ _ _ l _ hr hm hl).mono ?_; rintro e w1 ⟨rfl, hN, hk1⟩)
  have hm9 : (m : Int) ≤ (m : Int) + 9 := by omega
  obtain ⟨N, hNN⟩ : ∃ N, N = w.heap.size := ⟨_, rfl⟩
  rw [← hNN] at hN ⊢
  have hNw : w.heap.size ≤ N := by omega
  clear hNN
  have Hr := Hid.mk hr
  have HN := Hid.mk hN
  have Hk1 := Hid.mk hk1
  clear hr hN hk1
  go_wp2
  go_loopw [7] (fun i wr => ∃ t : Nat, t ≤ 2 ∧ i = .int .i64 (t : Int) ∧ wr.heap[N]? = some (.cells ((l ++ List.replicate 9 201).map byt).toArray 5 (0, 0)) ∧ Kept [] w wr) (fun i _ => 2 - (intOf i).toNat)
  case atStart => exact ⟨0, by omega, rfl, HN.out, Hk1.out⟩
  case round =>
    obtain ⟨t, ht, rfl, hN, hkr⟩ := hrel
    by_cases hlt : t < 2
    · have hr := Hr.out.keep hkr
      have hi := heap_front hN
      have Hkr := Hid.mk hkr
      clear hkr
      go_wp2_with (first
        | (go_at_call 19; refine (rem_any _ _ _ ?_ _ ?_ ?_ ?_ ?_).mono ?_; rotate_left; assumption; assumption; assumption; omega; rintro e w5 ⟨rfl, hk5⟩; replace hr := hr.keep hk5; replace hi := hi.keep hk5; replace hN := hk5.heap hN (by simp); replace Hkr := Hid.mk (Hkr.out.trans hk5); clear hk5)
        | (go_at_call 15; refine (sum_any _ _ _ ?_ _ ?_ ?_ ?_ ?_).mono ?_; rotate_left; assumption; assumption; assumption; omega; rintro e w5 ⟨rfl, hk5⟩; replace hr := hr.keep hk5; replace hi := hi.keep hk5; replace hN := hk5.heap hN (by simp); replace Hkr := Hid.mk (Hkr.out.trans hk5); clear hk5)
        | (go_at_call 17; refine (more_any _ _ _ ?_ _ _ ?_ ?_ ?_ ?_).mono ?_; rotate_left; assumption; assumption; assumption; omega; rintro e w5 ⟨rfl, hk5⟩; replace hr := hr.keep hk5; replace hi := hi.keep hk5; replace hN := hk5.heap hN (by simp); replace Hkr := Hid.mk (Hkr.out.trans hk5); clear hk5)
        | (go_at_call 22; refine (still_any _ _ _ _ _ l _ ?_ hm hl ?_).mono ?_; assumption; assumption; rintro e w5 ⟨rfl, hk5⟩; replace hr := hr.keep hk5; replace hi := hi.keep hk5; replace hN := hk5.heap hN (by simp); replace Hkr := Hid.mk (Hkr.out.trans hk5); clear hk5)
        | (go_at_call 23; refine (remD_any _ _ _ ?_ _ ?_ ?_ ?_ ?_).mono ?_; rotate_left; assumption; assumption; assumption; omega; rintro e w5 ⟨rfl, rfl⟩)
        | (go_at_call 24; refine (sumD_any _ _ _ ?_ _ ?_ ?_ ?_ ?_).mono ?_; rotate_left; assumption; assumption; assumption; omega; rintro e w5 ⟨rfl, rfl⟩)
        | (go_at_call 25; refine (moreD_any _ _ _ ?_ _ _ ?_ ?_ ?_ ?_).mono ?_; rotate_left; assumption; assumption; assumption; omega; rintro e w5 ⟨rfl, rfl⟩))
      go_roundw
      case rel => exact ⟨t + 1, by omega, by go_num, hN, Hkr.out⟩
      case measure => simp [intOf]; omega
    · obtain rfl : t = 2 := by omega
      have hN0 : wr.heap[N]? = some (.cells ((mx l m 0 ++ List.replicate 9 201).map byt).toArray 5 (0, 0)) := by rw [mx_zero l m hm]; exact hN
      have HN0 := Hid.mk hN0
      have Hkr := Hid.mk hkr
      have Hm := Hid.mk hm
      clear hN hN0 hkr hm HN Hk1 Hr
      go_wp2
      go_loopw [12] (fun i wq => ∃ j : Nat, j ≤ m ∧ i = .int .i64 (j : Int) ∧ wq.heap[N]? = some (.cells ((mx l m j ++ List.replicate 9 201).map byt).toArray 5 (0, 0)) ∧ Kept [] w wq) (fun i _ => m - (intOf i).toNat)
      case atStart => exact ⟨0, by omega, rfl, HN0.out, Hkr.out⟩
      case round =>
        obtain ⟨j, hj, rfl, hrow, hkq⟩ := hrel
        by_cases hlt2 : j < m
        · have hcell := row_at hrow j (by rw [List.length_append, mx_length]; omega)
          rw [mx_row l m j hlt2] at hcell
          unfold byt at hcell
          have hfz : wr.frozen? ⟨N, j, none⟩ = false := by simp [World.frozen?, hrow]
          have Hset := Hid.mk (mx_set l m j hlt2 (List.replicate 9 201))
          have hv := getD_lt l j hb
          have hx := u8_xor_nat (l.getD j 0) ((7 * j + 1) % 256) hv (Nat.mod_lt _ (by decide))
          obtain ⟨v, hvv⟩ : ∃ v, v = l.getD j 0 := ⟨_, rfl⟩
          rw [← hvv] at hcell Hset hv hx
          have Hrow := Hid.mk hrow
          have Hkq := Hid.mk hkq
          have Hx := Hid.mk hx
          clear hrow hkq hvv hx
          go_wp2
          go_roundw
          case rel =>
            refine ⟨j + 1, by omega, by go_num, ?_, Hkq.out.setCell (p := ⟨N, j, none⟩) (.inr hNw) _⟩
            rw [heap_setCell_at Hrow.out, List.setIfInBounds_toArray, ← Hset.out, byt, ← Hx.out]
            simp
          case measure => simp [intOf]; omega
        · obtain rfl : j = m := by omega
          have hi := heap_front hrow
          have hbm := mx_byts l j j hb
          have hlm := mx_length l j j
          obtain ⟨L, hL⟩ : ∃ L, L = mx l j j := ⟨_, rfl⟩
          rw [← hL] at hi hbm hlm
          have HKq := Hid.mk hkq
          clear hL hrow hkq Hkr HN0 Hm
          go_wp2_with (at_builtin; refine wpList_app _ rfl _ _ rfl _ 0 [] rfl (World.ownsRow_lit _ #[] 0 (Nat.zero_le _) (by unfold maxLen; omega) (by simp)) _ j _ L rfl (hi.keep ((Kept.refl _ _).alloc _)) hlm (fun h => nomatch h) (by omega) ?_)
          intro v3 w3 ho3 hk3 hl3
          have ho4 : w3.ownsRow 0 5 1 v3 j (L.map byt) := by simpa using ho3
          clear ho3
          have hk4 : Kept [] wr w3 := ((Kept.refl [] wr).alloc (.cells #[] 5)).step hk3 (fun x hx => .inr (by simp [Value.ownBlock] at hx; omega))
          obtain ⟨co, cc, rfl, ho, _⟩ := owns_reads ho4
          replace hi := hi.keep hk4
          have Hkr := Hid.mk (HKq.out.trans hk4)
          clear hk3 hl3 ho4 hk4 HKq
          go_wp2_with (first
            | (go_at_call 19; refine (rem_any _ _ _ ?_ _ ?_ ?_ ?_ ?_).mono ?_; rotate_left; assumption; assumption; assumption; omega; rintro e w5 ⟨rfl, hk5⟩; replace hi := hi.keep hk5; replace ho := ho.keep hk5; replace Hkr := Hid.mk (Hkr.out.trans hk5); clear hk5)
            | (go_at_call 15; refine (sum_any _ _ _ ?_ _ ?_ ?_ ?_ ?_).mono ?_; rotate_left; assumption; assumption; assumption; omega; rintro e w5 ⟨rfl, hk5⟩; replace hi := hi.keep hk5; replace ho := ho.keep hk5; replace Hkr := Hid.mk (Hkr.out.trans hk5); clear hk5)
            | (go_at_call 17; refine (more_any _ _ _ ?_ _ _ ?_ ?_ ?_ ?_).mono ?_; rotate_left; assumption; assumption; assumption; omega; rintro e w5 ⟨rfl, hk5⟩; replace hi := hi.keep hk5; replace ho := ho.keep hk5; replace Hkr := Hid.mk (Hkr.out.trans hk5); clear hk5)
            | (go_at_call 23; refine (remD_any _ _ _ ?_ _ ?_ ?_ ?_ ?_).mono ?_; rotate_left; assumption; assumption; assumption; omega; rintro e w5 ⟨rfl, rfl⟩)
            | (go_at_call 24; refine (sumD_any _ _ _ ?_ _ ?_ ?_ ?_ ?_).mono ?_; rotate_left; assumption; assumption; assumption; omega; rintro e w5 ⟨rfl, rfl⟩)
            | (go_at_call 25; refine (moreD_any _ _ _ ?_ _ _ ?_ ?_ ?_ ?_).mono ?_; rotate_left; assumption; assumption; assumption; omega; rintro e w5 ⟨rfl, rfl⟩))
          go_ret
          exact ⟨rfl, Hkr.out⟩
end Go.Proofs.Ytpfpmnlklhjggaa
