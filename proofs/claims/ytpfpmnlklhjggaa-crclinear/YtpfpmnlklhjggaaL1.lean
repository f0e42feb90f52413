import Derived.Test.YtpfpmnlklhjggaaC8
import Derived.Deep.RegionLaw
namespace Go.Proofs.Ytpfpmnlklhjggaa
open Go.RowKit

theorem Reads.take {w : World} {ao : Option Addr} {l : List Nat} (h : Reads w ao l) (n : Nat) : Reads w ao (l.take n) := by
  rcases h with rfl | ⟨g, off, rfl, hc⟩
  · exact .inl (by simp)
  · refine .inr ⟨g, off, rfl, fun i hi => ?_⟩
    have hi2 : i < n ∧ i < l.length := by simp at hi; omega
    rw [hc i hi2.2]
    simp [hi2.1, hi2.2]

theorem Byts.take {l : List Nat} (h : Byts l) (n : Nat) : Byts (l.take n) := fun b hb => h b (List.mem_of_mem_take hb)

theorem fr4_length (s : BitVec 32) : (fr4 s).length = 4 := rfl
theorem cell_far_set {w : World} {g o N j : Nat} {v u : Value} (h : w.cell? ⟨g, o, none⟩ = some v) (hg : g ≠ N) : (w.setCell ⟨N, j, none⟩ u).cell? ⟨g, o, none⟩ = some v := by
  rw [World.cell?_setCell_other _ _ _ _ (fun e => hg (congrArg Addr.block e).symm)]; exact h

/-- Two lists put together, as far as i. -/
def xl (L K : List Nat) (n i : Nat) : List Nat := (List.range n).map fun j => if j < i then L.getD j 0 ^^^ K.getD j 0 else 0

theorem xl_length (L K : List Nat) (n i : Nat) : (xl L K n i).length = n := by simp [xl]
theorem xl_at (L K : List Nat) (n i j : Nat) (hj : j < n) : (xl L K n i)[j]? = some (if j < i then L.getD j 0 ^^^ K.getD j 0 else 0) := by simp [xl, hj]
theorem xl_zero (L K : List Nat) (n : Nat) : xl L K n 0 = List.replicate n 0 := by
  apply List.ext_getElem?
  intro j
  by_cases h : j < n
  · rw [xl_at _ _ _ _ _ h, List.getElem?_replicate, if_pos h]; simp
  · rw [List.getElem?_eq_none (by rw [xl_length]; omega), List.getElem?_eq_none (by rw [List.length_replicate]; omega)]
theorem xl_set (L K : List Nat) (n i : Nat) (hi : i < n) : ((xl L K n i).map byt).set i (byt (L.getD i 0 ^^^ K.getD i 0)) = (xl L K n (i + 1)).map byt := by
  rw [← List.map_set]
  congr 1
  apply List.ext_getElem?
  intro j
  by_cases h : j < n
  · rw [List.getElem?_set, xl_at _ _ _ _ _ h, xl_at _ _ _ _ _ h]
    by_cases e : i = j
    · subst e; simp [xl_length, hi]
    · rw [if_neg e]
      have : (j < i) = (j < i + 1) := by apply propext; omega
      simp [this]
  · rw [List.getElem?_eq_none (by simp [xl_length]; omega), List.getElem?_eq_none (by simp [xl_length]; omega)]

theorem xor_lt (a b : Nat) (ha : a < 256) (hb : b < 256) : a ^^^ b < 256 := Nat.xor_lt_two_pow (n := 8) ha hb

theorem xl_byts (L K : List Nat) (n i : Nat) (hL : Byts L) (hK : Byts K) : Byts (xl L K n i) := by
  intro b hb
  simp only [xl, List.mem_map] at hb
  obtain ⟨j, _, rfl⟩ := hb
  split
  · exact xor_lt _ _ (getD_lt L j hL) (getD_lt K j hK)
  · decide

theorem bt_xl (L K : List Nat) (n : Nat) (hL : L.length = n) (hK : K.length = n) (i : Nat) : bt (xl L K n n) i = (bt L i ^^ bt K i) := by
  unfold bt
  by_cases h : i / 8 < n
  · rw [List.getD_eq_getElem?_getD, xl_at _ _ _ _ _ h, if_pos h]
    simp only [Option.getD_some, Nat.testBit_xor]
  · rw [List.getD_eq_getElem?_getD, List.getElem?_eq_none (by rw [xl_length]; omega), List.getD_eq_getElem?_getD, List.getElem?_eq_none (by omega), List.getD_eq_getElem?_getD, List.getElem?_eq_none (by omega)]
    simp

theorem rm_xl (L K : List Nat) (n : Nat) (hL : L.length = n) (hK : K.length = n) (bL : Byts L) (bK : Byts K) : rm (xl L K n n) = rm L ^^^ rm K := by
  unfold rm
  rw [adv_bits _ (xl_byts L K n n bL bK), adv_bits _ bL, adv_bits _ bK, xl_length, hL, hK, ← hor_xor]
  exact hor_congr _ (fun i _ => bt_xl L K n hL hK i)

theorem rm_none (l : List Nat) : rm (l ++ fr4 (rm l)) = 0#32 := by
  unfold rm
  rw [adv_append, adv_fr4, BitVec.xor_self, X_zero]

theorem heap_row (w : World) (N : Nat) (l : List Nat) (h : w.heap[N]? = some (.cells (l.map byt).toArray 5 (0, 0))) : Reads w (some ⟨N, 0, none⟩) l := by
  refine .inr ⟨N, 0, rfl, fun i hi => ?_⟩
  rw [cell_of_row _ _ _ _ _ _ h]
  simp [hi]

set_option maxHeartbeats 8000000 in
set_option maxRecDepth 1000000 in
theorem linear_any (ao bo : Option Addr) (ca cb m n : Nat) (l k : List Nat) (w : World) (hr : Reads w ao l) (hs : Reads w bo k) (hb : Byts l) (hc : Byts k) (hm : l.length = m) (hn : k.length = n) (za : ao = none → ca = 0) (zb : bo = none → cb = 0)
    (la : m ≤ ca) (lb : n ≤ cb) (hl : m ≤ 140737488351232) (hl2 : n ≤ 140737488351232) :
    Calls Try.prog 7 #[.slice ao m ca, .slice bo n cb] w fun e w' => e = .returned (.bool true) ∧ Kept [] w w' := by
  obtain ⟨i0, hi, hz0, hz1, hz2⟩ := info_parts Try.info5
  by_cases hnm : n < m
  · skip
    have Hr := Hid.mk hr
    have Hs := Hid.mk hs
    have hL : (l.take n).length = n := by rw [List.length_take]; omega
    have hK : (k.take n).length = n := by rw [List.length_take]; omega
    have bL := hb.take n
    have bK := hc.take n
    have Hx := Hid.mk (rm_xl (l.take n) (k.take n) n hL hK bL bK)
    have Hz := Hid.mk (rm_none (l.take n))
    have HrL := Hid.mk (hr.take n)
    have HrK := Hid.mk (hs.take n)
    clear hr hs hm hn
    obtain ⟨L, hLL⟩ : ∃ L, L = l.take n := ⟨_, rfl⟩
    obtain ⟨K, hKK⟩ : ∃ K, K = k.take n := ⟨_, rfl⟩
    rw [← hLL] at hL bL Hx Hz HrL
    rw [← hKK] at hK bK Hx HrK
    clear hLL hKK Hr Hs hb hc
    have HL := Hid.mk hL
    have HK := Hid.mk hK
    clear hL hK
    go_enter Try.func7, Try.ntmps7
    go_wp2_with (first
      | (go_at_call 9; refine (shown_any _).mono ?_; rintro e w1 ⟨rfl, hk1⟩)
      | (at_make; refine wpList_make_full _ rfl _ _ 22 rfl 0 5 i0 (.int .u8 0) 1 Try.underlying22 hi hz0 hz1 _ _ _ _ n rfl rfl (by omega) (by omega) ?b2 ?b3 (by omega) ?_))
    case b2 => rw [hz2]; omega
    case b3 => unfold maxLen; omega
    intro w2 ho2 hg2
    have hk2 := Kept.of_grown hg2
    have hr2 := row_heap ho2 rfl
    rw [toList_madeCells_one] at hr2
    obtain ⟨N, hN⟩ : ∃ N, N = w1.heap.size := ⟨_, rfl⟩
    have hNw : w.heap.size ≤ N := by rw [hN]; exact hk1.size
    rw [← hN] at hr2 ⊢
    have hK12 : Kept [] w w2 := hk1.step hk2 (by simp)
    have hr3 : w2.heap[N]? = some (.cells ((xl L K n 0).map byt).toArray 5 (0, 0)) := by rw [hr2, xl_zero]; simp [byt]
    have Hr3 := Hid.mk hr3
    have HK12 := Hid.mk hK12
    clear hN hr2 hr3 hK12 ho2 hg2 hk1 hk2 hi hz0 hz1 hz2
    go_wp2
    go_loopw [8] (fun i wr => ∃ j : Nat, j ≤ n ∧ i = .int .i64 (j : Int) ∧ wr.heap[N]? = some (.cells ((xl L K n j).map byt).toArray 5 (0, 0)) ∧ Kept [] w wr) (fun i _ => n - (intOf i).toNat)
    case atStart => exact ⟨0, by omega, rfl, Hr3.out, HK12.out⟩
    case round =>
      obtain ⟨j, hj, rfl, hrow, hkr⟩ := hrel
      by_cases hlt : j < n
      · obtain ⟨g, off, rfl, hca, hga⟩ : ∃ g off, ao = some ⟨g, off, none⟩ ∧ wr.cell? ⟨g, off + j, none⟩ = some (.int .u8 (L.getD j 0 : Nat)) ∧ g ≠ N := by
          rcases HrL.out with h' | ⟨g, off, h', hc⟩
          · have := HL.out; rw [h'] at this; simp at this; omega
          · have h1 := hc j (by have := HL.out; omega)
            have h2 := World.block_lt_of_cell? w _ h1
            have h3 := World.cell?_of_block (w := w) (a := ⟨g, off + j, none⟩) (hkr.block g h2 (by simp))
            exact ⟨g, off, h', h3.trans h1, by simp at h2; omega⟩
        obtain ⟨g2, off2, rfl, hcb, hgb⟩ : ∃ g off, bo = some ⟨g, off, none⟩ ∧ wr.cell? ⟨g, off + j, none⟩ = some (.int .u8 (K.getD j 0 : Nat)) ∧ g ≠ N := by
          rcases HrK.out with h' | ⟨g, off, h', hc⟩
          · have := HK.out; rw [h'] at this; simp at this; omega
          · have h1 := hc j (by have := HK.out; omega)
            have h2 := World.block_lt_of_cell? w _ h1
            have h3 := World.cell?_of_block (w := w) (a := ⟨g, off + j, none⟩) (hkr.block g h2 (by simp))
            exact ⟨g, off, h', h3.trans h1, by simp at h2; omega⟩
        obtain ⟨u, hu⟩ := row_cell_at hrow (j := j) (by rw [List.length_map, xl_length]; exact hlt)
        have hfz : wr.frozen? ⟨N, j, none⟩ = false := by simp [World.frozen?, hrow]
        have hx := u8_xor_nat (L.getD j 0) (K.getD j 0) (getD_lt L j bL) (getD_lt K j bK)
        have Hset := Hid.mk (xl_set L K n j hlt)
        have hx1 := getD_lt L j bL
        have hx2 := getD_lt K j bK
        obtain ⟨x, hxx⟩ : ∃ x, x = L.getD j 0 := ⟨_, rfl⟩
        obtain ⟨y, hyy⟩ : ∃ y, y = K.getD j 0 := ⟨_, rfl⟩
        rw [← hxx] at hca hx Hset hx1
        rw [← hyy] at hcb hx Hset hx2
        have Hrow := Hid.mk hrow
        have Hkr := Hid.mk hkr
        clear hrow hkr hxx hyy
        have ix0 : (0 : Int) ≤ (j : Int) := by omega
        have ixm : (j : Int) < (m : Int) := by omega
        have ixn : (j : Int) < (n : Int) := by omega
        go_wp2
        go_region_held3 (fun w' => w'.cell? ⟨g, off + j, none⟩ = some (.int .u8 (x : Int)) ∧ w'.cell? ⟨g2, off2 + j, none⟩ = some (.int .u8 (y : Int))) (first | exact ⟨hca, hcb⟩ | exact ⟨cell_far_set hca hga, cell_far_set hcb hgb⟩ | go_keep) (fail)
        go_wp2
        go_roundw
        case rel =>
          refine ⟨j + 1, by omega, by go_num, ?_, (Hkr.out.setCell (p := ⟨N, j, none⟩) (.inr hNw) _).drew⟩
          show (World.setCell _ _ _).heap[N]? = _
          rw [heap_setCell_at Hrow.out, List.setIfInBounds_toArray, ← Hset.out]
          rfl
        case measure => simp [intOf]; omega
      · obtain rfl : j = n := by omega
        have hrx := heap_row _ _ _ hrow
        have hbx := xl_byts L K j j bL bK
        have hlx := xl_length L K j j
        obtain ⟨x, hxx⟩ : ∃ x, x = xl L K j j := ⟨_, rfl⟩
        rw [← hxx] at hrx hbx hlx Hx
        have Hrow := Hid.mk hrx
        have Hkr := Hid.mk hkr
        clear hrow hxx hrx
        have hL := HL.out
        have hK := HK.out
        have hrL := HrL.out.keep hkr
        have hrK := HrK.out.keep hkr
        have hrx := Hrow.out
        have hlo : Byts (fr4 (rm L)) := fr4_byts _
        have hbo : Byts (L ++ fr4 (rm L)) := fun x hx => (List.mem_append.1 hx).elim (bL x) (hlo x)
        have hlen : (L ++ fr4 (rm L)).length = j + 4 := by rw [List.length_append, hL, fr4_length]
        have h4 := fr4_length (rm L)
        have hxr := nm_xor (rm L) (rm K)
        have hxx := Hx.out
        clear HrL HrK HL HK Hx Hr3 HK12 hkr Hrow
        have jca : (j : Int) ≤ (ca : Int) := by omega
        have jca2 : j ≤ ca := by omega
        go_wp2_with (go_at_call 19; refine (rem_any _ _ _ ?_ _ ?_ ?_ ?_ ?_).mono ?_; rotate_left; assumption; assumption; assumption; omega; rintro e w3 ⟨rfl, hk3⟩; replace hrL := hrL.keep hk3; replace hrK := hrK.keep hk3; replace hrx := hrx.keep hk3; replace Hkr := Hid.mk (Hkr.out.trans hk3); clear hk3)
        clear hrK hrx hxx
        go_region_law (first | (go_simp; go_at_call 20; refine (four_any (rm L) _).mono ?_; rintro e w6 ⟨rfl, hr6, hk6⟩; replace hrL := hrL.keep hk6.undrew; replace Hkr := Hid.mk (Hkr.out.trans hk6.undrew)) | (go_simp; go_at_call 16; refine (both_any _ _ _ _ _ _ L (fr4 (rm L)) _ hrL hr6 hL h4 za (fun h => nomatch h) (by omega)).mono ?_; rintro e w7 ⟨co, cc, rfl, hr7, hz7, hk7⟩) | (go_simp; go_at_call 19; refine (rem_any _ _ _ (L ++ fr4 (rm L)) _ hr7 hbo hlen (by omega)).mono ?_; rintro e w8 ⟨rfl, hk8⟩; rw [Hz.out]))
        all_goals go_wp2
        all_goals go_ret
        all_goals exact ⟨rfl, Hkr.out.trans (hk7.trans hk8)⟩
  · skip
    have Hr := Hid.mk hr
    have Hs := Hid.mk hs
    have hL : (l.take m).length = m := by rw [List.length_take]; omega
    have hK : (k.take m).length = m := by rw [List.length_take]; omega
    have bL := hb.take m
    have bK := hc.take m
    have Hx := Hid.mk (rm_xl (l.take m) (k.take m) m hL hK bL bK)
    have Hz := Hid.mk (rm_none (l.take m))
    have HrL := Hid.mk (hr.take m)
    have HrK := Hid.mk (hs.take m)
    clear hr hs hm hn
    obtain ⟨L, hLL⟩ : ∃ L, L = l.take m := ⟨_, rfl⟩
    obtain ⟨K, hKK⟩ : ∃ K, K = k.take m := ⟨_, rfl⟩
    rw [← hLL] at hL bL Hx Hz HrL
    rw [← hKK] at hK bK Hx HrK
    clear hLL hKK Hr Hs hb hc
    have HL := Hid.mk hL
    have HK := Hid.mk hK
    clear hL hK
    go_enter Try.func7, Try.ntmps7
    go_wp2_with (first
      | (go_at_call 9; refine (shown_any _).mono ?_; rintro e w1 ⟨rfl, hk1⟩)
      | (at_make; refine wpList_make_full _ rfl _ _ 22 rfl 0 5 i0 (.int .u8 0) 1 Try.underlying22 hi hz0 hz1 _ _ _ _ m rfl rfl (by omega) (by omega) ?b2 ?b3 (by omega) ?_))
    case b2 => rw [hz2]; omega
    case b3 => unfold maxLen; omega
    intro w2 ho2 hg2
    have hk2 := Kept.of_grown hg2
    have hr2 := row_heap ho2 rfl
    rw [toList_madeCells_one] at hr2
    obtain ⟨N, hN⟩ : ∃ N, N = w1.heap.size := ⟨_, rfl⟩
    have hNw : w.heap.size ≤ N := by rw [hN]; exact hk1.size
    rw [← hN] at hr2 ⊢
    have hK12 : Kept [] w w2 := hk1.step hk2 (by simp)
    have hr3 : w2.heap[N]? = some (.cells ((xl L K m 0).map byt).toArray 5 (0, 0)) := by rw [hr2, xl_zero]; simp [byt]
    have Hr3 := Hid.mk hr3
    have HK12 := Hid.mk hK12
    clear hN hr2 hr3 hK12 ho2 hg2 hk1 hk2 hi hz0 hz1 hz2
    go_wp2
    go_loopw [8] (fun i wr => ∃ j : Nat, j ≤ m ∧ i = .int .i64 (j : Int) ∧ wr.heap[N]? = some (.cells ((xl L K m j).map byt).toArray 5 (0, 0)) ∧ Kept [] w wr) (fun i _ => m - (intOf i).toNat)
    case atStart => exact ⟨0, by omega, rfl, Hr3.out, HK12.out⟩
    case round =>
      obtain ⟨j, hj, rfl, hrow, hkr⟩ := hrel
      by_cases hlt : j < m
      · obtain ⟨g, off, rfl, hca, hga⟩ : ∃ g off, ao = some ⟨g, off, none⟩ ∧ wr.cell? ⟨g, off + j, none⟩ = some (.int .u8 (L.getD j 0 : Nat)) ∧ g ≠ N := by
          rcases HrL.out with h' | ⟨g, off, h', hc⟩
          · have := HL.out; rw [h'] at this; simp at this; omega
          · have h1 := hc j (by have := HL.out; omega)
            have h2 := World.block_lt_of_cell? w _ h1
            have h3 := World.cell?_of_block (w := w) (a := ⟨g, off + j, none⟩) (hkr.block g h2 (by simp))
            exact ⟨g, off, h', h3.trans h1, by simp at h2; omega⟩
        obtain ⟨g2, off2, rfl, hcb, hgb⟩ : ∃ g off, bo = some ⟨g, off, none⟩ ∧ wr.cell? ⟨g, off + j, none⟩ = some (.int .u8 (K.getD j 0 : Nat)) ∧ g ≠ N := by
          rcases HrK.out with h' | ⟨g, off, h', hc⟩
          · have := HK.out; rw [h'] at this; simp at this; omega
          · have h1 := hc j (by have := HK.out; omega)
            have h2 := World.block_lt_of_cell? w _ h1
            have h3 := World.cell?_of_block (w := w) (a := ⟨g, off + j, none⟩) (hkr.block g h2 (by simp))
            exact ⟨g, off, h', h3.trans h1, by simp at h2; omega⟩
        obtain ⟨u, hu⟩ := row_cell_at hrow (j := j) (by rw [List.length_map, xl_length]; exact hlt)
        have hfz : wr.frozen? ⟨N, j, none⟩ = false := by simp [World.frozen?, hrow]
        have hx := u8_xor_nat (L.getD j 0) (K.getD j 0) (getD_lt L j bL) (getD_lt K j bK)
        have Hset := Hid.mk (xl_set L K m j hlt)
        have hx1 := getD_lt L j bL
        have hx2 := getD_lt K j bK
        obtain ⟨x, hxx⟩ : ∃ x, x = L.getD j 0 := ⟨_, rfl⟩
        obtain ⟨y, hyy⟩ : ∃ y, y = K.getD j 0 := ⟨_, rfl⟩
        rw [← hxx] at hca hx Hset hx1
        rw [← hyy] at hcb hx Hset hx2
        have Hrow := Hid.mk hrow
        have Hkr := Hid.mk hkr
        clear hrow hkr hxx hyy
        have ix0 : (0 : Int) ≤ (j : Int) := by omega
        have ixm : (j : Int) < (m : Int) := by omega
        have ixn : (j : Int) < (n : Int) := by omega
        go_wp2
        go_region_held3 (fun w' => w'.cell? ⟨g, off + j, none⟩ = some (.int .u8 (x : Int)) ∧ w'.cell? ⟨g2, off2 + j, none⟩ = some (.int .u8 (y : Int))) (first | exact ⟨hca, hcb⟩ | exact ⟨cell_far_set hca hga, cell_far_set hcb hgb⟩ | go_keep) (fail)
        go_wp2
        go_roundw
        case rel =>
          refine ⟨j + 1, by omega, by go_num, ?_, (Hkr.out.setCell (p := ⟨N, j, none⟩) (.inr hNw) _).drew⟩
          show (World.setCell _ _ _).heap[N]? = _
          rw [heap_setCell_at Hrow.out, List.setIfInBounds_toArray, ← Hset.out]
          rfl
        case measure => simp [intOf]; omega
      · obtain rfl : j = m := by omega
        have hrx := heap_row _ _ _ hrow
        have hbx := xl_byts L K j j bL bK
        have hlx := xl_length L K j j
        obtain ⟨x, hxx⟩ : ∃ x, x = xl L K j j := ⟨_, rfl⟩
        rw [← hxx] at hrx hbx hlx Hx
        have Hrow := Hid.mk hrx
        have Hkr := Hid.mk hkr
        clear hrow hxx hrx
        have hL := HL.out
        have hK := HK.out
        have hrL := HrL.out.keep hkr
        have hrK := HrK.out.keep hkr
        have hrx := Hrow.out
        have hlo : Byts (fr4 (rm L)) := fr4_byts _
        have hbo : Byts (L ++ fr4 (rm L)) := fun x hx => (List.mem_append.1 hx).elim (bL x) (hlo x)
        have hlen : (L ++ fr4 (rm L)).length = j + 4 := by rw [List.length_append, hL, fr4_length]
        have h4 := fr4_length (rm L)
        have hxr := nm_xor (rm L) (rm K)
        have hxx := Hx.out
        clear HrL HrK HL HK Hx Hr3 HK12 hkr Hrow
        have jca : (j : Int) ≤ (ca : Int) := by omega
        have jca2 : j ≤ ca := by omega
        go_wp2_with (go_at_call 19; refine (rem_any _ _ _ ?_ _ ?_ ?_ ?_ ?_).mono ?_; rotate_left; assumption; assumption; assumption; omega; rintro e w3 ⟨rfl, hk3⟩; replace hrL := hrL.keep hk3; replace hrK := hrK.keep hk3; replace hrx := hrx.keep hk3; replace Hkr := Hid.mk (Hkr.out.trans hk3); clear hk3)
        clear hrK hrx hxx
        go_region_law (first | (go_simp; go_at_call 20; refine (four_any (rm L) _).mono ?_; rintro e w6 ⟨rfl, hr6, hk6⟩; replace hrL := hrL.keep hk6.undrew; replace Hkr := Hid.mk (Hkr.out.trans hk6.undrew)) | (go_simp; go_at_call 16; refine (both_any _ _ _ _ _ _ L (fr4 (rm L)) _ hrL hr6 hL h4 za (fun h => nomatch h) (by omega)).mono ?_; rintro e w7 ⟨co, cc, rfl, hr7, hz7, hk7⟩) | (go_simp; go_at_call 19; refine (rem_any _ _ _ (L ++ fr4 (rm L)) _ hr7 hbo hlen (by omega)).mono ?_; rintro e w8 ⟨rfl, hk8⟩; rw [Hz.out]))
        all_goals go_wp2
        all_goals go_ret
        all_goals exact ⟨rfl, Hkr.out.trans (hk7.trans hk8)⟩
end Go.Proofs.Ytpfpmnlklhjggaa
