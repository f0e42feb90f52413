import Derived.Test.YtmgfapooanpgfaaRb
namespace Go.Proofs.Ytmgfapooanpgfaa
open Go.RowKit

/-- How long all rows are: the rows by their sizes, the rows more by the width. -/
def lnf (sz : Nat → Nat) (n : Nat) : Nat → Nat := fun k => if k < n then sz k else wx sz n
def vI (f : Nat → Nat) : Nat → Value := fun k => .int .i64 (f k : Int)
def vB (f : Nat → Bool) : Nat → Value := fun k => .bool (f k)
theorem rdi_sv {w : World} {ao : Option Addr} {f : Nat → Nat} {n : Nat} (h : Sv w ao n (vI f)) : RdI w ao (fun i => (f i : Int)) n := h
theorem sv_rdi {w : World} {ao : Option Addr} {f : Nat → Nat} {n : Nat} (h : RdI w ao (fun i => (f i : Int)) n) : Sv w ao n (vI f) := h

set_option maxHeartbeats 4000000 in
set_option maxRecDepth 1000000 in
theorem allLen_any (so : Option Addr) (n cs p : Nat) (sz : Nat → Nat) (w : World) (hr : RdI w so (fun i => (sz i : Int)) n) (hnil : so = none → n = 0 ∧ cs = 0) (hn : n ≤ 200) (hp : p ≤ 16) (hs : ∀ i, sz i ≤ 16777216) :
    Calls Try.prog 33 #[.slice so n cs, .int .i64 (p : Int)] w fun e w' => ∃ lo c, e = .returned (.slice lo (n + p) c) ∧ RdI w' lo (fun k => (lnf sz n k : Int)) (n + p) ∧ Kept [] w w' := by
  have Hr := Hid.mk hr
  have Hs := Hid.mk hs
  have Hnil := Hid.mk hnil
  clear hr hs hnil
  go_enter Try.func33, Try.ntmps33
  go_wp2
  go_loopw [5, 10] (fun t i wr => ∃ k : Nat, k ≤ n ∧ i = .int .i64 (k : Int) ∧ t = .int .i64 (wx sz k : Int) ∧ wr = w) (fun _ i _ => n - (intOf i).toNat)
  case atStart => exact ⟨0, by omega, rfl, rfl, rfl⟩
  case round =>
    obtain ⟨k, hk, rfl, rfl, hw⟩ := hrel
    obtain rfl := hw.symm
    by_cases hlt : k < n
    · obtain ⟨g, off, rfl, hc⟩ := Hr.out.at hlt
      have Hx : Hid (wx sz (k + 1) = max (wx sz k) (sz k)) := Hid.mk rfl
      obtain ⟨x, e⟩ : ∃ x, x = wx sz k := ⟨_, rfl⟩
      rw [← e] at Hx ⊢
      clear e
      obtain ⟨y, e⟩ : ∃ y, y = sz k := ⟨_, rfl⟩
      rw [← e] at hc Hx
      clear e
      have ix : (k : Int) < (n : Int) := by omega
      go_wp2
      go_roundw
      case rel => exact ⟨k + 1, by omega, by go_num, by rw [Hx.out, ← max_int], trivial⟩
      case measure => simp [intOf]; omega
    · obtain rfl : n = k := by omega
      obtain ⟨W, eW⟩ : ∃ W, W = wx sz n := ⟨_, rfl⟩
      rw [← eW]
      have EW := Hid.mk eW
      clear eW
      have C1 := Hid.mk (repeat_any w.heap.size 0 1 p W hp (w.alloc (.cells #[.int .i64 (W : Int)] 3)) (by rw [cell_of_row _ _ _ _ _ _ (heap_alloc_new w _)]; rfl))
      have K1 : Hid (Kept [] w (w.alloc (.cells #[.int .i64 (W : Int)] 3))) := Hid.mk ((Kept.refl [] w).alloc _)
      have C2 : Hid (∀ w1 g1, RdI w1 (some ⟨g1, 0, none⟩) (fun _ => (W : Int)) p → Kept [] (w.alloc (.cells #[.int .i64 (W : Int)] 3)) w1 → Calls Try.prog 51 #[.slice (some ⟨w1.heap.size, 0, none⟩) 2 2] (w1.alloc (.cells #[.slice so n cs, .slice (some ⟨g1, 0, none⟩) p p] 30)) fun e w' => ∃ lo c, e = .returned (.slice lo (n + p) c) ∧ RdI w' lo (fun k => (lnf sz n k : Int)) (n + p) ∧ Kept [] w w') := Hid.mk (by
        intro w1 g1 hr1 hk1
        have hk0 := K1.out.trans hk1
        have hka : Kept [] w1 (w1.alloc (.cells #[.slice so n cs, .slice (some ⟨g1, 0, none⟩) p p] 30)) := (Kept.refl [] w1).alloc _
        refine (concatI w1.heap.size 2 n cs p p so (some ⟨g1, 0, none⟩) (vI sz) (vI (fun _ => W)) _ (by rw [cell_of_row _ _ _ _ _ _ (heap_alloc_new w1 _)]; rfl) (by rw [cell_of_row _ _ _ _ _ _ (heap_alloc_new w1 _)]; rfl) (sv_rdi ((Hr.out.keep hk0).keep hka)) (sv_rdi (hr1.keep hka)) Hnil.out (by simp) (fun _ _ => rfl) (fun _ _ => rfl) (by omega) (by omega)).mono ?_
        rintro e w2 ⟨V, rfl, hV, hk2⟩
        rw [fl_app] at hV
        rw [fl_congr (g := vI (lnf sz n)) (fun i _ => by
          unfold vI lnf
          by_cases h : i < n
          · rw [if_pos h, if_pos h]
          · rw [if_neg h, if_neg h, EW.out])] at hV
        obtain ⟨lo, c, rfl, hsv, _, _⟩ := own_sv hV
        exact ⟨lo, c, rfl, rdi_sv hsv, (hk0.trans hka).trans hk2⟩)
      clear Hr Hs Hnil EW
      go_wp2_with (first | (go_at_call 28; refine C1.out.mono ?_; rintro e w1 ⟨g1, rfl, hr1, hg1, hk1⟩) | (go_at_call 51; refine (C2.out _ _ hr1 hk1).mono ?_; rintro e w2 ⟨lo, c, rfl, h1, h2⟩))
      go_ret
      exact ⟨lo, c, rfl, h1, h2⟩

/-- Which are lost. -/
def gon (lf : Nat → Nat) (m : Nat) (k : Nat) : Bool := (List.range m).any fun i => decide (lf i = k)
theorem gon_iff {lf : Nat → Nat} {m k : Nat} : gon lf m k = true ↔ ∃ i, i < m ∧ lf i = k := by
  unfold gon
  rw [List.any_eq_true]
  constructor
  · rintro ⟨i, h1, h2⟩; exact ⟨i, by simpa using h1, by simpa using h2⟩
  · rintro ⟨i, h1, h2⟩; exact ⟨i, by simpa using h1, by simpa using h2⟩
theorem gon_next (lf : Nat → Nat) (m k : Nat) : gon lf (m + 1) k = (gon lf m k || decide (lf m = k)) := by
  unfold gon
  rw [List.range_succ, List.any_append]
  simp

theorem cnt_none (lf : Nat → Nat) (N : Nat) : cnt (gon lf 0) N = 0 := by
  induction N with
  | zero => rfl
  | succ N ih => rw [cnt, ih]; rfl

theorem Try.infoB : (Try.prog.info? 4).map (fun i => (i.zero, i.size, i.bytes)) = some (some (.bool false), 1, 1) := by kernel_rfl

set_option maxHeartbeats 4000000 in
set_option maxRecDepth 1000000 in
theorem marked_any (lo : Option Addr) (m cl N : Nat) (lf : Nat → Nat) (w : World) (hr : RdI w lo (fun i => (lf i : Int)) m) (hl : ∀ i, i < m → lf i < N) (hN : N ≤ 216) (hm : m ≤ 140737488355328) :
    Calls Try.prog 34 #[.slice lo m cl, .int .i64 (N : Int)] w fun e w' => ∃ g, e = .returned (.tuple #[.slice (some ⟨g, 0, none⟩) N N, .int .i64 (cnt (gon lf m) N : Int)]) ∧ Vr w' g 4 N (vB (gon lf m)) ∧ w.heap.size ≤ g ∧ Kept [] w w' := by
  obtain ⟨i0, hi, hz0, hz1, hz2⟩ := info_parts Try.infoB
  have Hr := Hid.mk hr
  have Hl := Hid.mk hl
  clear hr hl
  go_enter Try.func34, Try.ntmps34
  go_wp2_with (at_make; refine wpList_make_full _ rfl _ _ 70 rfl 0 4 i0 (.bool false) 1 Try.underlying70 hi hz0 hz1 _ _ _ _ N rfl rfl (by omega) (by omega) (by rw [hz2]; omega) (by unfold maxLen; omega) (by omega) ?_; intro w2 ho2 hg2)
  clear hi hz0 hz1 hz2
  have hk2 := Kept.of_grown hg2
  have hr2 := row_heap ho2 rfl
  rw [show (madeCells (Value.bool false).cells (N * 1)).toList = List.replicate N (.bool false) by rw [Nat.mul_one]; exact toList_madeCells_one _ _, fl_rep] at hr2
  have HV : Hid (Vr w2 w.heap.size 4 N (fun _ => .bool false)) := Hid.mk hr2
  have HK : Hid (Kept [] w w2) := Hid.mk (hk2.mono (by simp))
  obtain ⟨G, eG⟩ : ∃ G, G = w.heap.size := ⟨_, rfl⟩
  rw [← eG] at HV ⊢
  have EG := Hid.mk eG
  clear hk2 hr2 ho2 hg2 eG
  go_loopw [7, 14] (fun t i wr => ∃ k : Nat, k ≤ m ∧ i = .int .i64 (k : Int) ∧ t = .int .i64 (cnt (gon lf k) N : Int) ∧ Vr wr G 4 N (vB (gon lf k)) ∧ Kept [] w wr) (fun _ i _ => m - (intOf i).toNat)
  case atStart => exact ⟨0, by omega, rfl, by rw [cnt_none]; rfl, HV.out, HK.out⟩
  case round =>
    obtain ⟨k, hk, rfl, rfl, hv, hkr⟩ := hrel
    by_cases hlt : k < m
    · obtain ⟨g, off, rfl, hc0⟩ := Hr.out.at hlt
      have hc := cell_keep hkr hc0 (by simp)
      have hlk := Hl.out k hlt
      have hcg := hv.at hlk
      have hfz := hv.fz (lf k)
      have ix : (k : Int) < (m : Int) := by omega
      have hcb := cnt_le (gon lf k) N
      have HK2 : Hid (∀ v, Kept [] w (wr.setCell ⟨G, lf k, none⟩ v)) := Hid.mk (fun v => hkr.setCell (p := ⟨G, lf k, none⟩) (.inr (by have := EG.out; show _ ≤ G; omega)) v)
      have Hkr := Hid.mk hkr
      have Hv := Hid.mk hv
      unfold vB at hcg
      cases hg : gon lf k (lf k)
      · have Hset : Hid (Vr (wr.setCell ⟨G, lf k, none⟩ (.bool true)) G 4 N (vB (gon lf (k + 1)))) := Hid.mk (hv.put (fun i _ => by
          unfold vB
          rw [gon_next]
          by_cases e : i = lf k
          · subst e; simp
          · rw [if_neg e, decide_eq_false (Ne.symm e), Bool.or_false]))
        have Hc : Hid (cnt (gon lf (k + 1)) N = cnt (gon lf k) N + 1) := Hid.mk (cnt_set hlk hg (by rw [gon_next]; simp) (fun i _ hn => by rw [gon_next, decide_eq_false (Ne.symm hn), Bool.or_false]))
        rw [hg] at hcg
        obtain ⟨C, e⟩ : ∃ C, C = cnt (gon lf k) N := ⟨_, rfl⟩
        rw [← e] at Hc hcb ⊢
        clear e hv hkr hg hc0
        obtain ⟨y, e⟩ : ∃ y, y = lf k := ⟨_, rfl⟩
        rw [← e] at hc hlk hcg hfz HK2 Hset
        clear e
        have iy : (y : Int) < (N : Int) := by omega
        go_wp2
        go_roundw
        case rel => exact ⟨k + 1, by omega, by go_num, by rw [Hc.out]; go_num, Hset.out, HK2.out _⟩
        case measure => simp [intOf]; omega
      · have Hset : Hid (Vr wr G 4 N (vB (gon lf (k + 1)))) := Hid.mk (by
          unfold Vr at hv ⊢
          rw [hv, fl_congr (fun i _ => ?_)]
          unfold vB
          rw [gon_next]
          by_cases e : i = lf k
          · subst e; rw [hg]; rfl
          · rw [decide_eq_false (Ne.symm e), Bool.or_false])
        have Hc : Hid (cnt (gon lf (k + 1)) N = cnt (gon lf k) N) := Hid.mk (cnt_congr (fun i _ => by
          rw [gon_next]
          by_cases e : i = lf k
          · subst e; rw [hg]; rfl
          · rw [decide_eq_false (Ne.symm e), Bool.or_false]))
        rw [hg] at hcg
        obtain ⟨C, e⟩ : ∃ C, C = cnt (gon lf k) N := ⟨_, rfl⟩
        rw [← e] at Hc hcb ⊢
        clear e hv hkr hg hc0
        obtain ⟨y, e⟩ : ∃ y, y = lf k := ⟨_, rfl⟩
        rw [← e] at hc hlk hcg hfz HK2
        clear e
        have iy : (y : Int) < (N : Int) := by omega
        go_wp2
        go_roundw
        case rel => exact ⟨k + 1, by omega, by go_num, by rw [Hc.out], Hset.out, Hkr.out⟩
        case measure => simp [intOf]; omega
    · obtain rfl : m = k := by omega
      have Hv := Hid.mk hv
      have Hkr := Hid.mk hkr
      clear hv hkr
      go_wp2
      go_ret2
      exact ⟨G, rfl, Hv.out, by have := EG.out; omega, Hkr.out⟩

end Go.Proofs.Ytmgfapooanpgfaa
