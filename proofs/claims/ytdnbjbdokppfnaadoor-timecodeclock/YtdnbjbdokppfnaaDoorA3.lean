import Derived.Test.YtdnbjbdokppfnaaDoorA2
namespace Go.Proofs.YtdnbjbdokppfnaaDoor
open Go.RowKit

/-- How many frames a day has. -/
def dy (r : Int) : Int := 144 * (600 * rc r - 9 * rl r)

theorem blk_new (w : World) (cs : Array Value) (t : TypeId) : (w.alloc (.cells cs t (0, 0))).heap[w.heap.size]? = some (.cells cs t (0, 0)) := heap_alloc_new w _
theorem four_of {w : World} {B : Nat} {a b c d : Int} {t : TypeId} (h : w.heap[B]? = some (.cells #[.int .i64 a, .int .i64 b, .int .i64 c, .int .i64 d] t (0, 0))) : F4 w B a b c d :=
  ⟨by simp [World.cell?, h], by simp [World.cell?, h], by simp [World.cell?, h], by simp [World.cell?, h]⟩
theorem frz_of {w : World} {B : Nat} {cs : Array Value} {t : TypeId} (h : w.heap[B]? = some (.cells cs t (0, 0))) (i : Nat) : w.frozen? ⟨B, i, none⟩ = false := frozen_of_row w B i _ t h


theorem kept_set4 {w0 w : World} {S : Nat} (h : Kept [] w0 w) (hs : w0.heap.size ≤ S) (a b c d : Value) : Kept [] w0 ((((w.setCell ⟨S, 0, none⟩ a).setCell ⟨S, 1, none⟩ b).setCell ⟨S, 2, none⟩ c).setCell ⟨S, 3, none⟩ d) :=
  (((h.setCell (.inr hs) a).setCell (.inr hs) b).setCell (.inr hs) c).setCell (.inr hs) d

set_option maxHeartbeats 4000000 in
theorem paceOfFrame_no (r n : Int) (w : World) (h : r < 1 ∨ 7 < r) : Calls Tryd.prog 30 #[.int .i64 r, .int .i64 n] w fun e w' => e = .returned (.tuple #[pv 0 0 0 0, .int .i64 181]) ∧ Kept [] w w' := by
  have C1 := Hid.mk (fun u => paceOf_no r u h)
  clear h
  go_enter Tryd.func30, Tryd.ntmps30
  go_wp2_with (fail)
  obtain ⟨w1, e1⟩ : ∃ w1, w.alloc (.cells #[.int .i64 0, .int .i64 0, .int .i64 0, .int .i64 0] 54 (0, 0)) = w1 := ⟨_, rfl⟩
  rw [e1]
  have hb := blk_new w #[.int .i64 0, .int .i64 0, .int .i64 0, .int .i64 0] 54
  have K1 : Kept [] w w1 := by rw [← e1]; exact alloc_kept _ _
  rw [e1] at hb
  clear e1
  refine (C1.out w1).mono ?_
  rintro e w2 ⟨rfl, k2⟩
  have hb2 := k2.heap hb (by simp)
  obtain ⟨a0, a1, a2, a3⟩ := four_of hb2
  have fz := frz_of hb2
  have hz : w.heap.size < w2.heap.size := lt_of_block hb2
  have HB := Hid.mk hb2
  have HK := Hid.mk (K1.trans k2)
  clear hb hb2 K1 k2
  go_wp2
  exact bodyPost_ret (v := .tuple #[pv 0 0 0 0, .int .i64 181]) (by simp [results, Tryd.results30, go_sem, hz, a0, a1, a2, a3]) rfl ⟨rfl, (kept_set4 HK.out (Nat.le_refl _) _ _ _ _).alloc _⟩

set_option maxHeartbeats 4000000 in
theorem paceOfFrame_day (r n : Int) (w : World) (h : Rt r) (hT : Tb w) (hn : n < 0 ∨ dy r ≤ n) : Calls Tryd.prog 30 #[.int .i64 r, .int .i64 n] w fun e w' => e = .returned (.tuple #[pv 0 0 0 0, .int .i64 184]) ∧ Kept [] w w' := by
  have C1 := Hid.mk (fun u t => paceOf_yes r u h t)
  have C2 := Hid.mk (fun u => perDay_any (rc r) (ra r) (rb r) (rl r) u h.pb)
  have HT := Hid.mk hT
  unfold dy at hn
  obtain ⟨c, hc⟩ : ∃ c, rc r = c := ⟨_, rfl⟩
  obtain ⟨a, ha⟩ : ∃ c, ra r = c := ⟨_, rfl⟩
  obtain ⟨b, hb0⟩ : ∃ c, rb r = c := ⟨_, rfl⟩
  obtain ⟨l, hl⟩ : ∃ c, rl r = c := ⟨_, rfl⟩
  rw [hc, ha, hb0, hl] at C1 C2
  rw [hc, hl] at hn
  obtain ⟨D, hD⟩ : ∃ D, 144 * (600 * c - 9 * l) = D := ⟨_, rfl⟩
  rw [hD] at C2 hn
  clear h hT hc ha hb0 hl hD
  go_enter Tryd.func30, Tryd.ntmps30
  go_wp2_with (fail)
  obtain ⟨w1, e1⟩ : ∃ w1, w.alloc (.cells #[.int .i64 0, .int .i64 0, .int .i64 0, .int .i64 0] 54 (0, 0)) = w1 := ⟨_, rfl⟩
  rw [e1]
  have hb := blk_new w #[.int .i64 0, .int .i64 0, .int .i64 0, .int .i64 0] 54
  have K1 : Kept [] w w1 := by rw [← e1]; exact alloc_kept _ _
  rw [e1] at hb
  clear e1
  refine (C1.out w1 (HT.out.keep K1)).mono ?_
  rintro e w2 ⟨rfl, k2⟩
  have hb2 := k2.heap hb (by simp)
  obtain ⟨a0, a1, a2, a3⟩ := four_of hb2
  have fz := frz_of hb2
  have hz : w.heap.size < w2.heap.size := lt_of_block hb2
  have HB := Hid.mk hb2
  have HK := Hid.mk (K1.trans k2)
  clear hb hb2 K1 k2
  rcases hn with hn | hn
  · go_wp2_with (fail)
    exact bodyPost_ret (v := .tuple #[pv 0 0 0 0, .int .i64 184]) (by simp [results, Tryd.results30, go_sem, hz, a0, a1, a2, a3]) rfl ⟨rfl, (kept_set4 HK.out (Nat.le_refl _) _ _ _ _).alloc _⟩
  by_cases hn0 : n < 0
  · go_wp2_with (fail)
    exact bodyPost_ret (v := .tuple #[pv 0 0 0 0, .int .i64 184]) (by simp [results, Tryd.results30, go_sem, hz, a0, a1, a2, a3]) rfl ⟨rfl, (kept_set4 HK.out (Nat.le_refl _) _ _ _ _).alloc _⟩
  go_wp2_with (fail)
  obtain ⟨w3, e3⟩ : ∃ w3, w2.alloc (.cells #[.int .i64 c, .int .i64 a, .int .i64 b, .int .i64 l] 54 (0, 0)) = w3 := ⟨_, rfl⟩
  rw [e3]
  have hq := blk_new w2 #[.int .i64 c, .int .i64 a, .int .i64 b, .int .i64 l] 54
  have K3 : Kept [] w2 w3 := by rw [← e3]; exact alloc_kept _ _
  rw [e3] at hq
  clear e3
  refine (C2.out w3).mono ?_
  rintro e w4 ⟨rfl, k4⟩
  have hb4 := (K3.trans k4).heap HB.out (by simp)
  have hq4 := k4.heap hq (by simp)
  obtain ⟨g0, g1, g2, g3⟩ := four_of hb4
  obtain ⟨q0, q1, q2, q3⟩ := four_of hq4
  have fz4 := frz_of hb4
  have hz4 : w.heap.size < w4.heap.size := lt_of_block hb4
  have hzq : w2.heap.size < w4.heap.size := lt_of_block hq4
  have HK4 := Hid.mk ((HK.out.trans K3).trans k4)
  clear HB HK hq K3 k4 hb4 hq4 a0 a1 a2 a3 fz
  go_wp2
  exact bodyPost_ret (v := .tuple #[pv 0 0 0 0, .int .i64 184]) (by simp [results, Tryd.results30, go_sem, g0, g1, g2, g3]) rfl ⟨rfl, kept_set4 HK4.out (Nat.le_refl _) _ _ _ _⟩

set_option maxHeartbeats 4000000 in
theorem paceOfFrame_yes (r n : Int) (w : World) (h : Rt r) (hT : Tb w) (n0 : 0 ≤ n) (hn : n < dy r) : Calls Tryd.prog 30 #[.int .i64 r, .int .i64 n] w fun e w' => e = .returned (.tuple #[pv (rc r) (ra r) (rb r) (rl r), .int .i64 0]) ∧ Kept [] w w' := by
  have C1 := Hid.mk (fun u t => paceOf_yes r u h t)
  have C2 := Hid.mk (fun u => perDay_any (rc r) (ra r) (rb r) (rl r) u h.pb)
  have HT := Hid.mk hT
  unfold dy at hn
  obtain ⟨c, hc⟩ : ∃ c, rc r = c := ⟨_, rfl⟩
  obtain ⟨a, ha⟩ : ∃ c, ra r = c := ⟨_, rfl⟩
  obtain ⟨b, hb0⟩ : ∃ c, rb r = c := ⟨_, rfl⟩
  obtain ⟨l, hl⟩ : ∃ c, rl r = c := ⟨_, rfl⟩
  rw [hc, ha, hb0, hl] at C1 C2
  rw [hc, hl] at hn
  obtain ⟨D, hD⟩ : ∃ D, 144 * (600 * c - 9 * l) = D := ⟨_, rfl⟩
  rw [hD] at C2 hn
  rw [hc, ha, hb0, hl]
  clear h hT hc ha hb0 hl hD
  go_enter Tryd.func30, Tryd.ntmps30
  go_wp2_with (fail)
  obtain ⟨w1, e1⟩ : ∃ w1, w.alloc (.cells #[.int .i64 0, .int .i64 0, .int .i64 0, .int .i64 0] 54 (0, 0)) = w1 := ⟨_, rfl⟩
  rw [e1]
  have hb := blk_new w #[.int .i64 0, .int .i64 0, .int .i64 0, .int .i64 0] 54
  have K1 : Kept [] w w1 := by rw [← e1]; exact alloc_kept _ _
  rw [e1] at hb
  clear e1
  refine (C1.out w1 (HT.out.keep K1)).mono ?_
  rintro e w2 ⟨rfl, k2⟩
  have hb2 := k2.heap hb (by simp)
  obtain ⟨a0, a1, a2, a3⟩ := four_of hb2
  have fz := frz_of hb2
  have hz : w.heap.size < w2.heap.size := lt_of_block hb2
  have HB := Hid.mk hb2
  have HK := Hid.mk (K1.trans k2)
  clear hb hb2 K1 k2
  go_wp2_with (fail)
  obtain ⟨w3, e3⟩ : ∃ w3, w2.alloc (.cells #[.int .i64 c, .int .i64 a, .int .i64 b, .int .i64 l] 54 (0, 0)) = w3 := ⟨_, rfl⟩
  rw [e3]
  have hq := blk_new w2 #[.int .i64 c, .int .i64 a, .int .i64 b, .int .i64 l] 54
  have K3 : Kept [] w2 w3 := by rw [← e3]; exact alloc_kept _ _
  rw [e3] at hq
  clear e3
  refine (C2.out w3).mono ?_
  rintro e w4 ⟨rfl, k4⟩
  have hb4 := (K3.trans k4).heap HB.out (by simp)
  have hq4 := k4.heap hq (by simp)
  obtain ⟨g0, g1, g2, g3⟩ := four_of hb4
  obtain ⟨q0, q1, q2, q3⟩ := four_of hq4
  have fz4 := frz_of hb4
  have hz4 : w.heap.size < w4.heap.size := lt_of_block hb4
  have hzq : w2.heap.size < w4.heap.size := lt_of_block hq4
  have HK4 := Hid.mk ((HK.out.trans K3).trans k4)
  clear HB HK hq K3 k4 hb4 hq4 a0 a1 a2 a3 fz
  go_wp2
  exact bodyPost_ret (v := .tuple #[pv c a b l, .int .i64 0]) (by simp [results, Tryd.results30, go_sem, g0, g1, g2, g3]) rfl ⟨rfl, kept_set4 HK4.out (Nat.le_refl _) _ _ _ _⟩
end Go.Proofs.YtdnbjbdokppfnaaDoor
