import Derived.Test.YthihennifigchaaLb
namespace Go.Proofs.Ythihennifigchaa
open Go.RowKit

set_option maxHeartbeats 8000000 in
set_option maxRecDepth 1000000 in
theorem stays_yes (b n c d : Nat) (ao : Option Addr) (f : Nat → Nat) (w : World) (hr : Row w b (n + 7) (ltF f n)) (hs : Rd w ao n f) (hn : n ≤ 70368744175616) :
    Calls Try.prog 33 #[slv b (n + 7) c, .slice ao n d] w fun e w' => e = .returned (.bool true) ∧ Kept [] w w' := by
  have Hr := Hid.mk hr
  have Hs := Hid.mk hs
  clear hr hs
  go_enter Try.func33, Try.ntmps33
  go_wp2
  go_loopw [5] (fun i wr => ∃ k : Nat, k ≤ n + 7 ∧ i = .int .i64 (k : Int) ∧ Kept [] w wr) (fun i _ => n + 7 - (intOf i).toNat)
  case atStart => exact ⟨0, by omega, rfl, Kept.refl _ _⟩
  case round =>
    obtain ⟨k, hk, rfl, hkr⟩ := hrel
    have Hkr := Hid.mk hkr
    by_cases hlt : k < n + 7
    · have hc := (Hr.out.keep hkr (by simp)).at hlt
      have ix : (k : Int) < (n : Int) + 7 := by omega
      by_cases h2 : k < n
      · obtain ⟨g, off, rfl, hc2⟩ := (Hs.out.keep hkr).at h2
        have ix2 : (k : Int) < (n : Int) := by omega
        have ix3 : ¬ (n : Int) ≤ (k : Int) := by omega
        have ix4 : decide ((k : Int) < (n : Int)) = true := by simp; omega
        have ix5 : decide ((n : Int) ≤ (k : Int)) = false := by simp; omega
        have ix6 : decide (n ≤ k) = false := by simp; omega
        have ix7 : decide (k < n) = true := by simp; omega
        rw [show ltF f n k = f k from if_pos h2] at hc
        obtain ⟨x, ex⟩ : ∃ x, x = f k := ⟨_, rfl⟩
        rw [← ex] at hc hc2
        clear ex hkr
        go_wp2
        go_quiet (fail)
        all_goals go_wp2
        all_goals exact ⟨⟨k + 1, by omega, by go_num, Hkr.out.drewN _⟩, by simp [intOf]; omega⟩
      · have ix2 : ¬ (k : Int) < (n : Int) := by omega
        have ix3 : (n : Int) ≤ (k : Int) := by omega
        have ix4 : decide ((k : Int) < (n : Int)) = false := by simp; omega
        have ix5 : decide ((n : Int) ≤ (k : Int)) = true := by simp; omega
        have ix6 : decide (n ≤ k) = true := by simp; omega
        have ix7 : decide (k < n) = false := by simp; omega
        rw [show ltF f n k = 60000 from if_neg h2] at hc
        clear hkr
        go_wp2
        go_quiet (fail)
        all_goals go_wp2
        all_goals exact ⟨⟨k + 1, by omega, by go_num, Hkr.out.drewN _⟩, by simp [intOf]; omega⟩
    · obtain rfl : n + 7 = k := by omega
      go_wp2
      go_ret
      exact ⟨rfl, Hkr.out⟩

theorem eql_nil (w : World) : Sem.run Try.prog (binOp .eql 52 (.slice none 0 0) (.slice none 0 0)) w = .ok (.bool true) w := by
  first | rfl | kernel_rfl
theorem ap_kept {w w' : World} {ks : List Nat} (h : Kept ks w w') {b : Nat} {cs : Array Value} {t : TypeId} {fr : Nat × Nat} (hb : w.heap[b]? = some (.cells cs t fr)) (hn : b ∉ ks) : w'.heap[b]? = some (.cells cs t fr) := h.heap hb hn

set_option maxHeartbeats 8000000 in
set_option maxRecDepth 1000000 in
theorem still_yes (W H D : Int) (A : Bool) (LB n c : Nat) (V : Value) (bs ln : Nat → Nat) (po : Option Addr) (F : Nat → Nat → Nat) (w0 w : World) (hL : Ln w0 w LB V n bs ln (fun i => ltF (F i) (ln i))) (hr : Pl w po n ln F) (hn : n ≤ 5864062014634) (hln : ∀ i, i < n → ln i ≤ 70368744175616) :
    Calls Try.prog 23 #[lnv W H D A (slv LB n (n + 2)) V (slv LB (n + 2) (n + 2)), frv W H D A po n c] w fun e w' => e = .returned (.bool true) ∧ Kept [] w w' := by
  have HL := Hid.mk hL
  have Hr := Hid.mk hr
  have Hln := Hid.mk hln
  have ha : (A == A) = true := by cases A <;> rfl
  obtain ⟨vo, vc, rfl⟩ : ∃ vo vc, V = .slice vo n vc := by
    rcases hL.all.own.2 with ⟨e2, h0⟩ | ⟨g2, cap, cur, e2, _⟩
    · exact ⟨none, 0, by rw [e2, h0]⟩
    · exact ⟨_, _, e2⟩
  clear hL hr hln
  go_enter Try.func23, Try.ntmps23
  go_wp2
  obtain ⟨w1, ew1⟩ : ∃ w1, w1 = (w.alloc (.cells #[.int .i64 W, .int .i64 H, .int .i64 D, .bool A, slv LB n (n + 2), .slice vo n vc, slv LB (n + 2) (n + 2)] 45)).alloc (.cells #[.int .i64 W, .int .i64 H, .int .i64 D, .bool A, .slice po n c] 38) := ⟨_, rfl⟩
  have P1 : Hid ((w1.heap[w.heap.size]? = some (.cells #[.int .i64 W, .int .i64 H, .int .i64 D, .bool A, slv LB n (n + 2), .slice vo n vc, slv LB (n + 2) (n + 2)] 45 (0, 0)) ∧ w1.heap[w.heap.size + 1]? = some (.cells #[.int .i64 W, .int .i64 H, .int .i64 D, .bool A, .slice po n c] 38 (0, 0))) ∧ Kept [] w w1) := by
    have h1 := heap_alloc_new w (.cells #[.int .i64 W, .int .i64 H, .int .i64 D, .bool A, slv LB n (n + 2), .slice vo n vc, slv LB (n + 2) (n + 2)] 45)
    have h2 := heap_alloc_new (w.alloc (.cells #[.int .i64 W, .int .i64 H, .int .i64 D, .bool A, slv LB n (n + 2), .slice vo n vc, slv LB (n + 2) (n + 2)] 45)) (.cells #[.int .i64 W, .int .i64 H, .int .i64 D, .bool A, .slice po n c] 38)
    have k2 := alloc_kept (w.alloc (.cells #[.int .i64 W, .int .i64 H, .int .i64 D, .bool A, slv LB n (n + 2), .slice vo n vc, slv LB (n + 2) (n + 2)] 45)) (.cells #[.int .i64 W, .int .i64 H, .int .i64 D, .bool A, .slice po n c] 38)
    rw [World.size_alloc] at h2
    rw [ew1]
    exact ⟨⟨k2.heap h1 (by simp), h2⟩, (alloc_kept w _).trans k2⟩
  rw [← ew1]
  clear ew1
  obtain ⟨XB, eXB⟩ : ∃ XB, XB = w.heap.size := ⟨_, rfl⟩
  obtain ⟨FB, eFB⟩ : ∃ FB, FB = w.heap.size + 1 := ⟨_, rfl⟩
  rw [← eXB] at P1 ⊢
  rw [show XB + 1 = FB by omega] at P1 ⊢
  clear eXB eFB
  go_loopw [5] (fun i wr => ∃ k : Nat, k ≤ n ∧ i = .int .i64 (k : Int) ∧ Kept [] w1 wr) (fun i _ => n - (intOf i).toNat)
  case atStart => exact ⟨0, by omega, rfl, Kept.refl _ _⟩
  case round =>
    obtain ⟨k, hk, rfl, hkr⟩ := hrel
    have Hkr := Hid.mk hkr
    obtain ⟨⟨x0, x1, x2, x3, x4, x5, x6⟩, _⟩ := seven (hkr.heap P1.out.1.1 (by simp))
    obtain ⟨⟨f0, f1, f2, f3, f4⟩, _⟩ := five (hkr.heap P1.out.1.2 (by simp))
    have hk2 := P1.out.2.trans hkr
    have hlst := hk2.heap HL.out.lst (by simp)
    by_cases hlt : k < n
    · obtain ⟨g, off, bo, c', rfl, hc, hrd⟩ := (Hr.out.keep hk2).at hlt
      have hG := HL.out.all.keep0 hk2
      obtain ⟨gV, cV, eV, _, _, _, hcs⟩ := hG.cell (by omega)
      simp only [Value.slice.injEq, true_and] at eV
      obtain ⟨rfl, rfl⟩ := eV
      have hcV := hcs k hlt
      have hrow := hG.row k hlt
      have hLc : wr.cell? ⟨LB, k, none⟩ = some (slv (bs k) (ln k) (ln k + 7)) := by
        rw [cell_of_row _ _ _ _ _ _ hlst, List.getElem?_toArray, fl_at _ _ _ (by omega)]
        unfold lsC
        rw [if_pos hlt]
      have ix : (k : Int) < (n : Int) := by omega
      have ix2 : (k : Int) < (n : Int) + 2 := by omega
      have CS := Hid.mk (stays_yes (bs k) (ln k) (ln k + 7) c' bo (F k) wr hrow hrd (Hln.out k hlt))
      have CSd := Hid.mk (stays_yes (bs k) (ln k) (ln k + 7) c' bo (F k) wr.drew hrow (hrd.keep ((Kept.refl [] wr).drew)) (Hln.out k hlt))
      obtain ⟨m, em⟩ : ∃ m, m = ln k := ⟨_, rfl⟩
      rw [← em] at hc hcV CS CSd hLc
      clear hkr hk2 hlst hG hcs hrow hrd em
      go_wp2
      go_region_held_law (fun w' => w'.cell? ⟨XB, 5, none⟩ = some (.slice (some ⟨gV, 0, none⟩) n vc) ∧ w'.cell? ⟨FB, 4, none⟩ = some (.slice (some ⟨g, off, none⟩) n c) ∧ w'.cell? ⟨gV, k, none⟩ = some (slv (bs k) (m + 7) (m + 7)) ∧ w'.cell? ⟨g, off + k, none⟩ = some (.slice bo m c')) (first | exact ⟨x5, f4, hcV, hc⟩ | exact ⟨p1, p2, p3, p4⟩ | go_keep) ((go_at_call 33; refine CSd.out.mono ?_; rintro e w2 ⟨rfl, hk2⟩; have p1 := cell_keep hk2 (show wr.drew.cell? _ = _ from x5) (by simp); have p2 := cell_keep hk2 (show wr.drew.cell? _ = _ from f4) (by simp); have p3 := cell_keep hk2 (show wr.drew.cell? _ = _ from hcV) (by simp); have p4 := cell_keep hk2 (show wr.drew.cell? _ = _ from hc) (by simp); have p5 := cell_keep hk2 (show wr.drew.cell? _ = _ from hLc) (by simp); have p6 := cell_keep hk2 (show wr.drew.cell? _ = _ from x6) (by simp)))
      all_goals go_wp2
      all_goals go_quiet (fail)
      all_goals go_wp2
      all_goals exact ⟨⟨k + 1, by omega, by go_num, ((Hkr.out.drew).trans hk2).drewN _⟩, by simp [intOf]; omega⟩
    · obtain rfl : n = k := by omega
      have hL1 : wr.cell? ⟨LB, n, none⟩ = some (.slice none 0 0) := by
        rw [cell_of_row _ _ _ _ _ _ hlst, List.getElem?_toArray, fl_at _ _ _ (by omega)]
        unfold lsC
        rw [if_neg (by omega)]
      have hL2 : wr.cell? ⟨LB, n + 1, none⟩ = some (.slice none 0 0) := by
        rw [cell_of_row _ _ _ _ _ _ hlst, List.getElem?_toArray, fl_at _ _ _ (by omega)]
        unfold lsC
        rw [if_neg (by omega)]
      have HK := Hid.mk hk2
      have hen := eql_nil
      have ix : (n : Int) < (n : Int) + 2 := by omega
      have ix2 : (n : Int) + 1 < (n : Int) + 2 := by omega
      clear hkr hk2 hlst
      go_wp2
      go_ret
      exact ⟨rfl, HK.out⟩
end Go.Proofs.Ythihennifigchaa
