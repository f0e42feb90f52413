import Derived.Test.YthihennifigchaaLd
import Derived.Test.YthihennifigchaaB3
namespace Go.Proofs.Ythihennifigchaa
open Go.RowKit

theorem Ln.keep0 {w0 w w' : World} {LB : Nat} {V : Value} {n : Nat} {bs ln : Nat → Nat} {F : Nat → Nat → Nat} (h : Ln w0 w LB V n bs ln F) (hk : Kept [] w w') : Ln w0 w' LB V n bs ln F :=
  ⟨hk.heap h.lst (by simp), h.all.keep0 hk, h.new, h.oth, h.kept.trans hk⟩
theorem Ln.pl {w0 w : World} {LB : Nat} {V : Value} {n : Nat} {bs ln : Nat → Nat} {F : Nat → Nat → Nat} (h : Ln w0 w LB V n bs ln F) : Pl w (some ⟨LB, 0, none⟩) n ln F := by
  refine .inr ⟨LB, 0, rfl, fun i hi => ⟨some ⟨bs i, 0, none⟩, ln i + 7, ?_, .inr ⟨bs i, 0, rfl, fun j hj => ?_⟩⟩⟩
  · rw [Nat.zero_add, cell_of_row _ _ _ _ _ _ h.lst, List.getElem?_toArray, fl_at _ _ _ (by omega)]
    unfold lsC
    rw [if_pos hi]
  · rw [Nat.zero_add]
    exact (h.all.row i hi).at (by omega)
theorem Ln.plF {w0 w : World} {LB : Nat} {V : Value} {n : Nat} {bs ln : Nat → Nat} {F : Nat → Nat → Nat} (h : Ln w0 w LB V n bs ln (fun i => ltF (F i) (ln i))) : Pl w (some ⟨LB, 0, none⟩) n ln F := by
  rcases h.pl with h0 | ⟨g, off, e, hc⟩
  · exact .inl h0
  · refine .inr ⟨g, off, e, fun i hi => ?_⟩
    obtain ⟨bo, c, h1, h2⟩ := hc i hi
    exact ⟨bo, c, h1, h2.congr (fun j hj => if_pos hj)⟩
/-- Samples beyond what is there are none. -/
theorem Pc.nice {w : World} {po : Option Addr} {n : Nat} {ln : Nat → Nat} {F : Nat → Nat → Nat} (h : Pc w po n ln F) (hF : ∀ i, i < n → ∀ j, j < ln i → F i j < 65536) : ∃ G, Pc w po n ln G ∧ ∀ i j, G i j < 65536 := by
  refine ⟨fun i j => if i < n ∧ j < ln i then F i j else 0, ?_, fun i j => ?_⟩
  · rcases h with h | ⟨g, off, e, hc⟩
    · exact .inl h
    · refine .inr ⟨g, off, e, fun i hi => ?_⟩
      obtain ⟨bo, c, h1, h2, h3⟩ := hc i hi
      exact ⟨bo, c, h1, h2, h3.congr (fun j hj => (if_pos ⟨hi, hj⟩).symm)⟩
  · show (if i < n ∧ j < ln i then F i j else 0) < 65536
    split
    · rename_i h; exact hF i h.1 j h.2
    · decide

set_option maxHeartbeats 16000000 in
set_option maxRecDepth 1000000 in
theorem frames_any (W H D : Int) (A : Bool) (po : Option Addr) (n c : Nat) (ln : Nat → Nat) (F0 : Nat → Nat → Nat) (w : World) (hr0 : Pc w po n ln F0) (hn : n ≤ 5864062014634) (hln : ∀ i, i < n → ln i ≤ 70368744175616) (hF0 : ∀ i, i < n → ∀ j, j < ln i → F0 i j < 65536) :
    Calls Try.prog 4 #[frv W H D A po n c] w fun e w' => e = .returned (.bool true) ∧ Kept [] w w' := by
  obtain ⟨F, hr, hF⟩ := hr0.nice hF0
  have hnb : n ≤ 9223372036854775807 := by omega
  have Hlb : Hid (∀ i, i < n → ln i ≤ 9223372036854775807) := Hid.mk (fun i hi => by have := hln i hi; omega)
  have Hr := Hid.mk hr.pl
  have Hln := Hid.mk hln
  have HF := Hid.mk hF
  have K0 := Hid.mk (alloc_kept w (.cells #[.int .i64 W, .int .i64 H, .int .i64 D, .bool A, .slice po n c] 38))
  have HN := Hid.mk (heap_alloc_new w (.cells #[.int .i64 W, .int .i64 H, .int .i64 D, .bool A, .slice po n c] 38))
  obtain ⟨E1, eE1⟩ : ∃ E1, E1 = vE W H D A n ln F := ⟨_, rfl⟩
  have CV : Hid (∀ u po c, Pl u po n ln F → Calls Try.prog 22 #[frv W H D A po n c] u fun e w' => e = .returned (.int .i64 E1) ∧ Kept [] u w') := Hid.mk (fun u po c h => by rw [eE1]; exact valid_any W H D A po n c ln F u h hnb Hlb.out)
  have CR : Hid (∀ u po c, Pl u po n ln F → Calls Try.prog 24 #[frv W H D A po n c] u fun e w' => e = .returned (.int .i64 E1) ∧ Kept [] u w') := Hid.mk (fun u po c h => by rw [eE1]; exact rvalid_any W H D A po n c ln F u h hnb Hlb.out (fun i _ j _ => HF.out i j))
  clear hr0 hF0 hr hln hF eE1
  go_enter Try.func4, Try.ntmps4
  go_wp2_with (fail)
  refine (shown_any _).mono ?_
  rintro e w2 ⟨rfl, hk2⟩
  have hFB := HN.out
  obtain ⟨FB, eFB⟩ : ∃ FB, FB = w.heap.size := ⟨_, rfl⟩
  rw [← eFB] at hFB ⊢
  have hF2 := hk2.heap hFB (by simp)
  have K2 := Hid.mk (K0.out.trans hk2)
  have F2 := Hid.mk hF2
  have HW2 := Hid.mk K2.out.size
  obtain ⟨⟨f0, f1, f2, f3, f4⟩, _⟩ := five hF2
  clear hFB hF2 hk2 HN K0 eFB
  go_wp2_with (fail)
  refine (lend_any W H D A po n c ln F w2 (Hr.out.keep K2.out) hn Hln.out).mono ?_
  rintro e w3 ⟨LB, V, bs, rfl, hL⟩
  obtain ⟨vo, vc, rfl⟩ : ∃ vo vc, V = .slice vo n vc := by
    rcases hL.all.own.2 with ⟨e2, h0⟩ | ⟨g2, cap, cur, e2, _⟩
    · exact ⟨none, 0, by rw [e2, h0]⟩
    · exact ⟨_, _, e2⟩
  have HB : Hid (∀ i, i < n → bs i < w3.heap.size) := Hid.mk (fun i hi => (hL.all.row i hi).lt)
  have ka := alloc_kept w3 (.cells #[.int .i64 W, .int .i64 H, .int .i64 D, .bool A, slv LB n (n + 2), .slice vo n vc, slv LB (n + 2) (n + 2)] 45)
  have kn := heap_alloc_new w3 (.cells #[.int .i64 W, .int .i64 H, .int .i64 D, .bool A, slv LB n (n + 2), .slice vo n vc, slv LB (n + 2) (n + 2)] 45)
  obtain ⟨w4, ew4⟩ : ∃ w4, w4 = w3.alloc (.cells #[.int .i64 W, .int .i64 H, .int .i64 D, .bool A, slv LB n (n + 2), .slice vo n vc, slv LB (n + 2) (n + 2)] 45) := ⟨_, rfl⟩
  rw [← ew4] at ka kn
  have EW := Hid.mk ew4
  have L4 := Hid.mk (hL.keep0 ka)
  have K4 := Hid.mk ((K2.out.trans hL.kept).trans ka)
  have F4 := Hid.mk (ka.heap (hL.kept.heap F2.out (by simp)) (by simp))
  have X4 := Hid.mk kn
  clear ew4 ka kn hL f0 f1 f2 f3 f4 F2 K2
  go_wp2_with (fail)
  rw [← EW.out]
  refine (CV.out w4 _ _ L4.out.plF).mono ?_
  rintro e w5 ⟨rfl, hk5⟩
  obtain ⟨XB, eXB⟩ : ∃ XB, XB = w3.heap.size := ⟨_, rfl⟩
  rw [← eXB] at X4 HB ⊢
  have L5 := Hid.mk (L4.out.keep0 hk5)
  have K5 := Hid.mk (K4.out.trans hk5)
  have F5 := Hid.mk (hk5.heap F4.out (by simp))
  have X5 := Hid.mk (hk5.heap X4.out (by simp))
  clear hk5 L4 K4 F4 X4 eXB EW
  obtain ⟨⟨x0, x1, x2, x3, x4, x5, x6⟩, _⟩ := seven X5.out
  go_wp2_with (fail)
  refine (CV.out w5 _ _ L5.out.plF).mono ?_
  rintro e w6 ⟨rfl, hk6⟩
  have L6 := Hid.mk (L5.out.keep0 hk6)
  have K6 := Hid.mk (K5.out.trans hk6)
  have F6 := Hid.mk (hk6.heap F5.out (by simp))
  have X6 := Hid.mk (hk6.heap X5.out (by simp))
  clear hk6 L5 K5 F5 X5 x0 x1 x2 x3 x4 x5 x6
  obtain ⟨⟨x0, x1, x2, x3, x4, x5, x6⟩, _⟩ := seven X6.out
  obtain ⟨⟨f0, f1, f2, f3, f4⟩, _⟩ := five F6.out
  go_wp2_with (fail)
  refine (still_yes W H D A LB n c _ bs ln po F w2 w6 L6.out (Hr.out.keep K6.out) hn Hln.out).mono ?_
  rintro e w7 ⟨rfl, hk7⟩
  have L7 := Hid.mk (L6.out.keep0 hk7)
  have K7 := Hid.mk (K6.out.trans hk7)
  have F7 := Hid.mk (hk7.heap F6.out (by simp))
  have X7 := Hid.mk (hk7.heap X6.out (by simp))
  clear hk7 L6 K6 F6 X6 x0 x1 x2 x3 x4 x5 x6 f0 f1 f2 f3 f4
  obtain ⟨⟨f0, f1, f2, f3, f4⟩, _⟩ := five F7.out
  go_wp2_with (fail)
  refine (CR.out w7 _ _ (Hr.out.keep K7.out)).mono ?_
  rintro e w8 ⟨rfl, hk8⟩
  have L8 := Hid.mk (L7.out.keep0 hk8)
  have K8 := Hid.mk (K7.out.trans hk8)
  have X8 := Hid.mk (hk8.heap X7.out (by simp))
  clear hk8 L7 K7 F7 X7 f0 f1 f2 f3 f4
  obtain ⟨⟨x0, x1, x2, x3, x4, x5, x6⟩, _⟩ := seven X8.out
  go_wp2_with (fail)
  refine (turn_any W H D A LB n _ bs ln _ w2 w8 L8.out (fun i j => ?_) hn Hln.out).mono ?_
  · show ltF (F i) (ln i) j < 65536
    unfold ltF
    split
    · exact HF.out i j
    · decide
  rintro e w9 ⟨go, gc, G, rfl, hG, hL9, hP9, hk9⟩
  have X9 := hk9.heap X8.out (by
    rw [mem_rbs]
    rintro ⟨i, hi, e⟩
    have := HB.out i hi
    omega)
  have K9 : Kept [] w w9 := K8.out.step hk9 (fun x hx => by
    obtain ⟨i, hi, e⟩ := mem_rbs.1 hx
    right
    rw [← e]
    exact Nat.le_trans HW2.out (hL9.all.lo i hi))
  obtain ⟨E2, eE2⟩ : ∃ E2, E2 = vE W H D A n ln G := ⟨_, rfl⟩
  have CV2 : Hid (∀ u po c, Pl u po n ln G → Calls Try.prog 22 #[frv W H D A po n c] u fun e w' => e = .returned (.int .i64 E2) ∧ Kept [] u w') := Hid.mk (fun u po c h => by rw [eE2]; exact valid_any W H D A po n c ln G u h hnb Hlb.out)
  have CR2 : Hid (∀ u po c, Pl u po n ln G → Calls Try.prog 24 #[frv W H D A po n c] u fun e w' => e = .returned (.int .i64 E2) ∧ Kept [] u w') := Hid.mk (fun u po c h => by rw [eE2]; exact rvalid_any W H D A po n c ln G u h hnb Hlb.out (fun i _ j _ => hG i j))
  have ka := alloc_kept w9 (.cells #[.int .i64 W, .int .i64 H, .int .i64 D, .bool A, .slice go n gc] 38)
  have kn := heap_alloc_new w9 (.cells #[.int .i64 W, .int .i64 H, .int .i64 D, .bool A, .slice go n gc] 38)
  obtain ⟨⟨y0, y1, y2, y3, y4, y5, y6⟩, _⟩ := seven (ka.heap X9 (by simp))
  obtain ⟨wA, ewA⟩ : ∃ wA, wA = w9.alloc (.cells #[.int .i64 W, .int .i64 H, .int .i64 D, .bool A, .slice go n gc] 38) := ⟨_, rfl⟩
  rw [← ewA] at ka kn
  have LA := Hid.mk (hL9.keep0 ka)
  have PA := Hid.mk (hP9.pl.keep ka)
  have KA := Hid.mk (K9.trans ka)
  have GA := Hid.mk kn
  have EA := Hid.mk ewA
  clear ewA ka kn hL9 hP9 hk9 X9 K9 hG eE2 x0 x1 x2 x3 x4 x5 x6 CV CR X8 K8 L8
  go_wp2_with (fail)
  rw [← EA.out]
  refine (CV2.out wA _ _ LA.out.pl).mono ?_
  rintro e wB ⟨rfl, hkB⟩
  obtain ⟨⟨g0, g1, g2, g3, g4⟩, _⟩ := five (hkB.heap GA.out (by simp))
  have PB := Hid.mk (PA.out.keep hkB)
  have KB := Hid.mk (KA.out.trans hkB)
  clear hkB LA PA KA GA EA y0 y1 y2 y3 y4 y5 y6
  go_wp2_with (fail)
  refine (CR2.out wB _ _ PB.out).mono ?_
  rintro e wC ⟨rfl, hkC⟩
  go_wp2
  go_ret
  exact ⟨rfl, KB.out.trans hkC⟩
end Go.Proofs.Ythihennifigchaa
