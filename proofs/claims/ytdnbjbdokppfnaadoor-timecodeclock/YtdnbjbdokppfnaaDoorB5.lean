import Derived.Test.YtdnbjbdokppfnaaDoorB4
import Derived.Test.YtdnbjbdokppfnaaDoorC1
namespace Go.Proofs.YtdnbjbdokppfnaaDoor
open Go.RowKit

/-- The name of a minute's place k. -/
def nms (c M k t : Int) : ByteArray := strOfNums [48 + M / 60 / 10, 48 + M / 60 % 10, 58, 48 + M % 60 / 10, 48 + M % 60 % 10, 58, 48 + k / c / 10, 48 + k / c % 10, t, 48 + k % c / 10, 48 + k % c % 10]

set_option maxHeartbeats 2000000 in
theorem Name_e (r n E : Int) (w : World) (hE : E ≠ 0) (C : ∀ u, Tb u → Calls Tryd.prog 30 #[.int .i64 r, .int .i64 n] u fun e w' => e = .returned (.tuple #[pv 0 0 0 0, .int .i64 E]) ∧ Kept [] u w') (hT : Tb w) : Calls Tryd.prog 12 #[.int .i64 r, .int .i64 n] w fun e w' => e = .returned (.tuple #[.string ⟨#[]⟩, .int .i64 E]) ∧ Kept [] w w' := by
  have C1 := Hid.mk C
  have HT := Hid.mk hT
  have t : (E != 0) = true := by simpa using hE
  clear C hT
  go_enter Tryd.func12, Tryd.ntmps12
  go_wp2_with (go_at_call 30; refine (C1.out _ HT.out).mono ?_; rintro e w1 ⟨rfl, k1⟩)
  go_ret2
  exact ⟨rfl, k1.alloc _⟩

set_option maxHeartbeats 4000000 in
set_option maxRecDepth 1000000 in
theorem Name_yes (r n M k : Int) (w : World) (h : Rt r) (hT : Tb w) (n0 : 0 ≤ n) (n1 : n < dy r) (M0 : 0 ≤ M) (M1 : M < 1440) (k0 : 0 ≤ k) (k1 : k < 60 * rc r) (hP : n + loa (rc r) (rl r) n = 60 * rc r * M + k) :
    Calls Tryd.prog 12 #[.int .i64 r, .int .i64 n] w fun e w' => e = .returned (.tuple #[.string (nms (rc r) M k (lm (rl r))), .int .i64 0]) ∧ Kept [] w w' := by
  have hd := dy_le h
  have hb := h.pb
  have C1 := Hid.mk (fun u t => paceOfFrame_yes r n u h t n0 n1)
  have C2 := Hid.mk (fun u => leftOut_any (rc r) (ra r) (rb r) (rl r) n u hb n0 (by omega))
  obtain ⟨P, eP⟩ : ∃ P, n + loa (rc r) (rl r) n = P := ⟨_, rfl⟩
  obtain ⟨D, eD⟩ : ∃ D, loa (rc r) (rl r) n = D := ⟨_, rfl⟩
  rw [eP] at hP
  rw [eD] at C2 eP
  have P0 : 0 ≤ P ∧ P ≤ 6000000 := by
    rcases h.c5 with e | e | e | e | e <;> (rw [e] at hP k1; omega)
  obtain ⟨x1, x2, x3, x4, y1, y2, y3, y4, y5, y6, y7, y8⟩ := clk_at (rc r) P M k h.c5 M0 M1 k0 k1 hP
  have hc1 := hb.c1
  have C3 := Hid.mk (fun u => clockAt_any (rc r) (ra r) (rb r) (rl r) P u hb P0.1 (by omega))
  rw [x1, x2, x3, x4] at C3
  have C4 := Hid.mk (fun u => text_any (rc r) (ra r) (rb r) (rl r) (M / 60) (M % 60) (k / rc r) (k % rc r) u y1 (by omega) y3 (by omega) y5 (by omega) y7 (by omega) _ rfl)
  have HT := Hid.mk hT
  have C5 : Hid (∀ u, Calls Tryd.prog 31 #[pv (rc r) (ra r) (rb r) (rl r), pv (M / 60) (M % 60) (k / rc r) (k % rc r)] u fun e w' => e = .returned (.string (nms (rc r) M k (lm (rl r)))) ∧ Kept [] u w') := C4
  clear C4
  generalize nms (rc r) M k (lm (rl r)) = sn at *
  have d0 : -200000000 ≤ D ∧ D ≤ 200000000 := by omega
  obtain ⟨d1, d2⟩ := d0
  generalize M / 60 = A1 at *
  generalize M % 60 = A2 at *
  generalize k / rc r = A3 at *
  generalize k % rc r = A4 at *
  clear h hT hd n1 hb hP x1 x2 x3 x4 y1 y2 y3 y4 y5 y6 y7 y8 hc1 k1 eD
  obtain ⟨P0, P1⟩ := P0
  generalize rc r = c at *
  generalize ra r = a at *
  generalize rb r = b at *
  generalize rl r = l at *
  go_enter Tryd.func12, Tryd.ntmps12
  go_wp2_with (go_at_call 30; refine (C1.out _ HT.out).mono ?_; rintro e w1 ⟨rfl, k1⟩)
  obtain ⟨w2, e2⟩ : ∃ w2, w1.alloc (.cells #[.int .i64 c, .int .i64 a, .int .i64 b, .int .i64 l] 54 (0, 0)) = w2 := ⟨_, rfl⟩
  have F := four_new w1 c a b l 54
  have K2 : Hid (Kept [] w w2) := Hid.mk (by rw [← e2]; exact k1.alloc _)
  rw [e2] at F ⊢
  clear e2 k1
  have r0 : ∀ p : KW w2, p.u.cell? ⟨w1.heap.size, 0, none⟩ = some (.int .i64 c) := fun p => cell_keep p.h F.c0 (by simp)
  have r1 : ∀ p : KW w2, p.u.cell? ⟨w1.heap.size, 1, none⟩ = some (.int .i64 a) := fun p => cell_keep p.h F.c1 (by simp)
  have r2 : ∀ p : KW w2, p.u.cell? ⟨w1.heap.size, 2, none⟩ = some (.int .i64 b) := fun p => cell_keep p.h F.c2 (by simp)
  have r3 : ∀ p : KW w2, p.u.cell? ⟨w1.heap.size, 3, none⟩ = some (.int .i64 l) := fun p => cell_keep p.h F.c3 (by simp)
  have D2 : Hid (∀ p : KW w2, Calls Tryd.prog 33 #[pv c a b l, .int .i64 n] p.u fun e w' => e = .returned (.int .i64 D) ∧ ∃ p' : KW w2, w' = p'.u) := Hid.mk fun p => (C2.out p.u).mono fun _ w' ⟨h1, h2⟩ => ⟨h1, ⟨w', p.h.trans h2⟩, rfl⟩
  have D3 : Hid (∀ p : KW w2, Calls Tryd.prog 32 #[pv c a b l, .int .i64 P] p.u fun e w' => e = .returned (pv A1 A2 A3 A4) ∧ ∃ p' : KW w2, w' = p'.u) := Hid.mk fun p => (C3.out p.u).mono fun _ w' ⟨h1, h2⟩ => ⟨h1, ⟨w', p.h.trans h2⟩, rfl⟩
  have D5 : Hid (∀ p : KW w2, Calls Tryd.prog 31 #[pv c a b l, pv A1 A2 A3 A4] p.u fun e w' => e = .returned (.string sn) ∧ ∃ p' : KW w2, w' = p'.u) := Hid.mk fun p => (C5.out p.u).mono fun _ w' ⟨h1, h2⟩ => ⟨h1, ⟨w', p.h.trans h2⟩, rfl⟩
  have NE : Nonempty (KW w2) := ⟨⟨w2, Kept.refl _ _⟩⟩
  refine wp_region_kept (by kernel_rfl) (by kernel_rfl) ?_
  repeat (go_big_quiet_step ((first | (go_at_call 33; exact D2.out _) | (go_at_call 32; exact D3.out _) | (go_at_call 31; exact D5.out _))))
  refine wpQuiet_nil ?_
  rintro _ ⟨p, rfl⟩
  go_wp2
  go_ret2
  exact ⟨rfl, K2.out.trans p.h⟩
end Go.Proofs.YtdnbjbdokppfnaaDoor
