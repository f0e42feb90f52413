import Derived.Test.YtkjhegedkamjaaaT7
import Derived.Test.YtkjhegedkamjaaaT9
namespace Go.Proofs.Ytkjhegedkamjaaa
open Go.RowKit

theorem eq_func {P : Program} (w : World) {t : TypeId} {ps rs : Array TypeId} {v : Bool} (f : Fn) (a b : Array Value) (ht : P.underlying t = some (.func ps rs v)) : (binOp .eql t (.func f a b) .nilFunc).run P w = .ok (.bool false) w := by
  have h : ∀ d : Nat, (Op.equalIn (d + 1) t (.func f a b) .nilFunc).run P w = .ok false w := fun d => by
    simp [Op.equalIn, run_underlying ht]
  simp only [binOp]
  simp [Op.equal, Op.maxDepth, h 9999]

set_option maxHeartbeats 4000000 in
set_option maxRecDepth 1000000 in
theorem ttouch_ok (P : Nat) (W H D sw sh c r X Y rw rh : Int) (A : Bool) (w : World) (hg : Gr w P W H D A sw sh c r) (g : Gd W H sw sh c r) (x0 : 0 ≤ X) (y0 : 0 ≤ Y) (w0 : 1 ≤ rw) (h0 : 1 ≤ rh) (x1 : X + rw ≤ W) (y1 : Y + rh ≤ H) :
    Calls Try.prog 17 #[.pointer (some ⟨P, 0, none⟩), rcv X Y rw rh] w fun e w' => ∃ b1 b2 b3 b4, e = .returned (.tuple #[.func (.func 44) #[] #[.pointer (some ⟨b1, 0, none⟩), .pointer (some ⟨b2, 0, none⟩), .pointer (some ⟨b3, 0, none⟩), .pointer (some ⟨b4, 0, none⟩)], .int .i64 0]) ∧ Kept [] w w' ∧ Cl w' b1 b2 b3 b4 P (sA c sw sh X Y) (sA c sw sh (X + rw - 1) (Y + rh - 1)) ((X + rw - 1) / sw - X / sw) := by
  obtain ⟨w1, ew1, hk1, hb1⟩ := one_new w #[.int .i64 X, .int .i64 Y, .int .i64 rw, .int .i64 rh] 34
  have EW := Hid.mk ew1
  have HG := Hid.mk (hg.keep hk1 (by simp))
  have hw1 := g.w1
  have hh1 := g.h1
  have C1 := Hid.mk (fun u (h : Gr u P W H D A sw sh c r) => thas_any P W H D sw sh c r X Y rw rh A u h g (by omega) (by omega))
  rw [show inF W H X Y rw rh = true from decide_eq_true (by omega)] at C1
  have C2 := Hid.mk (fun u (h : Gr u P W H D A sw sh c r) => ttouched_in P W H D sw sh c r X Y rw rh A u h g x0 y0 w0 h0 x1 y1)
  obtain ⟨f, ef⟩ : ∃ f, f = sA c sw sh X Y := ⟨_, rfl⟩
  obtain ⟨l, el⟩ : ∃ f, f = sA c sw sh (X + rw - 1) (Y + rh - 1) := ⟨_, rfl⟩
  obtain ⟨wd, ewd⟩ : ∃ wd, wd = (X + rw - 1) / sw - X / sw := ⟨_, rfl⟩
  simp only [← ef, ← el, ← ewd] at C2 ⊢
  clear ew1 hg g hw1 hh1 x0 y0 w0 h0 x1 y1 ef el ewd
  go_enter Try.func17, Try.ntmps17
  go_wp2_with (first | (go_at_call 29; rw [← EW.out]; refine (C1.out _ HG.out).mono ?_; rintro e w2 ⟨rfl, hk2⟩; obtain ⟨⟨z0, z1, z2, z3⟩, _⟩ := four (hk2.heap hb1 (by simp))) | (go_at_call 34; refine (C2.out _ (HG.out.keep hk2 (by simp))).mono ?_; rintro e w3 ⟨b1, b2, b3, b4, rfl, hk3, hcl⟩))
  go_ret2
  exact ⟨b1, b2, b3, b4, rfl, (hk1.trans hk2).trans hk3, hcl⟩

set_option maxHeartbeats 4000000 in
set_option maxRecDepth 1000000 in
theorem ttouch_no (P : Nat) (W H D sw sh c r X Y rw rh : Int) (A : Bool) (w : World) (hg : Gr w P W H D A sw sh c r) (g : Gd W H sw sh c r) (xb : X ≤ 9223372036854775807) (yb : Y ≤ 9223372036854775807) (hn : inF W H X Y rw rh = false) :
    Calls Try.prog 17 #[.pointer (some ⟨P, 0, none⟩), rcv X Y rw rh] w fun e w' => e = .returned (.tuple #[.func (.func 33) #[] #[], .int .i64 83]) ∧ Kept [] w w' := by
  obtain ⟨w1, ew1, hk1, hb1⟩ := one_new w #[.int .i64 X, .int .i64 Y, .int .i64 rw, .int .i64 rh] 34
  have EW := Hid.mk ew1
  have HG := Hid.mk (hg.keep hk1 (by simp))
  have C1 := Hid.mk (fun u (h : Gr u P W H D A sw sh c r) => thas_any P W H D sw sh c r X Y rw rh A u h g xb yb)
  rw [hn] at C1
  clear ew1 hg g
  go_enter Try.func17, Try.ntmps17
  go_wp2_with (first | (go_at_call 29; rw [← EW.out]; refine (C1.out _ HG.out).mono ?_; rintro e w2 ⟨rfl, hk2⟩))
  go_ret2
  exact ⟨rfl, hk1.trans hk2⟩
end Go.Proofs.Ytkjhegedkamjaaa
