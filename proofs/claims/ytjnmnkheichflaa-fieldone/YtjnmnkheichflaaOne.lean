import Derived.Test.YtjnmnkheichflaaM8
import Derived.ProofKit
import Derived.OpenShut
import Derived.ShutString
import Derived.ChangeOld
namespace Go.Proofs.Ytjnmnkheichflaa.FieldOne
open Go.ChangeShapes Go.WideShapes Go.ChangeAt Go.RowKit

theorem own : ownKnob Try.prog.godebug = none := by kernel_rfl

set_option maxHeartbeats 2000000 in
set_option maxRecDepth 1000000 in
theorem one_any (a b : Nat) (n : Int) (ha : a < 256) (hb : b < 256) (hn : -9223372036854775808 ≤ n ∧ n ≤ 9223372036854775807) (w : World) :
    Calls Try.prog 4 #[.int .u8 (a : Int), .int .u8 (b : Int), .int .i64 n] w fun e w' => e = .returned (.bool true) ∧ ∃ m, w' = w.drewN m := by
  have C1 := Hid.mk (mul_any a b ha hb)
  have C2 := Hid.mk (refMul_any a b ha hb)
  have C3 := Hid.mk (inv_any a ha)
  have C4 := Hid.mk (refInv_any a ha)
  have C5 := Hid.mk (div_any a b ha hb)
  have C6 := Hid.mk (refDiv_any a b ha hb)
  have C7 := Hid.mk (pow_any a n ha hn)
  have C8 := Hid.mk (refPow_any a n ha hn)
  obtain ⟨x1, h⟩ : ∃ x, x = (mu a b : Int) := ⟨_, rfl⟩
  rw [← h] at C1 C2; clear h
  obtain ⟨x2, h⟩ : ∃ x, x = (iv a : Int) := ⟨_, rfl⟩
  rw [← h] at C3 C4; clear h
  obtain ⟨x3, h⟩ : ∃ x, x = dvE a := ⟨_, rfl⟩
  rw [← h] at C3 C4; clear h
  obtain ⟨x4, h⟩ : ∃ x, x = (dvN a b : Int) := ⟨_, rfl⟩
  rw [← h] at C5 C6; clear h
  obtain ⟨x5, h⟩ : ∃ x, x = dvE b := ⟨_, rfl⟩
  rw [← h] at C5 C6; clear h
  obtain ⟨x6, h⟩ : ∃ x, x = (powN a n : Int) := ⟨_, rfl⟩
  rw [← h] at C7 C8; clear h
  obtain ⟨x7, h⟩ : ∃ x, x = powE a n := ⟨_, rfl⟩
  rw [← h] at C7 C8; clear h
  clear ha hb hn
  go_enter Try.func4, Try.ntmps4
  go_wp2_with (go_at_call 9; refine (alive_any _).mono ?_; rintro e w1 ⟨rfl, mm, rfl⟩)
  go_wp2_with (first
    | (go_at_call 10; refine (C1.out _).mono ?_; rintro e w1 ⟨rfl, m1, rfl⟩)
    | (go_at_call 11; refine (C2.out _).mono ?_; rintro e w1 ⟨rfl, rfl⟩)
    | (go_at_call 12; refine (C3.out _).mono ?_; rintro e w1 ⟨rfl, m1, rfl⟩)
    | (go_at_call 13; refine (C4.out _).mono ?_; rintro e w1 ⟨rfl, rfl⟩)
    | (go_at_call 14; refine (C5.out _).mono ?_; rintro e w1 ⟨rfl, m1, rfl⟩)
    | (go_at_call 15; refine (C6.out _).mono ?_; rintro e w1 ⟨rfl, rfl⟩)
    | (go_at_call 16; refine (C7.out _).mono ?_; rintro e w1 ⟨rfl, m1, rfl⟩)
    | (go_at_call 17; refine (C8.out _).mono ?_; rintro e w1 ⟨rfl, rfl⟩))
  go_ret
  exact ⟨rfl, _, rfl⟩

theorem walk (a0 a1 a2 : Int) (w : World) (w0 : (Lit.int .u8 a0).wf = true) (w1 : (Lit.int .u8 a1).wf = true) (w2 : (Lit.int .i64 a2).wf = true) :
    Calls Try.prog 4 #[.int .u8 a0, .int .u8 a1, .int .i64 a2] w fun e w' => e = .returned (.bool true) ∧ Below w.heap.size w w' := by
  have b0 := bounds_u8 w0
  have b1 := bounds_u8 w1
  have b2 := bounds_i64 w2
  obtain ⟨a, rfl⟩ : ∃ a : Nat, a0 = (a : Int) := ⟨a0.toNat, by omega⟩
  obtain ⟨b, rfl⟩ : ∃ a : Nat, a1 = (a : Int) := ⟨a1.toNat, by omega⟩
  exact (one_any a b a2 (by omega) (by omega) (by omega) w).mono fun e w' ⟨he, hk⟩ => ⟨he, (Qt.kept hk []).below (Nat.le_refl _) (by simp)⟩

set_option maxRecDepth 100000 in
theorem lifted (os : Os) (started : os.Started) (H : Type) (enc : TypeId × Value → H) :
    ReturnsInHanded {} Try.checked os 4 .any (Rows.fieldOneSpec.pre6 enc Try.prog Try.f4 Rows.fieldOneRow.domain false) (Rows.fieldOneSpec.post enc Try.prog Try.f4 false true false false) := by
  refine returnsInHanded_of_change (C := Try.checked) own started (by kernel_rfl) Try.func4
    (ChangeSpec.witness6 (enc := enc) (C := Try.checked) false ⟨#[], #[.int .u8 0, .int .u8 0, .int .i64 0], []⟩ 8 (by kernel_rfl) (by kernel_rfl) (by kernel_rfl) (by kernel_rfl)) ?_
  intro W base args ds gs before hval0 hW hcnd _
  have hval : ∀ (j : Nat) t v, Try.f4.params[j]? = some t → args[j]? = some v → Value.okWide Try.prog W .any base t v := hval0
  have hW' := hW
  obtain ⟨p, q, hA0, hV, rfl, hfz, hnd⟩ := hW
  have hA : DataW.TrodAll enc Try.prog W 0 (fun _ => true) true Try.f4.params.toList args.toList ds p := hA0
  rw [Try.params4] at hA hval
  obtain ⟨v0, vs0, d0, ds0, p0, q0, hargs, rfl, rfl, h0, r0⟩ := trodAll_cons hA
  obtain ⟨v1, vs1, d1, ds1, p1, q1, rfl, rfl, rfl, h1, r1⟩ := trodAll_cons r0
  obtain ⟨v2, vs2, d2, ds2, p2, q2, rfl, rfl, rfl, h2, r2⟩ := trodAll_cons r1
  obtain ⟨rfl, rfl, rfl⟩ := trodAll_nil r2
  obtain rfl : args = #[v0, v1, v2] := by cases args; simp_all
  obtain ⟨rfl, rfl⟩ := trodVars_none hV
  obtain ⟨a0, rfl, rfl, rfl, w0⟩ := open_int Try.underlying5 (hval 0 5 v0 rfl rfl) h0
  obtain ⟨a1, rfl, rfl, rfl, w1⟩ := open_int Try.underlying5 (hval 1 5 v1 rfl rfl) h1
  obtain ⟨a2, rfl, rfl, rfl, w2⟩ := open_int Try.underlying3 (hval 2 3 v2 rfl rfl) h2
  clear hA0 hval0
  refine (walk a0 a1 a2 W w0 w1 w2).mono fun e W' ⟨he, bel⟩ => ?_
  subst he
  exact ⟨_, rfl, _, _, _, [], _, [], hW', trodAll_mk1 (shut_bool Try.underlying4 _), (trodAll_cons_mk (shut_int Try.underlying5 w0) (trodAll_cons_mk (shut_int Try.underlying5 w1) (trodAll_cons_mk (shut_int Try.underlying3 w2) trodAll_mk0))), rfl, bel.frame _, fun h => by cases h⟩

end Go.Proofs.Ytjnmnkheichflaa.FieldOne
namespace Go.Proofs.Ytjnmnkheichflaa

theorem fieldOne_holds : Rows.FieldOneSaid :=
  OpenClaim.holds_of_wide 4 Try.f4 rfl rfl rfl rfl rfl rfl rfl ⟨rfl, rfl, rfl, rfl, rfl⟩ rfl rfl rfl rfl rfl (by kernel_rfl) Try.func4 (by kernel_rfl)
    (of_decide_eq_true (by kernel_rfl)) (by unfold Func.isWrapper; first | (rw [if_pos (by decide +kernel)]; kernel_rfl) | (rw [if_neg (by decide +kernel)]; exact ⟨rfl, rfl⟩))
    (fun os started H enc _ => FieldOne.lifted os started H enc)
#print axioms fieldOne_holds
end Go.Proofs.Ytjnmnkheichflaa
