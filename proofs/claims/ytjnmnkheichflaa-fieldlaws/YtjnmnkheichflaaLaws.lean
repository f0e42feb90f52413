import Derived.Test.YtjnmnkheichflaaM8
import Derived.ProofKit
import Derived.OpenShut
import Derived.ShutString
import Derived.ChangeOld
namespace Go.Proofs.Ytjnmnkheichflaa.FieldLaws
open Go.ChangeShapes Go.WideShapes Go.ChangeAt Go.RowKit

theorem own : ownKnob Try.prog.godebug = none := by kernel_rfl

set_option maxHeartbeats 4000000 in
set_option maxRecDepth 1000000 in
theorem laws_any (a b c : Nat) (ha : a < 256) (hb : b < 256) (hc : c < 256) (w : World) :
    Calls Try.prog 5 #[.int .u8 (a : Int), .int .u8 (b : Int), .int .u8 (c : Int)] w fun e w' => e = .returned (.bool true) ∧ ∃ m, w' = w.drewN m := by
  have hx := u8_xor_nat b c hb hc
  have hy := u8_xor_nat (mu a b) (mu a c) (mu_lt _ _) (mu_lt _ _)
  have hp : mu a b = 0 ↔ (a = 0 ∨ b = 0) := by
    constructor
    · exact mu_none ha hb
    · rintro (rfl | rfl)
      · exact zero_mu _
      · exact mu_zero _
  have l1 := mu_lt a b
  have l2 := mu_lt b c
  have l3 := xor_lt hb hc
  have l4 : 1 < 256 := by decide
  have l5 : 0 < 256 := by decide
  have l6 := iv_lt a
  have l7 : dvN b a < 256 := mu_lt _ _
  have e1 := mu_comm b a
  have e2 := mu_assoc a b c
  have e3 := mu_xor a b c
  have e4 := mu_one ha
  have e5 := mu_zero a
  obtain ⟨t, e⟩ : ∃ t, t = b ^^^ c := ⟨_, rfl⟩
  rw [← e] at hx l3 e3
  clear e
  by_cases h0 : a = 0
  · have hp0 : (((mu a b : Nat) : Int) == 0) = true := by rw [hp.2 (.inl h0)]; rfl
    have ha0 : ((a : Int) == 0) = true := by rw [h0]; rfl
    have e6 : iv a = 0 := by rw [h0, iv_zero]
    have e7 : dvE a = 41 := by rw [h0]; rfl
    clear hp h0
    have e6' := Hid.mk e6
    have Ca := Hid.mk (inv_any a ha)
    rw [e6, e7] at Ca
    clear e6 e7 l6 l7
    go_enter Try.func5, Try.ntmps5
    go_wp2_with (first
      | (go_at_call 9; refine (alive_any _).mono ?_; rintro e w1 ⟨rfl, m1, rfl⟩)
      | (go_at_call 12; refine (Ca.out _).mono ?_; rintro e w1 ⟨rfl, m1, rfl⟩)
      | (go_at_call 10; refine (mul_any _ _ (by assumption) (by assumption) _).mono ?_; rintro e w1 ⟨rfl, m1, rfl⟩))
    go_ret
    exact ⟨rfl, _, rfl⟩
  · have ha0 : ((a : Int) == 0) = false := by simp; omega
    have e6 := mu_iv h0 ha
    have e7 : dvE a = 0 := dvE_pos h0
    have e8 : mu (dvN b a) a = b := by unfold dvN; rw [mu_assoc, iv_mu h0 ha, mu_one hb]
    have Ca := Hid.mk (inv_any a ha)
    have Cb := Hid.mk (div_any b a hb ha)
    rw [e7] at Ca Cb
    clear e7
    have hp0 : (((mu a b : Nat) : Int) == 0) = ((b : Int) == 0) := by
      have : mu a b = 0 ↔ b = 0 := by rw [hp]; simp [h0]
      by_cases h2 : b = 0
      · rw [h2, mu_zero]
      · have h3 : ¬ mu a b = 0 := fun h => h2 (this.1 h)
        rw [show (((mu a b : Nat) : Int) == 0) = false from by simp; omega, show ((b : Int) == 0) = false from by simp; omega]
    clear hp h0
    obtain ⟨i, e⟩ : ∃ i, i = iv a := ⟨_, rfl⟩
    rw [← e] at Ca l6 e6
    clear e
    obtain ⟨d, e⟩ : ∃ d, d = dvN b a := ⟨_, rfl⟩
    rw [← e] at Cb l7 e8
    clear e
    cases hb0 : ((b : Int) == 0)
    · rw [hb0] at hp0
      go_enter Try.func5, Try.ntmps5
      go_wp2_with (first
        | (go_at_call 9; refine (alive_any _).mono ?_; rintro e w1 ⟨rfl, m1, rfl⟩)
        | (go_at_call 12; refine (Ca.out _).mono ?_; rintro e w1 ⟨rfl, m1, rfl⟩)
        | (go_at_call 14; refine (Cb.out _).mono ?_; rintro e w1 ⟨rfl, m1, rfl⟩)
        | (go_at_call 10; refine (mul_any _ _ (by assumption) (by assumption) _).mono ?_; rintro e w1 ⟨rfl, m1, rfl⟩))
      go_ret
      exact ⟨rfl, _, rfl⟩
    · rw [hb0] at hp0
      go_enter Try.func5, Try.ntmps5
      go_wp2_with (first
        | (go_at_call 9; refine (alive_any _).mono ?_; rintro e w1 ⟨rfl, m1, rfl⟩)
        | (go_at_call 12; refine (Ca.out _).mono ?_; rintro e w1 ⟨rfl, m1, rfl⟩)
        | (go_at_call 14; refine (Cb.out _).mono ?_; rintro e w1 ⟨rfl, m1, rfl⟩)
        | (go_at_call 10; refine (mul_any _ _ (by assumption) (by assumption) _).mono ?_; rintro e w1 ⟨rfl, m1, rfl⟩))
      go_ret
      exact ⟨rfl, _, rfl⟩

theorem walk (a0 a1 a2 : Int) (w : World) (w0 : (Lit.int .u8 a0).wf = true) (w1 : (Lit.int .u8 a1).wf = true) (w2 : (Lit.int .u8 a2).wf = true) :
    Calls Try.prog 5 #[.int .u8 a0, .int .u8 a1, .int .u8 a2] w fun e w' => e = .returned (.bool true) ∧ Below w.heap.size w w' := by
  have b0 := bounds_u8 w0
  have b1 := bounds_u8 w1
  have b2 := bounds_u8 w2
  obtain ⟨a, rfl⟩ : ∃ a : Nat, a0 = (a : Int) := ⟨a0.toNat, by omega⟩
  obtain ⟨b, rfl⟩ : ∃ a : Nat, a1 = (a : Int) := ⟨a1.toNat, by omega⟩
  obtain ⟨c, rfl⟩ : ∃ a : Nat, a2 = (a : Int) := ⟨a2.toNat, by omega⟩
  exact (laws_any a b c (by omega) (by omega) (by omega) w).mono fun e w' ⟨he, hk⟩ => ⟨he, (Qt.kept hk []).below (Nat.le_refl _) (by simp)⟩

set_option maxRecDepth 100000 in
theorem lifted (os : Os) (started : os.Started) (H : Type) (enc : TypeId × Value → H) :
    ReturnsInHanded {} Try.checked os 5 .any (Rows.fieldLawsSpec.pre6 enc Try.prog Try.f5 Rows.fieldLawsRow.domain false) (Rows.fieldLawsSpec.post enc Try.prog Try.f5 false true false false) := by
  refine returnsInHanded_of_change (C := Try.checked) own started (by kernel_rfl) Try.func5
    (ChangeSpec.witness6 (enc := enc) (C := Try.checked) false ⟨#[], #[.int .u8 0, .int .u8 0, .int .u8 0], []⟩ 8 (by kernel_rfl) (by kernel_rfl) (by kernel_rfl) (by kernel_rfl)) ?_
  intro W base args ds gs before hval0 hW hcnd _
  have hval : ∀ (j : Nat) t v, Try.f5.params[j]? = some t → args[j]? = some v → Value.okWide Try.prog W .any base t v := hval0
  have hW' := hW
  obtain ⟨p, q, hA0, hV, rfl, hfz, hnd⟩ := hW
  have hA : DataW.TrodAll enc Try.prog W 0 (fun _ => true) true Try.f5.params.toList args.toList ds p := hA0
  rw [Try.params5] at hA hval
  obtain ⟨v0, vs0, d0, ds0, p0, q0, hargs, rfl, rfl, h0, r0⟩ := trodAll_cons hA
  obtain ⟨v1, vs1, d1, ds1, p1, q1, rfl, rfl, rfl, h1, r1⟩ := trodAll_cons r0
  obtain ⟨v2, vs2, d2, ds2, p2, q2, rfl, rfl, rfl, h2, r2⟩ := trodAll_cons r1
  obtain ⟨rfl, rfl, rfl⟩ := trodAll_nil r2
  obtain rfl : args = #[v0, v1, v2] := by cases args; simp_all
  obtain ⟨rfl, rfl⟩ := trodVars_none hV
  obtain ⟨a0, rfl, rfl, rfl, w0⟩ := open_int Try.underlying5 (hval 0 5 v0 rfl rfl) h0
  obtain ⟨a1, rfl, rfl, rfl, w1⟩ := open_int Try.underlying5 (hval 1 5 v1 rfl rfl) h1
  obtain ⟨a2, rfl, rfl, rfl, w2⟩ := open_int Try.underlying5 (hval 2 5 v2 rfl rfl) h2
  clear hA0 hval0
  refine (walk a0 a1 a2 W w0 w1 w2).mono fun e W' ⟨he, bel⟩ => ?_
  subst he
  exact ⟨_, rfl, _, _, _, [], _, [], hW', trodAll_mk1 (shut_bool Try.underlying4 _), (trodAll_cons_mk (shut_int Try.underlying5 w0) (trodAll_cons_mk (shut_int Try.underlying5 w1) (trodAll_cons_mk (shut_int Try.underlying5 w2) trodAll_mk0))), rfl, bel.frame _, fun h => by cases h⟩

end Go.Proofs.Ytjnmnkheichflaa.FieldLaws
namespace Go.Proofs.Ytjnmnkheichflaa

theorem fieldLaws_holds : Rows.FieldLawsSaid :=
  OpenClaim.holds_of_wide 5 Try.f5 rfl rfl rfl rfl rfl rfl rfl ⟨rfl, rfl, rfl, rfl, rfl⟩ rfl rfl rfl rfl rfl (by kernel_rfl) Try.func5 (by kernel_rfl)
    (of_decide_eq_true (by kernel_rfl)) (by unfold Func.isWrapper; first | (rw [if_pos (by decide +kernel)]; kernel_rfl) | (rw [if_neg (by decide +kernel)]; exact ⟨rfl, rfl⟩))
    (fun os started H enc _ => FieldLaws.lifted os started H enc)
#print axioms fieldLaws_holds
end Go.Proofs.Ytjnmnkheichflaa
