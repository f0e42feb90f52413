import Derived.Test.YtmgfapooanpgfaaM2
namespace Go.Proofs.Ytmgfapooanpgfaa
open Go.RowKit

set_option maxHeartbeats 1000000 in
set_option maxRecDepth 1000000 in
theorem power_any (a n : Nat) (ha : a < 256) (hn : n ≤ 255) (w : World) :
    Calls Try.prog 38 #[.int .u8 (a : Int), .int .i64 (n : Int)] w fun e w' => e = .returned (.int .u8 (pw a n : Int)) ∧ ∃ m, w' = w.drewN m := by
  go_enter Try.func38, Try.ntmps38
  go_wp2
  go_loopw [0, 1, 5] (fun x i p wr => ∃ b m q : Nat, b < 256 ∧ q < 256 ∧ m ≤ 255 ∧ x = .int .u8 (b : Int) ∧ i = .int .i64 (m : Int) ∧ p = .int .u8 (q : Int) ∧ mu q (pw b m) = pw a n ∧ Qt w wr) (fun _ i _ _ => (intOf i).toNat)
  case atStart => exact ⟨a, n, 1, ha, by decide, hn, rfl, rfl, rfl, one_mu (pw_lt _ _), Qt.refl w⟩
  case round =>
    obtain ⟨b, m, q, hb, hq, hm, rfl, rfl, rfl, he, hq0⟩ := hrel
    have Hq := Hid.mk hq0
    clear hq0
    have He := Hid.mk he
    clear he
    have hbb := mu_lt b b
    have hqb := mu_lt q b
    by_cases h0 : m = 0
    · subst h0
      go_wp2
      go_ret
      refine ⟨ret_int ?_, Hq.out⟩
      have := He.out
      rw [pw, mu_one hq] at this
      rw [this]
    · have hd : (m : Int).tdiv 2 = ((m / 2 : Nat) : Int) := by rw [Int.tdiv_eq_ediv_of_nonneg (by omega)]; omega
      have hr : (m : Int).tmod 2 = ((m % 2 : Nat) : Int) := by rw [Int.tmod_eq_emod_of_nonneg (by omega)]; omega
      rcases Nat.mod_two_eq_zero_or_one m with h2 | h2
      · have H2 := Hid.mk h2
        rw [h2] at hr
        clear h2
        go_wp2_with (go_at_call 17; refine (mul_any _ _ (by assumption) (by assumption) _).mono ?_; rintro e w' ⟨rfl, mm, rfl⟩)
        go_roundw
        case rel =>
          refine ⟨mu b b, m / 2, q, hbb, hq, by omega, rfl, rfl, rfl, ?_, Hq.out.drewN _⟩
          rw [pw_sq, show 2 * (m / 2) = m from by have := H2.out; omega]
          exact He.out
        case measure => simp [intOf]; omega
      · have H2 := Hid.mk h2
        rw [h2] at hr
        clear h2
        go_wp2_with (go_at_call 17; refine (mul_any _ _ (by assumption) (by assumption) _).mono ?_; rintro e w' ⟨rfl, mm, rfl⟩)
        go_roundw
        case rel =>
          refine ⟨mu b b, m / 2, mu q b, hbb, hqb, by omega, rfl, rfl, rfl, ?_, Hq.out.drewN _⟩
          have h3 : m = 2 * (m / 2) + 1 := by have := H2.out; omega
          have h4 : pw b m = mu (pw b (2 * (m / 2))) b := by rw [← pw]; exact congrArg (pw b) h3
          rw [pw_sq, mu_assoc, mu_comm b, ← h4]
          exact He.out
        case measure => simp [intOf]; omega

/-- What Pow answers: a number and an error. -/
def powN (a : Nat) (n : Int) : Nat := if n = 0 then 1 else if a = 0 then 0 else pw a (n % 255).toNat
def powE (a : Nat) (n : Int) : Int := if a = 0 ∧ n < 0 then 41 else 0
theorem powN_lt (a : Nat) (n : Int) : powN a n < 256 := by
  unfold powN; split
  · decide
  · split
    · decide
    · exact pw_lt _ _

theorem rest_eq (n : Int) : (n.tmod 255 + 255).tmod 255 = ((n % 255).toNat : Int) := by
  have h1 : n.tmod 255 = n - 255 * n.tdiv 255 := Int.tmod_def n 255
  have h2 : -255 < n.tmod 255 ∧ n.tmod 255 < 255 := by
    constructor
    · have := Int.lt_tmod_of_pos n (show (0 : Int) < 255 by decide); omega
    · exact Int.tmod_lt_of_pos n (by decide)
  rw [Int.tmod_eq_emod_of_nonneg (by omega)]
  omega
theorem rest_bounds (n : Int) : -255 < n.tmod 255 ∧ n.tmod 255 < 255 := by
  constructor
  · have := Int.lt_tmod_of_pos n (show (0 : Int) < 255 by decide); omega
  · exact Int.tmod_lt_of_pos n (by decide)

end Go.Proofs.Ytmgfapooanpgfaa
