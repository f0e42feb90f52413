import Derived.Test.YtahoeodpjdbdkaaDoormB1
namespace Go.Proofs.YtahoeodpjdbdkaaDoor
open Go.RowKit

/-- What is guessed. -/
def gs (T : Int) (L : Nat → Sx) (k s a b c : Int) : Int :=
  if 0 ≤ k ∧ k < 365 then (if s < 0 then ct (med (ct a 0 T) (ct b 0 T) (ct c 0 T) - (L k.toNat).S) 0 T else ct (med (ct a 0 T) (ct b 0 T) (ct c 0 T) + (L k.toNat).S) 0 T) else med (ct a 0 T) (ct b 0 T) (ct c 0 T)

set_option maxHeartbeats 4000000 in
theorem guess_any (P : Nat) (T d k s a b c : Int) (L : Nat → Sx) (w : World) (M : Md w P T d L) :
    Calls Tryd.prog 73 #[.pointer (some ⟨P, 0, none⟩), .int .i64 k, .int .i64 s, .int .i64 a, .int .i64 b, .int .i64 c] w fun e w' => e = .returned (.int .i64 (gs T L k s a b c)) ∧ w' = w := by
  have ⟨t0, t1⟩ := M.good.tb
  have C1 := Hid.mk (fun v => sample_any P T d v w M.hd)
  have x0 := ct_lo (n := a) (l := 0) (h := T) (by omega)
  have x1 := ct_hi (n := a) (l := 0) (h := T)
  have y0 := ct_lo (n := b) (l := 0) (h := T) (by omega)
  have y1 := ct_hi (n := b) (l := 0) (h := T)
  have ⟨m0, m1⟩ := med_in (c := ct c 0 T) x0 x1 y0 y1
  have C2 := Hid.mk (med_any (ct a 0 T) (ct b 0 T) (ct c 0 T) w)
  rw [gmed_in (by omega) (by omega) (by omega) (by omega)] at C2
  have C3 := Hid.mk (known_any k w)
  unfold gs
  by_cases h : 0 ≤ k ∧ k < 365
  · rw [if_pos h]
    obtain ⟨n, rfl, hn⟩ := ctx_nat h
    have e : decide (0 ≤ (n : Int) ∧ (n : Int) < 365) = true := decide_eq_true h
    rw [e] at C3
    rw [Int.toNat_natCast]
    have hc := (M.ctx n hn).cs
    have F := M.fit n
    have s0 := F.s0
    have s1 := F.s1
    clear h e M F
    generalize (L n).S = S at *
    generalize med (ct a 0 T) (ct b 0 T) (ct c 0 T) = m at *
    by_cases hs : s < 0
    · rw [if_pos hs]
      go_enter Tryd.func73, Tryd.ntmps73
      go_wp2_with (first | (go_at_call 79; refine (C1.out _).mono ?_; rintro e w' ⟨rfl, rfl⟩) | (go_at_call 92; refine C2.out.mono ?_; rintro e w' ⟨rfl, rfl⟩) | (go_at_call 74; refine C3.out.mono ?_; rintro e w' ⟨rfl, rfl⟩))
      go_ret
      exact ⟨rfl, rfl⟩
    · rw [if_neg hs]
      go_enter Tryd.func73, Tryd.ntmps73
      go_wp2_with (first | (go_at_call 79; refine (C1.out _).mono ?_; rintro e w' ⟨rfl, rfl⟩) | (go_at_call 92; refine C2.out.mono ?_; rintro e w' ⟨rfl, rfl⟩) | (go_at_call 74; refine C3.out.mono ?_; rintro e w' ⟨rfl, rfl⟩))
      go_ret
      exact ⟨rfl, rfl⟩
  · rw [if_neg h]
    rw [decide_eq_false h] at C3
    clear h M
    generalize med (ct a 0 T) (ct b 0 T) (ct c 0 T) = m at *
    go_enter Tryd.func73, Tryd.ntmps73
    go_wp2_with (first | (go_at_call 79; refine (C1.out _).mono ?_; rintro e w' ⟨rfl, rfl⟩) | (go_at_call 92; refine C2.out.mono ?_; rintro e w' ⟨rfl, rfl⟩) | (go_at_call 74; refine C3.out.mono ?_; rintro e w' ⟨rfl, rfl⟩))
    go_ret
    exact ⟨rfl, rfl⟩
end Go.Proofs.YtahoeodpjdbdkaaDoor
