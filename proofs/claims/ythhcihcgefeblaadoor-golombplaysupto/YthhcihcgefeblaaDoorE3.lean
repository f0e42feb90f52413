import Derived.Test.YthhcihcgefeblaaDoorE2
namespace Go.Proofs.YthhcihcgefeblaaDoor
open Go.RowKit

set_option maxHeartbeats 1000000 in
theorem roomy_no (room : Int) (w : World) (h : room < 1 ∨ 4096 < room) :
    Calls Tryd.prog 57 #[.int .i64 room] w fun e w' => e = .returned (.bool false) ∧ w' = w := by
  rcases h with h | h
  all_goals
    go_enter Tryd.func57, Tryd.ntmps57
    go_wp2
    go_ret
    exact ⟨ret_bool (by first | (simp; done) | (simp; omega)), rfl⟩

set_option maxHeartbeats 1000000 in
theorem rput_arg (X B : Nat) (n room : Int) (w : World) (h : room < 1 ∨ 4096 < room) :
    Calls Tryd.prog 30 #[.pointer (some ⟨X, 0, none⟩), .pointer (some ⟨B, 0, none⟩), .int .i64 n, .int .i64 room] w fun e w' => e = .returned (.int .i64 1) ∧ w' = w := by
  go_enter Tryd.func30, Tryd.ntmps30
  go_wp2_with (go_at_call 57; refine (roomy_no room _ h).mono ?_; rintro e w' ⟨rfl, rfl⟩)
  go_ret
  exact ⟨rfl, rfl⟩

set_option maxHeartbeats 1000000 in
theorem rput_value (X B : Nat) (n room : Int) (w : World) (r0 : 1 ≤ room) (r1 : room ≤ 4096) (h : n < 0 ∨ room < n) :
    Calls Tryd.prog 30 #[.pointer (some ⟨X, 0, none⟩), .pointer (some ⟨B, 0, none⟩), .int .i64 n, .int .i64 room] w fun e w' => e = .returned (.int .i64 22) ∧ w' = w := by
  rcases h with h | h
  · go_enter Tryd.func30, Tryd.ntmps30
    go_wp2_with (go_at_call 57; refine (roomy_ok room _ r0 r1).mono ?_; rintro e w' ⟨rfl, rfl⟩)
    go_ret
    exact ⟨rfl, rfl⟩
  · have t1 : decide (n < 0) = false := by simp; omega
    go_enter Tryd.func30, Tryd.ntmps30
    go_wp2_with (go_at_call 57; refine (roomy_ok room _ r0 r1).mono ?_; rintro e w' ⟨rfl, rfl⟩)
    go_ret
    exact ⟨rfl, rfl⟩

set_option maxHeartbeats 1000000 in
theorem rputD_arg (X B : Nat) (n room : Int) (w : World) (h : room < 1 ∨ 4096 < room) :
    Calls Tryd.prog 41 #[.pointer (some ⟨X, 0, none⟩), .pointer (some ⟨B, 0, none⟩), .int .i64 n, .int .i64 room] w fun e w' => e = .returned (.int .i64 1) ∧ w' = w := by
  rcases h with h | h
  · go_enter Tryd.func41, Tryd.ntmps41
    go_wp2
    go_ret
    exact ⟨rfl, rfl⟩
  · have t1 : decide (room < 1) = false := by simp; omega
    go_enter Tryd.func41, Tryd.ntmps41
    go_wp2
    go_ret
    exact ⟨rfl, rfl⟩

set_option maxHeartbeats 1000000 in
theorem rputD_value (X B : Nat) (n room : Int) (w : World) (r0 : 1 ≤ room) (r1 : room ≤ 4096) (h : n < 0 ∨ room < n) :
    Calls Tryd.prog 41 #[.pointer (some ⟨X, 0, none⟩), .pointer (some ⟨B, 0, none⟩), .int .i64 n, .int .i64 room] w fun e w' => e = .returned (.int .i64 22) ∧ w' = w := by
  have t0 : decide (room < 1) = false := by simp; omega
  rcases h with h | h
  · go_enter Tryd.func41, Tryd.ntmps41
    go_wp2
    go_ret
    exact ⟨rfl, rfl⟩
  · have t1 : decide (n < 0) = false := by simp; omega
    go_enter Tryd.func41, Tryd.ntmps41
    go_wp2
    go_ret
    exact ⟨rfl, rfl⟩

/-- Both sides' Put of a run. -/
theorem rput_both (N len r : Nat) (n room : Int) (hl : len ≤ 1000000000) : ∃ (E : Int) (N' len' r' : Nat), len' ≤ len + 4109 ∧
    (∀ (X B : Nat) (V : Value) (w : World), CoderAt w X r → WriterAt w B V N len → Tab w → X ≠ 0 → B ≠ 0 → V.ownBlock ≠ some 0 → Calls Tryd.prog 30 #[.pointer (some ⟨X, 0, none⟩), .pointer (some ⟨B, 0, none⟩), .int .i64 n, .int .i64 room] w fun e w' => e = .returned (.int .i64 E) ∧
      ∃ V', CoderAt w' X r' ∧ WriterAt w' B V' N' len' ∧ Kept (X :: B :: V.ownBlock.toList) w w' ∧ Lies w V V') ∧
    (∀ (X B : Nat) (V : Value) (w : World), RefX w X r → RefW w B V (bin len N) → Calls Tryd.prog 41 #[.pointer (some ⟨X, 0, none⟩), .pointer (some ⟨B, 0, none⟩), .int .i64 n, .int .i64 room] w fun e w' => e = .returned (.int .i64 E) ∧
      ∃ V', RefX w' X r' ∧ RefW w' B V' (bin len' N') ∧ Kept (X :: B :: V.ownBlock.toList) w w' ∧ Lies w V V') := by
  by_cases hr : room < 1 ∨ 4096 < room
  · refine ⟨1, N, len, r, by omega, fun X B V w hx hw _ _ _ _ => ?_, fun X B V w hx hw => ?_⟩
    · refine (rput_arg X B n room w hr).mono ?_
      rintro e w' ⟨rfl, rfl⟩
      exact ⟨rfl, V, hx, hw, Kept.refl _ _, Lies.refl _ _⟩
    · refine (rputD_arg X B n room w hr).mono ?_
      rintro e w' ⟨rfl, rfl⟩
      exact ⟨rfl, V, hx, hw, Kept.refl _ _, Lies.refl _ _⟩
  · by_cases hn : n < 0 ∨ room < n
    · refine ⟨22, N, len, r, by omega, fun X B V w hx hw _ _ _ _ => ?_, fun X B V w hx hw => ?_⟩
      · refine (rput_value X B n room w (by omega) (by omega) hn).mono ?_
        rintro e w' ⟨rfl, rfl⟩
        exact ⟨rfl, V, hx, hw, Kept.refl _ _, Lies.refl _ _⟩
      · refine (rputD_value X B n room w (by omega) (by omega) hn).mono ?_
        rintro e w' ⟨rfl, rfl⟩
        exact ⟨rfl, V, hx, hw, Kept.refl _ _, Lies.refl _ _⟩
    · have hc := rw_le r n.toNat room.toNat (by omega) (by omega)
      refine ⟨0, _, len + rw_ r n.toNat room.toNat, _, by omega, fun X B V w hx hw hT hX hB hV => rput_any X B V N len r n room w hx hw hT hX hB hV (by omega) (by omega) (by omega) (by omega) (by omega), fun X B V w hx hw => rputD_any X B V N len r n room w hx hw (by omega) (by omega) (by omega) (by omega) (by omega)⟩
end Go.Proofs.YthhcihcgefeblaaDoor
