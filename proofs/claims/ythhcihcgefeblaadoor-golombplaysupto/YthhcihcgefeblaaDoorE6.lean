import Derived.Test.YthhcihcgefeblaaDoorE5
namespace Go.Proofs.YthhcihcgefeblaaDoor
open Go.RowKit

set_option maxHeartbeats 1000000 in
theorem rget_arg (X B : Nat) (room : Int) (w : World) (h : room < 1 ∨ 4096 < room) :
    Calls Tryd.prog 32 #[.pointer (some ⟨X, 0, none⟩), .pointer (some ⟨B, 0, none⟩), .int .i64 room] w fun e w' => e = .returned (.tuple #[.int .i64 0, .int .i64 1]) ∧ w' = w := by
  go_enter Tryd.func32, Tryd.ntmps32
  go_wp2_with (go_at_call 57; refine (roomy_no room _ h).mono ?_; rintro e w' ⟨rfl, rfl⟩)
  go_ret2
  exact ⟨rfl, rfl⟩

set_option maxHeartbeats 1000000 in
theorem rgetD_arg (X B : Nat) (room : Int) (w : World) (h : room < 1 ∨ 4096 < room) :
    Calls Tryd.prog 42 #[.pointer (some ⟨X, 0, none⟩), .pointer (some ⟨B, 0, none⟩), .int .i64 room] w fun e w' => e = .returned (.tuple #[.int .i64 0, .int .i64 1]) ∧ w' = w := by
  rcases h with h | h
  · go_enter Tryd.func42, Tryd.ntmps42
    go_wp2
    go_ret2
    exact ⟨rfl, rfl⟩
  · have t0 : decide (room < 1) = false := by simp; omega
    go_enter Tryd.func42, Tryd.ntmps42
    go_wp2
    go_ret2
    exact ⟨rfl, rfl⟩

/-- Both sides' Get of a run. -/
theorem rget_both (l : List Nat) (t r : Nat) (room : Int) (ht : t ≤ 8 * l.length) (hl : l.length ≤ 10000000) : ∃ (Y E : Int) (t' r' : Nat), t' ≤ 8 * l.length ∧
    (∀ (X B g : Nat) (w : World), CoderAt w X r → ReaderAt w B g l t → Tab w → B ≠ 0 → Calls Tryd.prog 32 #[.pointer (some ⟨X, 0, none⟩), .pointer (some ⟨B, 0, none⟩), .int .i64 room] w fun e w' => e = .returned (.tuple #[.int .i64 Y, .int .i64 E]) ∧ ReaderAt w' B g l t' ∧ CoderAt w' X r' ∧ Kept [X, B] w w') ∧
    (∀ (X B : Nat) (V : Value) (w : World), RefX w X r → RefR w B V l t → Calls Tryd.prog 42 #[.pointer (some ⟨X, 0, none⟩), .pointer (some ⟨B, 0, none⟩), .int .i64 room] w fun e w' => e = .returned (.tuple #[.int .i64 Y, .int .i64 E]) ∧ RefR w' B V l t' ∧ RefX w' X r' ∧ Kept [B, X] w w') := by
  by_cases hr : room < 1 ∨ 4096 < room
  · refine ⟨0, 1, t, r, ht, fun X B g w hx hw _ _ => ?_, fun X B V w hx hw => ?_⟩
    · refine (rget_arg X B room w hr).mono ?_
      rintro e w' ⟨rfl, rfl⟩
      exact ⟨rfl, hw, hx, Kept.refl _ _⟩
    · refine (rgetD_arg X B room w hr).mono ?_
      rintro e w' ⟨rfl, rfl⟩
      exact ⟨rfl, hw, hx, Kept.refl _ _⟩
  · obtain ⟨Y, E, t', r', hres⟩ := runRes_ex l t r room.toNat ht
    refine ⟨Y, E, t', r', runRes_le hres ht, fun X B g w hx hw hT hB => (rget_any X B g l t r room w hx hw hT hB (by omega) (by omega)).mono ?_, fun X B V w hx hw => (rgetD_any X B V l t r _ room w hx hw rfl ht (by omega) (by omega) (by omega)).mono ?_⟩
    · rintro e w' ⟨Y2, E2, t2, r2, rfl, h1, h2, h3, h4⟩
      obtain ⟨rfl, rfl, rfl, rfl⟩ := runRes_one hres h4
      exact ⟨rfl, h1, h2, h3⟩
    · rintro e w' ⟨Y2, E2, t2, r2, rfl, h1, h2, h3, h4⟩
      obtain ⟨rfl, rfl, rfl, rfl⟩ := runRes_one hres h4
      exact ⟨rfl, h1, h2, h3⟩

theorem getRes_le {l : List Nat} {t n : Nat} {X E : Int} {t' : Nat} (h : GetRes l t n X E t') (ht : t ≤ 8 * l.length) : t' ≤ 8 * l.length := by
  rcases h with ⟨h, _, _, rfl⟩ | ⟨_, _, _, rfl⟩
  · exact h
  · exact ht

/-- Both sides' Get of bits. -/
theorem get_both (l : List Nat) (t : Nat) (n : Int) (ht : t ≤ 8 * l.length) (hl : l.length ≤ 10000000) : ∃ (Y E : Int) (t' : Nat), t' ≤ 8 * l.length ∧
    (∀ (B g : Nat) (w : World), ReaderAt w B g l t → Calls Tryd.prog 44 #[.pointer (some ⟨B, 0, none⟩), .int .i64 n] w fun e w' => e = .returned (.tuple #[.int .u32 Y, .int .i64 E]) ∧ ReaderAt w' B g l t' ∧ Kept [B] w w') ∧
    (∀ (B : Nat) (V : Value) (w : World), RefR w B V l t → Calls Tryd.prog 45 #[.pointer (some ⟨B, 0, none⟩), .int .i64 n] w fun e w' => e = .returned (.tuple #[.int .u32 Y, .int .i64 E]) ∧ RefR w' B V l t' ∧ Kept [B] w w') := by
  by_cases hn : n < 0 ∨ 32 < n
  · refine ⟨0, 11, t, ht, fun B g w h => ?_, fun B V w h => ?_⟩
    · refine (get_width B n w hn).mono ?_
      rintro e w' ⟨rfl, rfl⟩
      exact ⟨rfl, h, Kept.refl _ _⟩
    · refine (refGet_width B n w hn).mono ?_
      rintro e w' ⟨rfl, rfl⟩
      exact ⟨rfl, h, Kept.refl _ _⟩
  · obtain ⟨Y, E, t', h⟩ := getRes_ex l t n.toNat
    exact ⟨Y, E, t', getRes_le h ht, fun B g w hw => get_res B g l t n Y E t' w hw (by omega) (by omega) h, fun B V w hw => refGet_res B V l t n Y E t' w hw ht (by omega) (by omega) (by omega) h⟩

set_option maxHeartbeats 1000000 in
theorem gput_nil (v k wide : Int) (w : World) : Calls Tryd.prog 21 #[.pointer none, .int .i64 v, .int .i64 k, .int .i64 wide] w fun e w' => e = .returned (.int .i64 1) ∧ w' = w := by
  go_enter Tryd.func21, Tryd.ntmps21
  go_wp2_with fail
  go_ret
  exact ⟨rfl, rfl⟩
set_option maxHeartbeats 1000000 in
theorem gget_nil (k wide : Int) (w : World) : Calls Tryd.prog 25 #[.pointer none, .int .i64 k, .int .i64 wide] w fun e w' => e = .returned (.tuple #[.int .i64 0, .int .i64 1]) ∧ w' = w := by
  go_enter Tryd.func25, Tryd.ntmps25
  go_wp2_with fail
  go_ret2
  exact ⟨rfl, rfl⟩
set_option maxHeartbeats 1000000 in
theorem rput_nil (X : Nat) (n room : Int) (w : World) : Calls Tryd.prog 30 #[.pointer (some ⟨X, 0, none⟩), .pointer none, .int .i64 n, .int .i64 room] w fun e w' => e = .returned (.int .i64 1) ∧ w' = w := by
  go_enter Tryd.func30, Tryd.ntmps30
  go_wp2_with fail
  go_ret
  exact ⟨rfl, rfl⟩
set_option maxHeartbeats 1000000 in
theorem rget_nil (X : Nat) (room : Int) (w : World) : Calls Tryd.prog 32 #[.pointer (some ⟨X, 0, none⟩), .pointer none, .int .i64 room] w fun e w' => e = .returned (.tuple #[.int .i64 0, .int .i64 1]) ∧ w' = w := by
  go_enter Tryd.func32, Tryd.ntmps32
  go_wp2_with fail
  go_ret2
  exact ⟨rfl, rfl⟩
end Go.Proofs.YthhcihcgefeblaaDoor
