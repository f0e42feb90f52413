import Derived.Test.YtahoeodpjdbdkabDoormA1
namespace Go.Proofs.YtahoeodpjdbdkabDoor
open Go.RowKit

/-- A number that a machine has. -/
def i64b (a : Int) : Prop := -9223372036854775808 ≤ a ∧ a ≤ 9223372036854775807

/-- A number below one. -/
def pk (a n : Int) : Int := (if a < 0 then -(a + 1) else a) % n
theorem pk_in (a : Int) {n : Int} (h : 1 ≤ n) : 0 ≤ pk a n ∧ pk a n < n := by
  unfold pk
  exact ⟨Int.emod_nonneg _ (by omega), Int.emod_lt_of_pos _ (by omega)⟩

set_option maxHeartbeats 1000000 in
set_option maxRecDepth 100000 in
theorem pick_any (a n : Int) (w : World) (h0 : -9223372036854775808 ≤ a) (h1 : a ≤ 9223372036854775807) (hn : 1 ≤ n) (hn2 : n ≤ 9223372036854775807) :
    Calls Tryd.prog 10 #[.int .i64 a, .int .i64 n] w fun e w' => e = .returned (.int .i64 (pk a n)) ∧ w' = w := by
  have hz : n ≠ 0 := by omega
  have hp := pk_in a hn
  have HP : Hid (pk a n = (if a < 0 then -(a + 1) else a) % n) := Hid.mk rfl
  obtain ⟨p, hpe⟩ : ∃ p, pk a n = p := ⟨_, rfl⟩
  rw [hpe] at HP hp ⊢
  by_cases ha : a < 0
  · have e := HP.out
    rw [if_pos ha] at e
    have w1 : IntKind.i64.wrap (a + 1) = a + 1 := wrap_i (by omega) (by omega)
    have w2 : IntKind.i64.wrap (-(a + 1)) = -(a + 1) := wrap_i (by omega) (by omega)
    obtain ⟨m, hm⟩ : ∃ m, -(a + 1) = m := ⟨_, rfl⟩
    have hm0 : 0 ≤ m := by omega
    rw [hm] at e w2
    have t1 : m.tmod n = p := by rw [Int.tmod_eq_emod_of_nonneg hm0, e]
    have t2 : IntKind.i64.wrap (m.tmod n) = p := by rw [t1]; exact wrap_i (by omega) (by omega)
    have w3 : IntKind.i64.wrap (-(a + 1)) = m := by rw [hm]; exact w2
    have w4 : wrap64 (a + 1) = a + 1 := w64_in (by omega) (by omega)
    have w5 : wrap64 (-(a + 1)) = m := by rw [hm]; exact w64_in (by omega) (by omega)
    have w6 : wrap64 p = p := w64_in (by omega) (by omega)
    clear hpe HP hm hp e
    go_enter Tryd.func10, Tryd.ntmps10
    go_wp2
    go_ret
    exact ⟨rfl, rfl⟩
  · have e := HP.out
    rw [if_neg ha] at e
    have t1 : a.tmod n = p := by rw [Int.tmod_eq_emod_of_nonneg (by omega), e]
    have t2 : IntKind.i64.wrap (a.tmod n) = p := by rw [t1]; exact wrap_i (by omega) (by omega)
    have w6 : wrap64 p = p := w64_in (by omega) (by omega)
    clear hpe HP hp e
    go_enter Tryd.func10, Tryd.ntmps10
    go_wp2
    go_ret
    exact ⟨rfl, rfl⟩
end Go.Proofs.YtahoeodpjdbdkabDoor
