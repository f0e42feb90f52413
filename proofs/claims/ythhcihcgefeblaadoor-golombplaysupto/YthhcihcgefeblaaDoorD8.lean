import Derived.Test.YthhcihcgefeblaaDoorD7
import Derived.Test.YthhcihcgefeblaaDoorFo
namespace Go.Proofs.YthhcihcgefeblaaDoor
open Go.RowKit

/-- The document's coder. -/
def RefX (w : World) (X r : Nat) : Prop := w.heap[X]? = some (.cells #[.int .i64 (r : Int)] 105 (0, 0)) ∧ r ≤ 22

set_option maxHeartbeats 400000 in
theorem refNewRuns_any (w : World) :
    Calls Tryd.prog 35 #[] w fun e w' => e = .returned (.pointer (some ⟨w.heap.size, 0, none⟩)) ∧ w' = w.alloc (.cells #[.int .i64 0] 105) := by
  go_enter Tryd.func35, Tryd.ntmps35
  go_wp2
  go_ret
  exact ⟨rfl, rfl⟩

set_option maxHeartbeats 400000 in
theorem refRate_any (X r : Nat) (w : World) (hx : RefX w X r) :
    Calls Tryd.prog 51 #[.pointer (some ⟨X, 0, none⟩)] w fun e w' => e = .returned (.int .i64 (r : Int)) ∧ w' = w := by
  obtain ⟨c0, f0⟩ := cells_one hx.1
  go_enter Tryd.func51, Tryd.ntmps51
  go_wp2
  go_ret
  exact ⟨rfl, rfl⟩

/-- Fold and Unfold, at what they don't take. -/
def foldE (e : Int) : Prop := e < -1073741824 ∨ 1073741823 < e

set_option maxHeartbeats 1000000 in
theorem fold_no (e : Int) (w : World) (h : foldE e) :
    Calls Tryd.prog 16 #[.int .i64 e] w fun r w' => r = .returned (.tuple #[.int .i64 0, .int .i64 22]) ∧ w' = w := by
  rcases h with h | h
  · go_enter Tryd.func16, Tryd.ntmps16
    go_wp2
    go_ret2
    exact ⟨rfl, rfl⟩
  · have t1 : decide (e < -1073741824) = false := by simp; omega
    go_enter Tryd.func16, Tryd.ntmps16
    go_wp2
    go_ret2
    exact ⟨rfl, rfl⟩

set_option maxHeartbeats 1000000 in
theorem refFold_no (e : Int) (w : World) (h : foldE e) :
    Calls Tryd.prog 36 #[.int .i64 e] w fun r w' => r = .returned (.tuple #[.int .i64 0, .int .i64 22]) ∧ w' = w := by
  rcases h with h | h
  · go_enter Tryd.func36, Tryd.ntmps36
    go_wp2
    go_ret2
    exact ⟨rfl, rfl⟩
  · have t1 : decide (e < -1073741824) = false := by simp; omega
    go_enter Tryd.func36, Tryd.ntmps36
    go_wp2
    go_ret2
    exact ⟨rfl, rfl⟩

set_option maxHeartbeats 1000000 in
theorem refFold_to (e a : Int) (w : World) (h0 : -1073741824 ≤ e) (h1 : e ≤ 1073741823) (ha : (0 ≤ e ∧ a = 2 * e) ∨ (e < 0 ∧ a = -2 * e - 1)) :
    Calls Tryd.prog 36 #[.int .i64 e] w fun r w' => r = .returned (.tuple #[.int .i64 a, .int .i64 0]) ∧ w' = w := by
  have t1 : decide (e < -1073741824) = false := by simp; omega
  rcases ha with ⟨h, rfl⟩ | ⟨h, rfl⟩
  · go_enter Tryd.func36, Tryd.ntmps36
    go_wp2
    go_ret2
    exact ⟨rfl, rfl⟩
  · go_enter Tryd.func36, Tryd.ntmps36
    go_wp2
    go_ret2
    exact ⟨rfl, rfl⟩

def unfoldE (v : Int) : Prop := v < 0 ∨ 2147483647 < v

set_option maxHeartbeats 1000000 in
theorem unfold_no (v : Int) (w : World) (h : unfoldE v) :
    Calls Tryd.prog 17 #[.int .i64 v] w fun r w' => r = .returned (.tuple #[.int .i64 0, .int .i64 22]) ∧ w' = w := by
  rcases h with h | h
  · go_enter Tryd.func17, Tryd.ntmps17
    go_wp2
    go_ret2
    exact ⟨rfl, rfl⟩
  · have t1 : decide (v < 0) = false := by simp; omega
    go_enter Tryd.func17, Tryd.ntmps17
    go_wp2
    go_ret2
    exact ⟨rfl, rfl⟩

set_option maxHeartbeats 1000000 in
theorem refUnfold_no (v : Int) (w : World) (h : unfoldE v) :
    Calls Tryd.prog 37 #[.int .i64 v] w fun r w' => r = .returned (.tuple #[.int .i64 0, .int .i64 22]) ∧ w' = w := by
  rcases h with h | h
  · go_enter Tryd.func37, Tryd.ntmps37
    go_wp2
    go_ret2
    exact ⟨rfl, rfl⟩
  · have t1 : decide (v < 0) = false := by simp; omega
    go_enter Tryd.func37, Tryd.ntmps37
    go_wp2
    go_ret2
    exact ⟨rfl, rfl⟩

set_option maxHeartbeats 1000000 in
theorem refUnfold_to (v n : Int) (w : World) (h0 : 0 ≤ v) (h1 : v ≤ 2147483647) (hn : (v % 2 = 0 ∧ n = v / 2) ∨ (v % 2 = 1 ∧ n = -(v / 2) - 1)) :
    Calls Tryd.prog 37 #[.int .i64 v] w fun r w' => r = .returned (.tuple #[.int .i64 n, .int .i64 0]) ∧ w' = w := by
  have t1 : decide (v < 0) = false := by simp; omega
  rcases hn with ⟨h, rfl⟩ | ⟨h, hn⟩
  · go_enter Tryd.func37, Tryd.ntmps37
    go_wp2
    go_ret2
    exact ⟨rfl, rfl⟩
  · have Hn : Hid (n = -((v + 1) / 2)) := by rw [hn]; exact Hid.mk (by omega)
    clear hn
    go_enter Tryd.func37, Tryd.ntmps37
    go_wp2
    go_ret2
    exact ⟨by rw [Hn.out]; rfl, rfl⟩

/-- Both sides' Fold. -/
theorem fold_both (e : Int) : ∃ a E : Int, (∀ w, Calls Tryd.prog 16 #[.int .i64 e] w fun r w' => r = .returned (.tuple #[.int .i64 a, .int .i64 E]) ∧ w' = w) ∧ (∀ w, Calls Tryd.prog 36 #[.int .i64 e] w fun r w' => r = .returned (.tuple #[.int .i64 a, .int .i64 E]) ∧ w' = w) := by
  by_cases h : foldE e
  · exact ⟨0, 22, fun w => fold_no e w h, fun w => refFold_no e w h⟩
  · unfold foldE at h
    by_cases h0 : 0 ≤ e
    · exact ⟨2 * e, 0, fun w => fold_to e _ w (by omega) (by omega) (by omega), fun w => refFold_to e _ w (by omega) (by omega) (by omega)⟩
    · exact ⟨-2 * e - 1, 0, fun w => fold_to e _ w (by omega) (by omega) (by omega), fun w => refFold_to e _ w (by omega) (by omega) (by omega)⟩

theorem unfold_both (v : Int) : ∃ n E : Int, (∀ w, Calls Tryd.prog 17 #[.int .i64 v] w fun r w' => r = .returned (.tuple #[.int .i64 n, .int .i64 E]) ∧ w' = w) ∧ (∀ w, Calls Tryd.prog 37 #[.int .i64 v] w fun r w' => r = .returned (.tuple #[.int .i64 n, .int .i64 E]) ∧ w' = w) := by
  by_cases h : unfoldE v
  · exact ⟨0, 22, fun w => unfold_no v w h, fun w => refUnfold_no v w h⟩
  · unfold unfoldE at h
    rcases Int.emod_two_eq v with h2 | h2
    · exact ⟨v / 2, 0, fun w => unfold_to v _ w (by omega) (by omega) (by omega), fun w => refUnfold_to v _ w (by omega) (by omega) (by omega)⟩
    · exact ⟨-(v / 2) - 1, 0, fun w => unfold_to v _ w (by omega) (by omega) (by omega), fun w => refUnfold_to v _ w (by omega) (by omega) (by omega)⟩

/-- Both sides' Cost. -/
theorem cost_both (v k wide : Int) : ∃ c E : Int, (∀ w, Calls Tryd.prog 20 #[.int .i64 v, .int .i64 k, .int .i64 wide] w fun e w' => e = .returned (.tuple #[.int .i64 c, .int .i64 E]) ∧ w' = w) ∧
    (∀ w, Calls Tryd.prog 38 #[.int .i64 v, .int .i64 k, .int .i64 wide] w fun e w' => e = .returned (.tuple #[.int .i64 c, .int .i64 E]) ∧ Kept [] w w') := by
  by_cases hk : Okp k wide
  · by_cases hv : v < 0 ∨ (0 ≤ v ∧ ((2 ^ wide.toNat : Nat) : Int) ≤ v)
    · refine ⟨0, 22, fun w => cost_err v k wide 22 w (by decide) (fun w => check_value v k wide w hk hv), fun w => (costD_value v k wide w hk hv).mono ?_⟩
      rintro e w' ⟨rfl, rfl⟩
      exact ⟨rfl, Kept.refl _ _⟩
    · have hv0 : 0 ≤ v := by omega
      have hv1 : v.toNat < 2 ^ wide.toNat := by omega
      exact ⟨_, 0, fun w => cost_any v k wide _ w hk.1 hk.2.1 hk.2.2.1 hk.2.2.2 hv0 hv1 rfl, fun w => costD_any v k wide _ w hk hv0 hv1 rfl⟩
  · refine ⟨0, 21, fun w => cost_err v k wide 21 w (by decide) (fun w => check_param v k wide w hk), fun w => (costD_param v k wide w hk).mono ?_⟩
    rintro e w' ⟨rfl, rfl⟩
    exact ⟨rfl, Kept.refl _ _⟩

/-- Both sides' Put. -/
theorem gput_both (N len : Nat) (v k wide : Int) (hl : len ≤ 1000000000) : ∃ (E : Int) (N' len' : Nat), len' ≤ len + 40 ∧
    (∀ (B : Nat) (V : Value) (w : World), WriterAt w B V N len → Calls Tryd.prog 21 #[.pointer (some ⟨B, 0, none⟩), .int .i64 v, .int .i64 k, .int .i64 wide] w fun e w' => e = .returned (.int .i64 E) ∧ ∃ V', WriterAt w' B V' N' len' ∧ Kept (B :: V.ownBlock.toList) w w' ∧ Lies w V V') ∧
    (∀ (B : Nat) (V : Value) (w : World), RefW w B V (bin len N) → Calls Tryd.prog 39 #[.pointer (some ⟨B, 0, none⟩), .int .i64 v, .int .i64 k, .int .i64 wide] w fun e w' => e = .returned (.int .i64 E) ∧ ∃ V', RefW w' B V' (bin len' N') ∧ Kept (B :: V.ownBlock.toList) w w' ∧ Lies w V V') := by
  by_cases hk : Okp k wide
  · by_cases hv : v < 0 ∨ (0 ≤ v ∧ ((2 ^ wide.toNat : Nat) : Int) ≤ v)
    · refine ⟨22, N, len, by omega, fun B V w h => ?_, fun B V w h => ?_⟩
      · refine (gput_err B v k wide 22 w (by decide) (fun w => check_value v k wide w hk hv)).mono ?_
        rintro e w' ⟨rfl, rfl⟩
        exact ⟨rfl, V, h, Kept.refl _ _, Lies.refl _ _⟩
      · refine (putD_value B v k wide w hk hv).mono ?_
        rintro e w' ⟨rfl, rfl⟩
        exact ⟨rfl, V, h, Kept.refl _ _, Lies.refl _ _⟩
    · have hv0 : 0 ≤ v := by omega
      have hv1 : v.toNat < 2 ^ wide.toNat := by omega
      obtain ⟨k0, k1, w0, w1⟩ := hk
      have hc := gw_le v.toNat k.toNat wide.toNat (by omega) (by omega)
      exact ⟨0, _, len + gw v.toNat k.toNat wide.toNat, by omega, fun B V w h => gput_any B V N len v k wide w h k0 k1 w0 w1 hv0 hv1 (by omega), fun B V w h => putD_any B V N len v k wide w h k0 k1 w0 w1 hv0 hv1 (by omega)⟩
  · refine ⟨21, N, len, by omega, fun B V w h => ?_, fun B V w h => ?_⟩
    · refine (gput_err B v k wide 21 w (by decide) (fun w => check_param v k wide w hk)).mono ?_
      rintro e w' ⟨rfl, rfl⟩
      exact ⟨rfl, V, h, Kept.refl _ _, Lies.refl _ _⟩
    · refine (putD_param B v k wide w hk).mono ?_
      rintro e w' ⟨rfl, rfl⟩
      exact ⟨rfl, V, h, Kept.refl _ _, Lies.refl _ _⟩
end Go.Proofs.YthhcihcgefeblaaDoor
