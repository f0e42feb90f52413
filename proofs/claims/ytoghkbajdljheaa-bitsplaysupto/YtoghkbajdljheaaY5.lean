import Derived.Test.YtoghkbajdljheaaY4
namespace Go.Proofs.Ytoghkbajdljheaa
open Go.RowKit

/-- Put, on both sides. -/
theorem put_both (N len : Nat) (v n : Int) (v0 : 0 ≤ v) (v1 : v < 4294967296) (hl : len ≤ 1000000000) : ∃ (E : Int) (N' len' : Nat), len' ≤ len + 32 ∧
    (∀ (B : Nat) (V : Value) (w : World), WriterAt w B V N len → Calls Try.prog 23 #[.pointer (some ⟨B, 0, none⟩), .int .u32 v, .int .i64 n] w fun e w' => e = .returned (.int .i64 E) ∧ ∃ V', WriterAt w' B V' N' len' ∧ Kept (B :: V.ownBlock.toList) w w' ∧ Lies w V V') ∧
    (∀ (B : Nat) (V : Value) (w : World), RefW w B V (bin len N) → Calls Try.prog 47 #[.pointer (some ⟨B, 0, none⟩), .int .u32 v, .int .i64 n] w fun e w' => e = .returned (.int .i64 E) ∧ ∃ V', RefW w' B V' (bin len' N') ∧ Kept (B :: V.ownBlock.toList) w w' ∧ Lies w V V') := by
  by_cases hn : n < 0 ∨ 32 < n
  · refine ⟨11, N, len, by omega, fun B V w h => ?_, fun B V w h => ?_⟩
    · refine (put_width B v n w hn).mono ?_
      rintro e w' ⟨rfl, rfl⟩
      exact ⟨rfl, V, h, Kept.refl _ _, Lies.refl _ _⟩
    · refine (refPut_width B v n w hn).mono ?_
      rintro e w' ⟨rfl, rfl⟩
      exact ⟨rfl, V, h, Kept.refl _ _, Lies.refl _ _⟩
  · have n0 : 0 ≤ n := by omega
    have n1 : n ≤ 32 := by omega
    have hp := Nat.two_pow_pos n.toNat
    have hc : (2 : Int) ^ n.toNat = ((2 ^ n.toNat : Nat) : Int) := by simp
    by_cases hv : v.toNat < 2 ^ n.toNat
    · refine ⟨0, N * 2 ^ n.toNat + v.toNat, len + n.toNat, by omega, fun B V w h => ?_, fun B V w h => ?_⟩
      · exact put_any B V N len v n w h n0 n1 v0 hv (by omega)
      · refine (refPut_any B V _ v n _ w h n0 n1 v0 v1 rfl (by omega) (by rw [bin_length]; omega)).mono ?_
        rintro e w' ⟨rfl, V', h1, h2, h3⟩
        exact ⟨rfl, V', by rw [bin_put len n.toNat N v.toNat hv]; exact h1, h2, h3⟩
    · refine ⟨12, N, len, by omega, fun B V w h => ?_, fun B V w h => ?_⟩
      · have hq : (v / 2 ^ n.toNat == 0) = false := by
          rw [beq_eq_false_iff_ne, hc]
          intro e
          have h2 : 1 ≤ v / ((2 ^ n.toNat : Nat) : Int) := (Int.le_ediv_iff_mul_le (by omega)).2 (by omega)
          omega
        refine (put_value B v n w n0 n1 hq).mono ?_
        rintro e w' ⟨rfl, rfl⟩
        exact ⟨rfl, V, h, Kept.refl _ _, Lies.refl _ _⟩
      · refine (refPut_value B v n _ w n0 n1 v0 v1 rfl (by omega)).mono ?_
        rintro e w' ⟨rfl, rfl⟩
        exact ⟨rfl, V, h, Kept.refl _ _, Lies.refl _ _⟩

/-- Get, on both sides. -/
theorem get_both (l : List Nat) (t : Nat) (n : Int) (ht : t ≤ 8 * l.length) (hl : l.length ≤ 10000000) : ∃ (Y E : Int) (t' : Nat),
    (∀ (B g : Nat) (w : World), ReaderAt w B g l t → Calls Try.prog 28 #[.pointer (some ⟨B, 0, none⟩), .int .i64 n] w fun e w' => e = .returned (.tuple #[.int .u32 Y, .int .i64 E]) ∧ ReaderAt w' B g l t' ∧ Kept [B] w w') ∧
    (∀ (B : Nat) (V : Value) (w : World), RefR w B V l t → Calls Try.prog 34 #[.pointer (some ⟨B, 0, none⟩), .int .i64 n] w fun e w' => e = .returned (.tuple #[.int .u32 Y, .int .i64 E]) ∧ RefR w' B V l t' ∧ Kept [B] w w') := by
  by_cases hn : n < 0 ∨ 32 < n
  · refine ⟨0, 11, t, fun B g w h => ?_, fun B V w h => ?_⟩
    · refine (get_width B n w hn).mono ?_
      rintro e w' ⟨rfl, rfl⟩
      exact ⟨rfl, h, Kept.refl _ _⟩
    · refine (refGet_width B n w hn).mono ?_
      rintro e w' ⟨rfl, rfl⟩
      exact ⟨rfl, h, Kept.refl _ _⟩
  · obtain ⟨Y, E, t', h⟩ := getRes_ex l t n.toNat
    exact ⟨Y, E, t', fun B g w hw => get_res B g l t n Y E t' w hw (by omega) (by omega) h, fun B V w hw => refGet_res B V l t n Y E t' w hw ht (by omega) (by omega) (by omega) h⟩

set_option maxHeartbeats 1000000 in
theorem zeros_width (B : Nat) (n : Int) (w : World) (h : n < 0 ∨ 32 < n) :
    Calls Try.prog 30 #[.pointer (some ⟨B, 0, none⟩), .int .i64 n] w fun e w' => e = .returned (.tuple #[.int .i64 0, .int .i64 11]) ∧ w' = w := by
  rcases h with h | h
  · go_enter Try.func30, Try.ntmps30
    go_wp2
    go_ret2
    exact ⟨rfl, rfl⟩
  · have h' : decide (n < 0) = false := by simp; omega
    go_enter Try.func30, Try.ntmps30
    go_wp2
    go_ret2
    exact ⟨rfl, rfl⟩

/-- Zeros, on both sides. -/
theorem zeros_both (l : List Nat) (t : Nat) (n : Int) (ht : t ≤ 8 * l.length) (hl : l.length ≤ 10000000) : ∃ (Y E : Int) (t' : Nat),
    (∀ (B g : Nat) (w : World), ReaderAt w B g l t → Calls Try.prog 30 #[.pointer (some ⟨B, 0, none⟩), .int .i64 n] w fun e w' => e = .returned (.tuple #[.int .i64 Y, .int .i64 E]) ∧ ReaderAt w' B g l t' ∧ Kept [B] w w') ∧
    (∀ (B : Nat) (V : Value) (w : World), RefR w B V l t → Calls Try.prog 35 #[.pointer (some ⟨B, 0, none⟩), .int .i64 n] w fun e w' => e = .returned (.tuple #[.int .i64 Y, .int .i64 E]) ∧ RefR w' B V l t' ∧ Kept [B] w w') := by
  by_cases hn : n < 0 ∨ 32 < n
  · refine ⟨0, 11, t, fun B g w h => ?_, fun B V w h => ?_⟩
    · refine (zeros_width B n w hn).mono ?_
      rintro e w' ⟨rfl, rfl⟩
      exact ⟨rfl, h, Kept.refl _ _⟩
    · refine (refZeros_width B n w hn).mono ?_
      rintro e w' ⟨rfl, rfl⟩
      exact ⟨rfl, h, Kept.refl _ _⟩
  · obtain ⟨Y, E, t', h, h2⟩ := zeros_res l t n ht (by omega) (by omega)
    exact ⟨Y, E, t', h2, fun B V w hw => refZeros_any B V l t _ n Y E t' w hw rfl ht (by omega) (by omega) (by omega) h⟩

theorem rest_both (l : List Nat) (t : Nat) (ht : t ≤ 8 * l.length) (hl : l.length ≤ 10000000) : ∃ (E : Int),
    (∀ (B g : Nat) (w : World), ReaderAt w B g l t → Calls Try.prog 29 #[.pointer (some ⟨B, 0, none⟩)] w fun e w' => e = .returned (.int .i64 E) ∧ Kept [] w w') ∧
    (∀ (B : Nat) (V : Value) (w : World), RefR w B V l t → Calls Try.prog 37 #[.pointer (some ⟨B, 0, none⟩)] w fun e w' => e = .returned (.int .i64 E) ∧ Kept [] w w') := by
  obtain ⟨E, h⟩ := restRes_ex l t
  refine ⟨E, fun B g w hw => ?_, fun B V w hw => ?_⟩
  · refine (rest_res B g l t E w hw h).mono ?_
    rintro e w' ⟨rfl, q, rfl⟩
    exact ⟨rfl, (Kept.refl _ _).drewN q⟩
  · refine (refRest_res B V l t E w hw ht (by omega) h).mono ?_
    rintro e w' ⟨rfl, q, rfl⟩
    exact ⟨rfl, (Kept.refl _ _).drewN q⟩

/-- Len, on both sides. -/
theorem wlen_at (B : Nat) (V : Value) (N len : Nat) (D : Int) (w : World) (hw : WriterAt w B V N len) (hl : len ≤ 1000000000) (hD : D = (len : Int)) :
    Calls Try.prog 24 #[.pointer (some ⟨B, 0, none⟩)] w fun e w' => e = .returned (.int .i64 D) ∧ ∃ q, w' = w.drewN q := by
  subst hD
  exact len_any B V N len w hw (Nat.le_trans hl (by decide))

theorem refLen_at (B : Nat) (V : Value) (bs : List Nat) (D : Int) (w : World) (hw : RefW w B V bs) (hD : D = (bs.length : Int)) :
    Calls Try.prog 48 #[.pointer (some ⟨B, 0, none⟩)] w fun e w' => e = .returned (.int .i64 D) ∧ w' = w := by
  subst hD
  exact refLen_any B V bs w hw
end Go.Proofs.Ytoghkbajdljheaa
