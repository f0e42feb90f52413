import Derived.Test.YtlkbpimlofgflaaDoorxA
namespace Go.Proofs.YtlkbpimlofgflaaDoor
open Go.RowKit

set_option maxHeartbeats 400000 in
theorem number_any (ao : Option Addr) (cap : Nat) (l : List Nat) (w : World) (hr : Reads w ao l) (hb : Byts l) (h1 : 1 ≤ l.length) (hl : l.length ≤ 8) :
    Calls Tryd.prog 47 #[.slice ao l.length cap] w fun e w' => e = .returned (.tuple #[.int .u64 (num l : Int), .int .i64 0]) ∧ w' = w := by
  have t1 : decide ((l.length : Int) < 1) = false := by simp; omega
  have t2 : ¬ (8 : Int) < (l.length : Int) := by omega
  go_enter Tryd.func47, Tryd.ntmps47
  go_wp2_with (go_at_call 59; refine (joined_any _ _ _ _ hr hb hl).mono ?_; rintro e w' ⟨rfl, rfl⟩)
  go_ret2
  exact ⟨rfl, rfl⟩

set_option maxHeartbeats 400000 in
theorem number_width (ao : Option Addr) (cap n : Nat) (w : World) (h : n < 1 ∨ 8 < n) (hn : n ≤ 9223372036854775807) :
    Calls Tryd.prog 47 #[.slice ao n cap] w fun e w' => e = .returned (.tuple #[.int .u64 0, .int .i64 11]) ∧ w' = w := by
  rcases h with h | h
  · have t1 : (n : Int) < 1 := by omega
    go_enter Tryd.func47, Tryd.ntmps47
    go_wp2
    go_ret2
    exact ⟨rfl, rfl⟩
  · have t1 : decide ((n : Int) < 1) = false := by simp; omega
    have t2 : (8 : Int) < (n : Int) := by omega
    go_enter Tryd.func47, Tryd.ntmps47
    go_wp2
    go_ret2
    exact ⟨rfl, rfl⟩

set_option maxHeartbeats 1000000 in
theorem big_width (n b : Int) (w : World) (h : b < 1 ∨ 8 < b) :
    Calls Tryd.prog 44 #[.int .u64 n, .int .i64 b] w fun e w' => e = .returned (.tuple #[.slice none 0 0, .int .i64 11]) ∧ w' = w := by
  rcases h with h | h
  · go_enter Tryd.func44, Tryd.ntmps44
    go_wp2
    go_ret2
    exact ⟨rfl, rfl⟩
  · have h' : ¬ b < 1 := by omega
    go_enter Tryd.func44, Tryd.ntmps44
    go_wp2
    go_ret2
    exact ⟨rfl, rfl⟩

set_option maxHeartbeats 1000000 in
theorem big_value (n b : Int) (w : World) (h1 : 1 ≤ b) (h2 : b ≤ 8) (hv : (n / 2 ^ (8 * b).toNat == 0) = false) :
    Calls Tryd.prog 44 #[.int .u64 n, .int .i64 b] w fun e w' => e = .returned (.tuple #[.slice none 0 0, .int .i64 12]) ∧ w' = w := by
  have t1 : decide (b < 1) = false := by simp; omega
  go_enter Tryd.func44, Tryd.ntmps44
  go_wp2_with (go_at_call 57; refine (fits64_any _ _ _ (by omega) (by omega)).mono ?_; rintro e w' ⟨rfl, rfl⟩)
  go_ret2
  exact ⟨rfl, rfl⟩

set_option maxHeartbeats 1000000 in
set_option maxRecDepth 1000000 in
theorem big_any (n b : Int) (w : World) (h1 : 1 ≤ b) (h2 : b ≤ 8) (n0 : 0 ≤ n) (hv : (n / 2 ^ (8 * b).toNat == 0) = true) :
    Calls Tryd.prog 44 #[.int .u64 n, .int .i64 b] w fun e w' => ∃ g cap, e = .returned (.tuple #[.slice (some ⟨g, 0, none⟩) b.toNat cap, .int .i64 0]) ∧
      w.heap.size ≤ g ∧ w'.ownsRow 0 5 1 (.slice (some ⟨g, 0, none⟩) b.toNat cap) b.toNat ((big b.toNat n.toNat).map byt) ∧ Kept [] w w' := by
  have t1 : decide (b < 1) = false := by simp; omega
  obtain ⟨i0, hi, hz0, hz1, hz2⟩ := info_parts Tryd.info5
  go_enter Tryd.func44, Tryd.ntmps44
  go_wp2_with (first
    | (go_at_call 57; refine (fits64_any _ _ _ (by omega) (by omega)).mono ?_; rintro e w' ⟨rfl, rfl⟩)
    | (at_make; refine wpList_make_own _ rfl _ _ 44 rfl 0 5 i0 (.int .u8 0) 1 Tryd.underlying44 hi hz0 hz1 _ _ _ b.toNat rfl rfl (by omega) ?b2 ?b3 (by omega) ?_))
  case b2 => rw [hz2]; omega
  case b3 => unfold maxLen; omega
  intro w1 ho1 hg1
  go_wp2_with (go_at_call 58; refine (appendBig_any _ 0 [] _ _ _ ho1 (by omega) (by omega) (by omega) (by decide)).mono ?_; rintro e w2 ⟨v', rfl, ho2, hk2, hl2⟩)
  simp only [Nat.zero_add, List.nil_append] at ho2
  obtain ⟨g, cap, rfl⟩ := row_some ho2 (by omega)
  go_ret2
  have hk1 := Kept.of_grown hg1
  refine ⟨g, cap, rfl, ?_, ho2, hk1.step hk2 ?_⟩
  · rcases hl2 with h | ⟨g', h, hs⟩
    · simp [Value.ownBlock] at h; omega
    · simp [Value.ownBlock] at h; have := hk1.size; omega
  · intro x hx
    simp [Value.ownBlock] at hx
    exact .inr (by omega)
end Go.Proofs.YtlkbpimlofgflaaDoor
