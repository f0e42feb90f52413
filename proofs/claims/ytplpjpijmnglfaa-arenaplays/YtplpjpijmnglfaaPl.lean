import Derived.Test.YtplpjpijmnglfaaOa
namespace Go.Proofs.Ytplpjpijmnglfaa
open Go.RowKit

/-- A World in which nothing stands. -/
def s0 : Wo := ⟨fun _ => 0, fun _ => 0, fun _ _ => .slice none 0 0, fun _ _ => obj 0 (.cells #[] 0 (0, 0)), fun _ => .slice none 0 0⟩
theorem at0 {W w : World} {A : Nat} (hk : Kept [] W w) (hb : w.heap[A]? = some (.cells #[.slice none 0 0, .slice none 0 0, .slice none 0 0, .slice none 0 0, .slice none 0 0] 31 (0, 0))) (hA : W.heap.size ≤ A) : At W w A s0 := by
  have hF : ∀ j, s0.D j → j ≠ (6, 0) → (s0.R A j).F = [] := by
    rintro ⟨a, b⟩ (⟨h1, h2⟩ | ⟨h1, h2⟩ | ⟨h1, h2⟩) hne
    · simp [s0] at h2
    · simp at h1; subst h1; rfl
    · simp at h1 h2; subst h1; subst h2; exact absurd rfl hne
  refine ⟨hk, fun j hj => ?_, fun j hj x hx => ?_, fun i j hi hj hij x hx hx2 => ?_⟩
  · obtain ⟨a, b⟩ := j
    rcases hj with ⟨h1, h2⟩ | ⟨h1, h2⟩ | ⟨h1, h2⟩
    · simp [s0] at h2
    · simp at h1; subst h1; exact World.ownsRow_nil _ _ _ _
    · simp at h1 h2; subst h1; subst h2; exact hb
  · by_cases e : j = (6, 0)
    · subst e
      have : x = A := by simpa [Wo.R, obj] using hx
      rw [this]; exact hA
    · rw [hF j hj e] at hx; simp at hx
  · by_cases e : i = (6, 0)
    · by_cases e2 : j = (6, 0)
      · exact hij (e.trans e2.symm)
      · rw [hF j hj e2] at hx2; simp at hx2
    · rw [hF i hi e] at hx; simp at hx
theorem wk0 (b : Nat) : Wk s0 b := ⟨fun _ => rfl, rfl, rfl, Nat.zero_le _, Nat.zero_le _, Nat.zero_le _, fun i hi => by simp [s0] at hi, fun i hi => by simp [s0] at hi, fun i hi => by simp [s0] at hi⟩

set_option maxHeartbeats 8000000 in
set_option maxRecDepth 100000 in
theorem plays_law (most : Int) (sa : Option Addr) (N cap : Nat) (f : Nat → Ent) (w : World) (m0 : -9223372036854775808 ≤ most) (m1 : most ≤ 9223372036854775807) (O : Ops w sa N f) :
    Calls Try.prog 3 #[.int .i64 most, .slice sa N cap] w fun e w' => e = .returned (.bool true) ∧ Kept [] w w' := by
  have C1 := Hid.mk (fun w => pick_any most 1048576 w m0 m1 (by omega))
  have x0 := pick_lo most 1048576 (by omega)
  have x1 := pick_hi most 1048576 (by omega)
  generalize pick most 1048576 = m at *
  have HO := Hid.mk O
  have hN := O.len
  clear m0 m1 O
  go_enter Try.func3, Try.ntmps3
  go_wp2_with (fail)
  refine (awake_any w).mono ?_
  rintro e w1 ⟨rfl, k1⟩
  have HK1 := Hid.mk k1
  clear k1
  go_wp2_with (fail)
  obtain ⟨w2, hw2, k2, hb2⟩ : ∃ w2, w1.alloc (.cells #[.slice none 0 0, .slice none 0 0, .slice none 0 0, .slice none 0 0, .slice none 0 0] 31 (0, 0)) = w2 ∧ Kept [] w1 w2 ∧ w2.heap[w1.heap.size]? = some (.cells #[.slice none 0 0, .slice none 0 0, .slice none 0 0, .slice none 0 0, .slice none 0 0] 31 (0, 0)) := ⟨_, rfl, alloc_kept _ _, heap_alloc_new _ _⟩
  rw [hw2]
  have HA := Hid.mk (at0 (HK1.out.trans k2) hb2 HK1.out.size)
  clear hw2 k2 hb2
  generalize w1.heap.size = A at *
  refine (C1.out _).mono ?_
  rintro e w2' ⟨rfl, hw⟩
  obtain rfl := hw.symm
  go_wp2_with (fail)
  refine (step_any w w2 A 1 0 m s0 0 HA.out (wk0 0) (.inr ⟨rfl, by omega, by omega⟩) (by omega) (by omega) (by omega) (by omega) (by omega)).mono ?_
  rintro e w3 ⟨rfl, s1, A1, W1, P1⟩
  have HS : Hid (∃ s1, At w w3 A s1 ∧ Wk s1 1 ∧ 0 < s1.c 0) := Hid.mk ⟨s1, A1, W1, P1⟩
  clear A1 W1 P1 HA C1 x0 x1
  go_wp2
  go_loopw [8] (fun i wr => ∃ (k : Nat) (s1 : Wo), k ≤ N ∧ i = .int .i64 (k : Int) ∧ At w wr A s1 ∧ Wk s1 (k + 1) ∧ 0 < s1.c 0) (fun i _ => N - (intOf i).toNat)
  case atStart =>
    obtain ⟨s1, A1, W1, P1⟩ := HS.out
    exact ⟨0, s1, by omega, rfl, A1, W1, P1⟩
  case round =>
    obtain ⟨k, s1, hk, rfl, A1, W1, P1⟩ := hrel
    by_cases hlt : k < N
    · obtain ⟨b, off, rfl, hc⟩ := HO.out.lies (by omega)
      obtain ⟨d0, d1, d2⟩ := (hc k hlt).keep A1.old
      have HQ := Hid.mk (HO.out.ok k hlt)
      have ix : (k : Int) < (N : Int) := by omega
      have HA1 := Hid.mk A1
      have HW1 := Hid.mk W1
      have HP1 := Hid.mk P1
      clear hc A1 W1 P1
      generalize f k = q at *
      obtain ⟨kd, on, n⟩ := q
      dsimp only at *
      go_wp2_with (fail)
      refine (step_any w wr A kd on n s1 (k + 1) HA1.out HW1.out (.inl HP1.out) (by omega) HQ.out.on.1 HQ.out.on.2 HQ.out.n.1 HQ.out.n.2).mono ?_
      rintro e w4 ⟨rfl, s2, A2, W2, P2⟩
      have HA2 := Hid.mk A2
      have HW2 := Hid.mk W2
      have HP2 := Hid.mk P2
      clear A2 W2 P2 d0 d1 d2
      go_wp2_with (fail)
      refine (same_any w w4 A s2 (k + 1 + 1) HA2.out HW2.out (by omega)).mono ?_
      rintro e w5 ⟨rfl, A5⟩
      have HA5 := Hid.mk A5
      clear A5
      go_wp2
      go_roundw
      case rel => exact ⟨k + 1, s2, by omega, by go_num, HA5.out, HW2.out, HP2.out⟩
      case measure => simp [intOf]; omega
    · have HA1 := Hid.mk A1
      have HW1 := Hid.mk W1
      clear A1 W1
      go_wp2_with (fail)
      refine (ends_any w wr A s1 (k + 1) HA1.out HW1.out (by omega)).mono ?_
      rintro e w5 ⟨rfl, hk5⟩
      go_wp2
      go_ret
      exact ⟨rfl, hk5⟩
end Go.Proofs.Ytplpjpijmnglfaa
