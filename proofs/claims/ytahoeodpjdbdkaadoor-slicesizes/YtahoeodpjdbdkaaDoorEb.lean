import Derived.Test.YtahoeodpjdbdkaaDoorEa
namespace Go.Proofs.YtahoeodpjdbdkaaDoor
open Go.RowKit

/-- The greatest of the first samples. -/
def mxf (f : Nat → Int) : Nat → Int
  | 0 => f 0
  | k + 1 => max (mxf f k) (f (k + 1))
theorem mxf_le (f : Nat → Int) (T : Int) (k : Nat) (h : ∀ i, i ≤ k → f i ≤ T) : mxf f k ≤ T := by
  induction k with
  | zero => exact h 0 (by omega)
  | succ k ih => have := ih (fun i hi => h i (by omega)); have := h (k + 1) (by omega); unfold mxf; omega
theorem mxf_ge (f : Nat → Int) (k : Nat) : ∀ i, i ≤ k → f i ≤ mxf f k := by
  induction k with
  | zero => intro i hi; obtain rfl : i = 0 := by omega
            exact Int.le_refl _
  | succ k ih => intro i hi; unfold mxf; by_cases e : i = k + 1
                 · subst e; omega
                 · have := ih i (by omega); omega

set_option maxHeartbeats 2000000 in
set_option maxRecDepth 100000 in
theorem max_any (sb so n sc : Nat) (f : Nat → Int) (w : World) (hs : Smp w sb so n f) (h1 : 1 ≤ n) (hn : n ≤ 4194304) :
    Calls Tryd.prog 41 #[.slice (some ⟨sb, so, none⟩) n sc] w fun e w' => e = .returned (.int .u16 (mxf f (n - 1))) ∧ w' = w := by
  have z0 := hs 0 (by omega)
  have z0 : w.cell? ⟨sb, so, none⟩ = some (.int .u16 (f 0)) := z0
  have ix : (0 : Int) < n := by omega
  have i1 : ¬ (n : Int) < 1 := by omega
  have HS := Hid.mk hs
  clear hs
  go_enter Tryd.func41, Tryd.ntmps41
  go_wp2
  go_loop [3, 4] (fun m i => ∃ k : Nat, k < n ∧ i = .int .i64 ((k : Int) + 1) ∧ m = .int .u16 (mxf f k)) (fun _ i => n - (intOf i).toNat)
  case atStart => exact ⟨0, by omega, rfl, rfl⟩
  case round =>
    obtain ⟨k, hk, rfl, rfl⟩ := hrel
    by_cases hlt : k + 1 < n
    · have c := HS.out (k + 1) hlt
      have ix2 : (k : Int) + 1 < n := by omega
      obtain ⟨v, hv⟩ : ∃ v, f (k + 1) = v := ⟨_, rfl⟩
      rw [hv] at c
      have HV := Hid.mk hv
      obtain ⟨m, hm⟩ : ∃ m, mxf f k = m := ⟨_, rfl⟩
      have HM := Hid.mk hm
      rw [hm]
      clear hv hm
      go_wp2
      go_round
      case rel => exact ⟨k + 1, by omega, by go_num, by show _ = Value.int .u16 (max (mxf f k) (f (k + 1))); rw [HM.out, HV.out]⟩
      case measure => simp [intOf]; omega
    · have ix2 : ¬ (k : Int) + 1 < n := by omega
      go_wp2
      go_ret
      refine ⟨?_, rfl⟩
      rw [show n - 1 = k by omega]; rfl
theorem hi_zero {D T v : Int} (h : Dp D T) (h0 : 0 ≤ v) (h1 : v ≤ T) : (v / 2 ^ D.toNat == 0) = true := by
  rcases h with ⟨rfl, rfl⟩ | ⟨rfl, rfl⟩
  · rw [show Int.toNat 10 = 10 from rfl]; simp; omega
  · rw [show Int.toNat 12 = 12 from rfl]; simp; omega
theorem hi_some {D T v : Int} (h : Dp D T) (h1 : T < v) : (v / 2 ^ D.toNat == 0) = false := by
  rcases h with ⟨rfl, rfl⟩ | ⟨rfl, rfl⟩
  · rw [show Int.toNat 10 = 10 from rfl]; simp; omega
  · rw [show Int.toNat 12 = 12 from rfl]; simp; omega

theorem agg3' {w : World} {Q t : Nat} {a b c : Value} (h : w.heap[Q]? = some (.cells #[a, b, c] t (0, 0))) : w.cell? ⟨Q, 0, none⟩ = some a ∧ w.cell? ⟨Q, 1, none⟩ = some b ∧ w.cell? ⟨Q, 2, none⟩ = some c := by
  obtain ⟨h0, h1, h2, _⟩ := cells_three h
  exact ⟨h0, h1, h2⟩

set_option maxHeartbeats 2000000 in
set_option maxRecDepth 100000 in
/-- A block that may be. -/
theorem mayBe_yes (W H n sb so sc : Nat) (D T : Int) (f : Nat → Int) (w : World) (hs : Smp w sb so n f) (hz : szd (W : Int) (H : Int) = true) (hn : n = W * H) (hD : Dp D T) (hf : ∀ i, 0 ≤ f i ∧ f i ≤ T) :
    Calls Tryd.prog 24 #[.agg #[.int .i64 (W : Int), .int .i64 (H : Int), .slice (some ⟨sb, so, none⟩) n sc], .int .i64 D] w fun e w' => e = .returned (.bool true) ∧ Kept [] w w' := by
  have hb := szd_in hz
  have hc : (W : Int) * H = (n : Int) := by rw [hn]; simp
  rw [hc] at hb
  have hT : T ≤ 4095 := by rcases hD with ⟨_, h⟩ | ⟨_, h⟩ <;> omega
  have h1 : 1 ≤ n := by rw [hn]; exact Nat.mul_pos (by omega) (by omega)
  obtain ⟨w1, hw1, k1, b1⟩ := three_new w (.int .i64 (W : Int)) (.int .i64 (H : Int)) (.slice (some ⟨sb, so, none⟩) n sc) 29
  obtain ⟨Q, hQ⟩ : ∃ Q, w.heap.size = Q := ⟨_, rfl⟩
  rw [hQ] at b1
  obtain ⟨z0, z1, z2⟩ := agg3' b1
  have C1 := Hid.mk (fun W' => sized_any (W : Int) (H : Int) W')
  rw [hz] at C1
  have hm0 : 0 ≤ mxf f (n - 1) := Int.le_trans (hf 0).1 (mxf_ge f (n - 1) 0 (by omega))
  have hm1 : mxf f (n - 1) ≤ T := mxf_le f T (n - 1) (fun i _ => (hf i).2)
  have C2 := Hid.mk (max_any sb so n sc f w1 (hs.keep k1 (by simp)) h1 (by omega))
  generalize mxf f (n - 1) = m at *
  have hm2 := hi_zero hD hm0 hm1
  have hd := hD.mid
  have hx : wrap64 ((W : Int) * H) = (n : Int) := by rw [hc]; exact w64_in (by omega) (by omega)
  have K1 := Hid.mk k1
  clear hc hn b1 k1 hz hs hf hb hD
  go_enter Tryd.func24, Tryd.ntmps24
  go_wp2_with (first | (go_at_call 16; refine (C1.out _).mono ?_; rintro e w' ⟨rfl, hw⟩; obtain rfl := hw.symm) | (go_at_call 41; refine C2.out.mono ?_; rintro e w' ⟨rfl, hw⟩; obtain rfl := hw.symm))
  go_ret
  exact ⟨ret_bool (by first | exact hm2 | rfl), K1.out⟩
end Go.Proofs.YtahoeodpjdbdkaaDoor
