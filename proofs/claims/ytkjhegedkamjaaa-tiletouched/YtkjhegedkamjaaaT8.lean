import Derived.Test.YtkjhegedkamjaaaRg
import Derived.Test.YtkjhegedkamjaaaT6
namespace Go.Proofs.Ytkjhegedkamjaaa
open Go.RowKit Go.Shelf
attribute [local go_sem] Oper.semAt_some

set_option maxHeartbeats 4000000 in
set_option maxRecDepth 1000000 in
/-- The slices of a rectangle, one by one. -/
theorem touch_iter (l0 b1 b2 b3 b4 P nr wd1 : Nat) (f l c wd : Int) (hc : 1 ≤ c) (hn : 1 ≤ nr) (hw : 1 ≤ wd1) (hwd : wd + 1 = wd1) (hwc : (wd1 : Int) ≤ c) (f0 : 0 ≤ f) (hl : l = f + ((nr : Int) - 1) * c + wd) (l1 : l ≤ 65536) (hc1 : c ≤ 256) (J : Nat → World → Prop)
    (hJF : ∀ k W, J k W → W.cell? ⟨b1, 0, none⟩ = some (.int .i64 f) ∧ W.cell? ⟨b2, 0, none⟩ = some (.int .i64 l) ∧ W.cell? ⟨b3, 0, none⟩ = some (.pointer (some ⟨P, 0, none⟩)) ∧ W.cell? ⟨b4, 0, none⟩ = some (.int .i64 wd) ∧ W.cell? ⟨P, 6, none⟩ = some (.int .i64 c))
    (hY : ∀ k W (i j : Nat), J k W → i < nr → j < wd1 → k = i * wd1 + j → YieldAt Fence.wide 0 Try.prog l0 #[.int .i64 (f + i * c + j)] W (fun e W' => e = .returned (.bool true) ∧ J (k + 1) W')) (W : World) (h0 : J 0 W) :
    CallsIn Fence.wide 0 Try.prog 44 #[.func (.yield l0) #[] #[], .pointer (some ⟨b1, 0, none⟩), .pointer (some ⟨b2, 0, none⟩), .pointer (some ⟨b3, 0, none⟩), .pointer (some ⟨b4, 0, none⟩)] W (fun e W' => (∃ v, e = .returned v) ∧ J (nr * wd1) W') := by
  refine callsIn_of_wp Try.func44 rfl trivial ?_ rfl
  simp only [Try.ntmps44, List.size_toArray, List.length_cons, List.length_nil, Nat.reduceAdd, Nat.reduceSub, Array.replicate_succ, Array.replicate_zero, List.push_toArray, List.append_toArray, List.nil_append, List.cons_append]
  obtain ⟨d1, d2, d3, d4, d5⟩ := hJF 0 W h0
  have HJ := Hid.mk hJF
  have HY := Hid.mk hY
  have HL := Hid.mk hl
  clear hJF hY hl
  gi_wp2
  gi_loopw [6] (fun x wr => ∃ i : Nat, i ≤ nr ∧ x = .int .i64 (f + i * c) ∧ J (i * wd1) wr) (fun x _ => (l + 1 + 65536 - intOf x).toNat)
  case atStart => exact ⟨0, by omega, by simp, by simpa using h0⟩
  case round =>
    obtain ⟨i, hi, rfl, hJ⟩ := hrel
    clear d1 d2 d3 d4 d5
    obtain ⟨d1, d2, d3, d4, d5⟩ := HJ.out _ _ hJ
    have mi : 0 ≤ (i : Int) * c := Int.mul_nonneg (by omega) (by omega)
    by_cases hlt : i < nr
    · have ml : (i : Int) * c ≤ ((nr : Int) - 1) * c := Int.mul_le_mul_of_nonneg_right (by omega) (by omega)
      obtain ⟨x, ex⟩ : ∃ x, x = f + i * c := ⟨_, rfl⟩
      have hx : x ≤ l := by have := HL.out; omega
      have x0 : 0 ≤ x := by omega
      rw [← ex]
      have EX := Hid.mk ex
      clear ex ml mi
      gi_wp2
      gi_loopw [7] (fun y wr => ∃ j : Nat, j ≤ wd1 ∧ y = .int .i64 (x + j) ∧ J (i * wd1 + j) wr) (fun y _ => (x + wd + 1 - intOf y).toNat)
      case atStart => exact ⟨0, by omega, by simp, by simpa using hJ⟩
      case round =>
        obtain ⟨j, hj, rfl, hJ2⟩ := hrel
        clear d1 d2 d3 d4 d5
        obtain ⟨d1, d2, d3, d4, d5⟩ := HJ.out _ _ hJ2
        by_cases hjl : j < wd1
        · obtain ⟨fn, tmps, assign, body, hy, hR⟩ := HY.out _ _ i j hJ2 hlt hjl rfl
          rw [← EX.out] at hy
          obtain ⟨y, ey⟩ : ∃ y, y = x + (j : Int) := ⟨_, rfl⟩
          rw [← ey] at hy ⊢
          have hy1 : y ≤ x + wd := by omega
          have hy2 : y ≤ 131072 := by omega
          have hy0 : 0 ≤ y := by omega
          have EY := Hid.mk ey
          clear ey
          gi_wp2
          refine ⟨rfl, hR.mono ?_⟩
          rintro e W3 ⟨rfl, hJ3⟩
          gi_wp2
          go_roundw
          case rel => exact ⟨j + 1, by omega, by rw [EY.out]; congr 1; push_cast; omega, hJ3⟩
          case measure => first | (simp [intOf]; done) | (simp [intOf]; omega)
        · obtain rfl : wd1 = j := by omega
          have hy1 : x + wd < x + (wd1 : Int) := by omega
          gi_wp2
          go_roundw
          case rel => exact ⟨i + 1, by omega, by rw [EX.out]; congr 1; push_cast; rw [Int.add_mul]; omega, by rw [Nat.add_mul, Nat.one_mul]; exact hJ2⟩
          case measure => first | (simp [intOf]; done) | (simp [intOf]; omega)
    · obtain rfl : nr = i := by omega
      have hgt : l < f + (nr : Int) * c := by
        have := HL.out
        have h2 : ((nr : Int) - 1) * c = nr * c - c := by rw [Int.sub_mul, Int.one_mul]
        omega
      gi_wp2
      go_end0
      exact ⟨⟨_, rfl⟩, hJ⟩
end Go.Proofs.Ytkjhegedkamjaaa
