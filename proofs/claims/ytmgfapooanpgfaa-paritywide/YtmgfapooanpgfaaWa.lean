import Derived.Test.YtmgfapooanpgfaaPb
import Derived.Test.YtmgfapooanpgfaaPk
import Derived.Test.YtmgfapooanpgfaaG4
namespace Go.Proofs.Ytmgfapooanpgfaa
open Go.RowKit

/-- The numbers that a wide row goes by. -/
def wn (s : Int) : Nat → Int
  | 0 => s % 4294967296
  | k + 1 => (1664525 * wn s k + 1013904223) % 4294967296
theorem wn_lo (s : Int) (k : Nat) : 0 ≤ wn s k := by
  cases k <;> (simp only [wn]; omega)
theorem wn_hi (s : Int) (k : Nat) : wn s k < 4294967296 := by
  cases k <;> (simp only [wn]; omega)
/-- Its bytes. -/
def wb (s : Int) (k : Nat) : Nat := (wn s (k + 1) / 16777216).toNat
theorem wb_lt (s : Int) (k : Nat) : wb s k < 256 := by have := wn_lo s (k + 1); have := wn_hi s (k + 1); unfold wb; omega
theorem wb_is (s : Int) (k : Nat) : wn s (k + 1) / 16777216 = (wb s k : Int) := by have := wn_lo s (k + 1); unfold wb; omega
/-- How long it is. -/
def wl (m : Int) : Nat := (pick m 70001).toNat
theorem wl_le (m : Int) : wl m ≤ 70000 := by have := pick_lo m 70001 (by omega); have := pick_hi m 70001 (by omega); unfold wl; omega
theorem wl_is (m : Int) : pick m 70001 = (wl m : Int) := by have := pick_lo m 70001 (by omega); unfold wl; omega

set_option maxHeartbeats 4000000 in
set_option maxRecDepth 1000000 in
theorem wrow_any (m s : Int) (w : World) (h0 : -9223372036854775808 ≤ m) (h1 : m ≤ 9223372036854775807) :
    Calls Try.prog 15 #[.agg #[.int .i64 m, .int .i64 s]] w fun e w' => ∃ g, e = .returned (.slice (some ⟨g, 0, none⟩) (wl m) (wl m)) ∧ Row w' g (rg (wb s) (wl m)) ∧ w.heap.size ≤ g ∧ Kept [] w w' := by
  obtain ⟨i0, hi, hz0, hz1, hz2⟩ := info_parts Try.info5
  have C := Hid.mk (fun w => pick_any m 70001 w h0 h1 (by omega))
  rw [wl_is] at C
  have hN := wl_le m
  have HMK : Hid (∀ N w1 w3, w3.ownsRow 0 5 1 (.slice (some ⟨w1.heap.size, 0, none⟩) N N) N (madeCells (Value.int .u8 0).cells (N * 1)).toList → w1.grownBy w3 none → Row w3 w1.heap.size (rg (fun _ => 0) N) ∧ Kept [] w1 w3) := Hid.mk (fun N w1 w3 ho3 hg3 => by
    have hk3 := Kept.of_grown hg3
    have hr3 := row_heap ho3 rfl
    rw [madeBytes, show List.replicate N (byt 0) = (rg (fun _ => 0) N).map byt from rg_none _] at hr3
    exact ⟨hr3, hk3.mono (by simp)⟩)
  generalize wl m = N at *
  clear h0 h1
  go_enter Try.func15, Try.ntmps15
  go_wp2_with (fail)
  obtain ⟨w1, hw1, k1, hb1⟩ : ∃ w1, w.alloc (.cells #[.int .i64 m, .int .i64 s] 46 (0, 0)) = w1 ∧ Kept [] w w1 ∧ w1.heap[w.heap.size]? = some (.cells #[.int .i64 m, .int .i64 s] 46 (0, 0)) := ⟨_, rfl, (Kept.refl [] w).alloc _, heap_alloc_new _ _⟩
  rw [hw1]
  clear hw1
  refine (C.out w1).mono ?_
  rintro e w2 ⟨rfl, hw2⟩
  obtain rfl := hw2.symm
  go_upto_region 2 with (at_make; refine wpList_make_full _ rfl _ _ 40 rfl 0 5 i0 (.int .u8 0) 1 Try.underlying40 hi hz0 hz1 _ _ _ _ N rfl rfl (by omega) (by omega) (by rw [hz2]; omega) (by unfold maxLen; omega) (by omega) ?_; intro w3 ho3 hg3; obtain ⟨hr3, hk3⟩ := HMK.out _ _ _ ho3 hg3; clear ho3 hg3)
  have q1 : w3.cell? ⟨w.heap.size, 1, none⟩ = some (.int .i64 s) := by
    rw [cell_of_row _ _ _ _ _ _ (hk3.heap hb1 (by simp))]; rfl
  have HR := Hid.mk hr3
  have HK : Hid (Kept [] w w3) := Hid.mk (k1.trans hk3)
  have HG : Hid (w.heap.size ≤ w1.heap.size) := Hid.mk k1.size
  generalize w1.heap.size = g at *
  clear hr3 hk3 k1 hb1 C HMK
  have e0 : IntKind.u32.wrap s = wn s 0 := by simp only [wn, IntKind.wrap, IntKind.bits, IntKind.signed]; simp
  go_wp2
  go_loopw [4, 5] (fun n i wr => ∃ k : Nat, k ≤ N ∧ i = .int .i64 (k : Int) ∧ n = .int .u32 (wn s k) ∧ Row wr g (rg (upt k (fun _ => 0) (wb s)) N) ∧ Kept [] w wr) (fun _ i _ => N - (intOf i).toNat)
  case atStart => exact ⟨0, by omega, rfl, rfl, by rw [upt_zero]; exact HR.out, HK.out⟩
  case round =>
    obtain ⟨k, hk, rfl, rfl, hr, hkr⟩ := hrel
    have HRk := Hid.mk hr
    have HKr := Hid.mk hkr
    clear e0
    by_cases hlt : k < N
    · have c0 := hr.at (j := k) (by rw [rg_length]; exact hlt)
      have f0 := hr.fz k
      have ix : (k : Int) < (N : Int) := by omega
      have HE : Hid ((1664525 * wn s k % 4294967296 + 1013904223) % 4294967296 = wn s (k + 1)) := Hid.mk (by show _ = (1664525 * wn s k + 1013904223) % 4294967296; omega)
      have HB : Hid ((1664525 * wn s k + 1013904223) % 4294967296 / 16777216 = (wb s k : Int)) := Hid.mk (wb_is s k)
      have HS : Hid (∀ v, v = byt (wb s k) → Row (wr.setCell ⟨g, k, none⟩ v) g (rg (upt (k + 1) (fun _ => 0) (wb s)) N)) := Hid.mk (fun v hv => hr.set hv)
      have HKS : Hid (∀ v, Kept [] w (wr.setCell ⟨g, k, none⟩ v)) := Hid.mk (fun v => hkr.setCell (p := ⟨g, k, none⟩) (.inr HG.out) v)
      clear hr hkr
      go_wp2
      exact ⟨⟨k + 1, by omega, by go_num, by rw [HE.out], HS.out _ (by rw [HB.out]; rfl), HKS.out _⟩, by simp [intOf]; omega⟩
    · obtain rfl : k = N := by omega
      rw [upt_full] at HRk
      clear hr
      go_wp2
      go_ret
      exact ⟨g, rfl, HRk.out, HG.out, HKr.out⟩
end Go.Proofs.Ytmgfapooanpgfaa
