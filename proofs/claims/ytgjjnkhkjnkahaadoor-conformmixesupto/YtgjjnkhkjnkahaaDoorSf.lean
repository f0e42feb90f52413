import Derived.Test.YtgjjnkhkjnkahaaDoorMc
import Derived.Test.YtgjjnkhkjnkahaaDoorB2
namespace Go.Proofs.YtgjjnkhkjnkahaaDoor
open Go.RowKit

set_option maxHeartbeats 4000000 in
set_option maxRecDepth 1000000 in
theorem pick_any (c n : Int) (w : World) (hc : -9223372036854775808 ≤ c ∧ c ≤ 9223372036854775807) (h1 : 1 ≤ n) (h2 : n ≤ 9223372036854775807) :
    Calls Tryd.prog 12 #[.int .i64 c, .int .i64 n] w fun e w' => e = .returned (.int .i64 (plc c n)) ∧ w' = w := by
  by_cases h0 : c < 0
  · have E : Hid (plc c n = (-(c + 1)) % n) := Hid.mk (by unfold plc; rw [if_pos h0])
    go_enter Tryd.func12, Tryd.ntmps12
    go_wp2
    go_ret
    refine ⟨ret_int ?_, rfl⟩
    rw [E.out, ← Int.tmod_eq_emod_of_nonneg (by omega), Int.neg_tmod]
  · have E : Hid (plc c n = c % n) := Hid.mk (by unfold plc; rw [if_neg h0])
    go_enter Tryd.func12, Tryd.ntmps12
    go_wp2
    go_ret
    exact ⟨ret_int E.out.symm, rfl⟩

set_option maxHeartbeats 8000000 in
set_option maxRecDepth 1000000 in
theorem same_yes (W H D : Int) (A : Bool) (po po2 : Option Addr) (n c c2 : Nat) (ln : Nat → Nat) (F G : Nat → Nat → Nat) (w : World) (hr : Pl w po n ln F) (hr2 : Pl w po2 n ln G) (hF : ∀ i, i < n → ∀ j, j < ln i → F i j = G i j) (hn : n ≤ 9223372036854775807) (hln : ∀ i, i < n → ln i ≤ 9223372036854775807) :
    Calls Tryd.prog 11 #[frv W H D A po n c, frv W H D A po2 n c2] w fun e w' => e = .returned (.bool true) ∧ Kept [] w w' := by
  obtain ⟨w1, e1⟩ : ∃ w1, w.alloc (.cells #[.int .i64 W, .int .i64 H, .int .i64 D, .bool A, .slice po n c] 29 (0, 0)) = w1 := ⟨_, rfl⟩
  obtain ⟨w2, e2⟩ : ∃ w2, w1.alloc (.cells #[.int .i64 W, .int .i64 H, .int .i64 D, .bool A, .slice po2 n c2] 29 (0, 0)) = w2 := ⟨_, rfl⟩
  have k1 : Kept [] w w1 := by rw [← e1]; exact alloc_kept _ _
  have k2 : Kept [] w1 w2 := by rw [← e2]; exact alloc_kept _ _
  have b1 : w1.heap[w.heap.size]? = some (.cells #[.int .i64 W, .int .i64 H, .int .i64 D, .bool A, .slice po n c] 29 (0, 0)) := by rw [← e1]; exact heap_alloc_new _ _
  have b2 : w2.heap[w1.heap.size]? = some (.cells #[.int .i64 W, .int .i64 H, .int .i64 D, .bool A, .slice po2 n c2] 29 (0, 0)) := by rw [← e2]; exact heap_alloc_new _ _
  rw [show w1.heap.size = w.heap.size + 1 by rw [← e1, World.size_alloc]] at b2
  obtain ⟨⟨x0, x1, x2, x3, x4⟩, _⟩ := five (k2.heap b1 (by simp))
  obtain ⟨⟨y0, y1, y2, y3, y4⟩, _⟩ := five b2
  have K2 := Hid.mk (k1.trans k2)
  have HR := Hid.mk (And.intro (hr.keep (k1.trans k2)) (hr2.keep (k1.trans k2)))
  have HL := Hid.mk (And.intro hF hln)
  have E1 := Hid.mk e1
  have E2 := Hid.mk e2
  clear k1 k2 b1 b2 hr hr2 hF hln e1 e2
  go_enter Tryd.func11, Tryd.ntmps11
  go_upto_region 1 with (fail)
  rw [E1.out, E2.out]
  obtain ⟨b, eb⟩ : ∃ b, w.heap.size = b := ⟨_, rfl⟩
  simp only [eb] at x0 x1 x2 x3 x4 y0 y1 y2 y3 y4 ⊢
  clear eb
  go_wp2_with (fail)
  clear x0 x1 x2 x3 y0 y1 y2 y3
  go_loopw [5] (fun i wr => ∃ k : Nat, k ≤ n ∧ i = .int .i64 (k : Int) ∧ Kept [] w2 wr) (fun i _ => n - (intOf i).toNat)
  case atStart => exact ⟨0, by omega, rfl, Kept.refl _ _⟩
  case round =>
    obtain ⟨wo, rfl⟩ : ∃ wo, wo = wr := ⟨_, rfl⟩
    obtain ⟨k, hk, rfl, hko⟩ := hrel
    have KO := Hid.mk hko
    have x4o := cell_keep hko x4 (by simp)
    have y4o := cell_keep hko y4 (by simp)
    by_cases hlt : k < n
    · have ix : (k : Int) < (n : Int) := by omega
      obtain ⟨g1, o1, r1, q1, rfl, hc1, hrd1⟩ := (HR.out.1.keep hko).at hlt
      obtain ⟨g2, o2, r2, q2, rfl, hc2, hrd2⟩ := (HR.out.2.keep hko).at hlt
      have hlk := HL.out.2 k hlt
      have HE := Hid.mk (HL.out.1 k hlt)
      have HD := Hid.mk (And.intro hrd1 hrd2)
      obtain ⟨m, em⟩ : ∃ m, ln k = m := ⟨_, rfl⟩
      rw [em] at hc1 hc2 hlk HE HD
      clear hrd1 hrd2 em hko
      go_upto_region 6 with (fail)
      go_quiet (fail)
      go_wp2_with (fail)
      go_loopw [6] (fun i wr => ∃ t : Nat, t ≤ m ∧ i = .int .i64 (t : Int) ∧ Kept [] wo wr) (fun i _ => m - (intOf i).toNat)
      case atStart => exact ⟨0, by omega, rfl, (Kept.refl _ _).drewN _⟩
      case round =>
        obtain ⟨t, ht, rfl, hkt⟩ := hrel
        have KT := Hid.mk hkt
        have x4t := cell_keep hkt x4o (by simp)
        have y4t := cell_keep hkt y4o (by simp)
        have hc1t := cell_keep hkt hc1 (by simp)
        have hc2t := cell_keep hkt hc2 (by simp)
        by_cases hlt2 : t < m
        · have ix2 : (t : Int) < (m : Int) := by omega
          obtain ⟨g3, o3, rfl, hc3⟩ := (HD.out.1.keep hkt).at hlt2
          obtain ⟨g4, o4, rfl, hc4⟩ := (HD.out.2.keep hkt).at hlt2
          rw [← HE.out t hlt2] at hc4
          obtain ⟨v, ev⟩ : ∃ v, F k t = v := ⟨_, rfl⟩
          rw [ev] at hc3 hc4
          clear ev hkt x4 y4 x4o y4o hc1 hc2
          go_upto_region 11 with (fail)
          go_quiet (fail)
          go_wp2_with (fail)
          go_roundw
          case rel => exact ⟨t + 1, by omega, by go_num, KT.out.drewN _⟩
          case measure => simp [intOf]; omega
        · obtain rfl : m = t := by omega
          clear hkt x4 y4 x4o y4o hc1 hc2
          go_wp2_with (fail)
          go_roundw
          case rel => exact ⟨k + 1, by omega, by go_num, KO.out.trans KT.out⟩
          case measure => simp [intOf]; omega
    · obtain rfl : n = k := by omega
      clear hko x4 y4
      go_wp2_with (fail)
      go_ret
      exact ⟨rfl, K2.out.trans KO.out⟩
end Go.Proofs.YtgjjnkhkjnkahaaDoor
