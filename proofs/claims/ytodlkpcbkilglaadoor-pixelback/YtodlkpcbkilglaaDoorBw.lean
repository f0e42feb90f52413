import Derived.Test.YtodlkpcbkilglaaDoorRg
namespace Go.Proofs.YtodlkpcbkilglaaDoor
open Go.RowKit Go.Shelf
attribute [local go_sem] Oper.semAt_some

set_option maxHeartbeats 4000000 in
set_option maxRecDepth 1000000 in
/-- slices.Backward's closure: each value, the last one first. -/
theorem back_iter (l Bs n c : Nat) (ao : Option Addr) (f : Nat → Nat) (hn : n ≤ 9223372036854775807) (J : Nat → World → Prop)
    (hJF : ∀ k W, J k W → W.cell? ⟨Bs, 0, none⟩ = some (.slice ao n c) ∧ Rd W ao n f)
    (hY : ∀ k W j, J k W → k + 1 + j = n → YieldAt Fence.wide 0 Tryd.prog l #[.int .i64 (j : Int), .int .u16 (f j : Int)] W (fun e W' => e = .returned (.bool true) ∧ J (k + 1) W')) (W : World) (h0 : J 0 W) :
    CallsIn Fence.wide 0 Tryd.prog 96 #[.func (.yield l) #[] #[], .pointer (some ⟨Bs, 0, none⟩)] W (fun e W' => (∃ v, e = .returned v) ∧ J n W') := by
  refine callsIn_of_wp Tryd.func96 rfl trivial ?_ rfl
  simp only [Tryd.ntmps96, List.size_toArray, List.length_cons, List.length_nil, Nat.reduceAdd, Nat.reduceSub, Array.replicate_succ, Array.replicate_zero, List.push_toArray, List.append_toArray, List.nil_append, List.cons_append]
  have hb := (hJF 0 W h0).1
  gi_wp2
  gi_loopw [3] (fun i wr => ∃ k : Nat, k ≤ n ∧ i = .int .i64 ((n : Int) - 1 - k) ∧ J k wr) (fun i _ => (intOf i + 1).toNat)
  case atStart => exact ⟨0, by omega, by go_num, h0⟩
  case round =>
    obtain ⟨k, hk, rfl, hJ⟩ := hrel
    by_cases hlt : k < n
    · obtain ⟨j, hj⟩ : ∃ j : Nat, (n : Int) - 1 - k = (j : Int) := ⟨((n : Int) - 1 - k).toNat, by omega⟩
      obtain ⟨fn, tmps, assign, body, hy, hR⟩ := hY k wr j hJ (by omega)
      have hF := hJF k wr hJ
      have hbc := hF.1
      obtain ⟨g, off, rfl, hc⟩ := hF.2.at (show j < n by omega)
      have jx : (j : Int) < (n : Int) := by omega
      rw [hj]
      gi_wp2
      refine ⟨rfl, hR.mono ?_⟩
      rintro e W3 ⟨rfl, hJ3⟩
      gi_wp2
      go_roundw
      case rel => exact ⟨k + 1, by omega, by first | (congr 1; done) | (congr 1; omega), hJ3⟩
      case measure => first | (simp [intOf]; done) | (simp [intOf]; omega)
    · have hk2 : (n : Int) - 1 - k = -1 := by omega
      rw [hk2]
      obtain rfl : n = k := by omega
      gi_wp2
      go_end0
      exact ⟨⟨_, rfl⟩, hJ⟩

set_option maxHeartbeats 4000000 in
set_option maxRecDepth 1000000 in
theorem backward_any (ao : Option Addr) (n c : Nat) (w : World) :
    Calls Tryd.prog 80 #[.slice ao n c] w fun e w' => e = .returned (.func (.func 96) #[] #[.pointer (some ⟨w.heap.size, 0, none⟩)]) ∧ w' = w.alloc (.cells #[.slice ao n c] 68) := by
  go_enter Tryd.func80, Tryd.ntmps80
  go_wp2
  go_ret
  exact ⟨rfl, rfl⟩
end Go.Proofs.YtodlkpcbkilglaaDoor
