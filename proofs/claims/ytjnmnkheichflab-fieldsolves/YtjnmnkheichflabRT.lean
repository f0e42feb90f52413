import Derived.Test.YtjnmnkheichflabG5
import Derived.Test.YtjnmnkheichflabQ1
import Derived.Test.YtjnmnkheichflabM6
namespace Go.Proofs.Ytjnmnkheichflab
open Go.RowKit

set_option maxHeartbeats 1000000 in
set_option maxRecDepth 1000000 in
theorem fits_any (ao : Option Addr) (cap n m : Nat) (L : List (List Nat)) (w : World) (hr : MR w ao L) (hn : L.length = n) (hl : n ≤ 140737488355328) :
    Calls Try.prog 31 #[.slice ao n cap, .int .i64 (m : Int)] w fun e w' => e = .returned (.bool (al L m)) ∧ w' = w := by
  have Hr := Hid.mk hr
  have Hn := Hid.mk hn
  clear hr hn
  go_enter Try.func31, Try.ntmps31
  go_wp2
  go_loop [5] (fun i => ∃ k : Nat, k ≤ n ∧ i = .int .i64 (k : Int) ∧ ∀ j, j < k → (L.getD j []).length = m) (fun i => n - (intOf i).toNat)
  case atStart => exact ⟨0, by omega, rfl, fun j hj => by omega⟩
  case round =>
    obtain ⟨k, hk, rfl, hall⟩ := hrel
    have Hall := Hid.mk hall
    clear hall
    by_cases hlt : k < n
    · obtain ⟨g, off, bo, c, hg, hc, _⟩ := Hr.out.at (i := k) (by have := Hn.out; omega)
      have ix : (k : Int) < (n : Int) := by omega
      by_cases h : (L.getD k []).length = m
      · have H := Hid.mk h
        rw [h] at hc
        subst hg
        clear h
        go_wp2
        go_round
        case rel =>
          refine ⟨k + 1, by omega, by go_num, fun j hj => ?_⟩
          by_cases e : j = k
          · subst e; exact H.out
          · exact Hall.out j (by omega)
        case measure => simp [intOf]; omega
      · have H := Hid.mk (al_no (by have := Hn.out; omega) h)
        obtain ⟨x, hx⟩ : ∃ x, x = (L.getD k []).length := ⟨_, rfl⟩
        rw [← hx] at hc h
        have hne : ((x : Int) == (m : Int)) = false := by simp; omega
        subst hg
        clear hx h
        go_wp2
        go_ret
        exact ⟨ret_bool H.out.symm, rfl⟩
    · obtain rfl : k = n := by omega
      have H := Hid.mk (al_of (L := L) (m := m) (fun i hi => Hall.out i (by have := Hn.out; omega)))
      go_wp2
      go_ret
      exact ⟨ret_bool H.out.symm, rfl⟩

set_option maxHeartbeats 1000000 in
set_option maxRecDepth 1000000 in
theorem alike_any (ao : Option Addr) (cap n : Nat) (L : List (List Nat)) (w : World) (hr : MR w ao L) (hn : L.length = n) (hl : n ≤ 140737488355328) :
    Calls Try.prog 32 #[.slice ao n cap] w fun e w' => e = .returned (.bool (al L (rl L))) ∧ ∃ q, w' = w.drewN q := by
  have Hr := Hid.mk hr
  have Hn := Hid.mk hn
  clear hr hn
  by_cases h0 : n = 0
  · subst h0
    have hL : L = [] := List.eq_nil_of_length_eq_zero Hn.out
    subst hL
    have H : Hid (al [] (rl []) = true) := Hid.mk rfl
    go_enter Try.func32, Try.ntmps32
    go_wp2
    refine wp_loop_rounds 1 ?_
    rw [rounds_succ]
    go_wp2
    go_ret
    exact ⟨ret_bool H.out.symm, 0, rfl⟩
  · go_enter Try.func32, Try.ntmps32
    go_wp2
    go_loopw [3] (fun i wr => ∃ k : Nat, 1 ≤ k ∧ k ≤ n ∧ i = .int .i64 (k : Int) ∧ (∀ j, j < k → (L.getD j []).length = rl L) ∧ Qt w wr) (fun i _ => n - (intOf i).toNat)
    case atStart => exact ⟨1, by omega, by omega, rfl, (fun j hj => (by
      have e : j = 0 := by omega
      subst e
      rfl)), Qt.refl w⟩
    case round =>
      obtain ⟨k, hk1, hk, rfl, hall, hq⟩ := hrel
      have Hall := Hid.mk hall
      have Hq := Hid.mk hq
      by_cases hlt : k < n
      · obtain ⟨g, off, bo, c, hg, hc, _⟩ := (Hr.out.keep (hq.kept [])).at (i := k) (by have := Hn.out; omega)
        obtain ⟨g2, off2, bo2, c2, hg2, hc2, _⟩ := (Hr.out.keep (hq.kept [])).at (i := 0) (by have := Hn.out; omega)
        rw [hg] at hg2
        cases hg2
        rw [Nat.add_zero, show (L.getD 0 []).length = rl L from rfl] at hc2
        have ix : (k : Int) < (n : Int) := by omega
        have ix0 : (0 : Int) < (n : Int) := by omega
        clear hall hq
        by_cases h : (L.getD k []).length = rl L
        · have H := Hid.mk h
          rw [h] at hc
          obtain ⟨r, er⟩ : ∃ r, r = rl L := ⟨_, rfl⟩
          rw [← er] at hc hc2
          subst hg
          clear h er
          go_wp2
          try go_quiet (fail)
          try go_wp2
          go_roundw
          case rel =>
            refine ⟨k + 1, by omega, by omega, by go_num, fun j hj => ?_, by first | exact Hq.out | exact Hq.out.drewN _⟩
            by_cases e : j = k
            · subst e; exact H.out
            · exact Hall.out j (by omega)
          case measure => simp [intOf]; omega
        · have H := Hid.mk (al_no (L := L) (m := rl L) (by have := Hn.out; omega) h)
          obtain ⟨x, hx⟩ : ∃ x, x = (L.getD k []).length := ⟨_, rfl⟩
          obtain ⟨r, er⟩ : ∃ r, r = rl L := ⟨_, rfl⟩
          rw [← hx] at hc h
          rw [← er] at hc2 h
          have hne : ((x : Int) == (r : Int)) = false := by simp; omega
          subst hg
          clear hx h er
          go_wp2
          try go_quiet (fail)
          try go_wp2
          go_ret
          exact ⟨ret_bool H.out.symm, by first | exact Hq.out | exact Hq.out.drewN _⟩
      · obtain rfl : k = n := by omega
        have H := Hid.mk (al_of (L := L) (m := rl L) (fun i hi => Hall.out i (by have := Hn.out; omega)))
        clear hall hq
        go_wp2
        go_ret
        exact ⟨ret_bool H.out.symm, Hq.out⟩
end Go.Proofs.Ytjnmnkheichflab
