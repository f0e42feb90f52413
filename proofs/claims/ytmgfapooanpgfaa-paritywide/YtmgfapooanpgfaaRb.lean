import Derived.Test.YtmgfapooanpgfaaRa
import Derived.Test.YtmgfapooanpgfaaQ1
namespace Go.Proofs.Ytmgfapooanpgfaa
open Go.RowKit

theorem own_loE {w : World} {B n e : Nat} {V : Value} {xs : List Value} (h : w.ownsRow B e 1 V n xs) : ∀ x ∈ V.ownBlock.toList, B ≤ x := by
  intro x hx
  rw [mem_own] at hx
  rcases h.2 with ⟨rfl, _⟩ | ⟨g, cap, cur, rfl, hb, _⟩
  · simp [Value.ownBlock] at hx
  · simp [Value.ownBlock] at hx
    subst hx; exact hb

set_option maxHeartbeats 4000000 in
set_option maxRecDepth 1000000 in
theorem growR (n : Nat) (hn : n ≤ 1000000) (w : World) :
    Calls Try.prog 50 #[.slice none 0 0, .int .i64 (n : Int)] w fun e w' => ∃ V, e = .returned V ∧ w'.ownsRow w.heap.size 40 1 V 0 [] ∧ Kept [] w w' := by
  obtain ⟨i0, hi, hz0, hz1, hz2⟩ := info_parts Try.infoR
  by_cases h0 : n = 0
  · subst h0
    go_enter Try.func50, Try.ntmps50
    go_wp2
    go_ret
    exact ⟨_, rfl, ⟨rfl, .inl ⟨rfl, rfl⟩⟩, Kept.refl _ _⟩
  · have hpos : decide ((0 : Int) < (n : Int)) = true := by simp; omega
    have hneg : decide ((n : Int) < 0) = false := by simp
    have H0 : Hid (w.ownsRow w.heap.size 40 1 (.slice none 0 0) 0 []) := Hid.mk ⟨rfl, .inl ⟨rfl, rfl⟩⟩
    have hno : ¬ 281474976710656 < Builtin.nextslicecap n 0 * Try.t40.bytes := by
      have h1 : Builtin.nextslicecap n 0 = n := by unfold Builtin.nextslicecap; rw [if_pos (by omega)]
      have h2 : Try.t40.bytes = 24 := rfl
      rw [h1, h2]; omega
    have hyes : (n : Int) * (Try.t40.bytes : Int) ≤ 281474976710656 := by
      have h2 : Try.t40.bytes = 24 := rfl
      rw [h2]; omega
    go_enter Try.func50, Try.ntmps50
    go_wp2_with (first | (at_make; refine wpList_make_full _ rfl _ _ 34 rfl w.heap.size 40 i0 (.slice none 0 0) 1 Try.underlying34 hi hz0 hz1 _ _ _ _ n rfl rfl (by omega) (by omega) (by rw [hz2]; omega) (by unfold maxLen; omega) (Nat.le_refl _) ?_; intro w3 ho3 hg3))
    have hge := grownCap_ge w n 0 40
    have hle := grownCap_le_maxLen w n 0 40 (by unfold maxLen; omega)
    go_ret
    refine ⟨_, rfl, ⟨rfl, .inr ⟨w.heap.size, grownCap w n 0 40, _, rfl, Nat.le_refl _, heap_alloc_new _ _, Nat.zero_le _, hle, ?_, by simp⟩⟩, ((Kept.refl _ _).alloc _).drew⟩
    rw [Array.size_append, size_zeroCells, size_zeroCells]
    show n * 1 + (grownCap w n 0 40 - n) * 1 = grownCap w n 0 40 * 1
    omega

set_option maxHeartbeats 4000000 in
set_option maxRecDepth 1000000 in
theorem concatR (gs c n0 c0 n1 c1 : Nat) (a0 a1 : Option Addr) (f0 f1 : Nat → Value) (w : World) (hc0 : w.cell? ⟨gs, 0, none⟩ = some (.slice a0 n0 c0)) (hc1 : w.cell? ⟨gs, 1, none⟩ = some (.slice a1 n1 c1)) (h0 : Sv w a0 n0 f0) (h1 : Sv w a1 n1 f1)
    (hn0 : a0 = none → n0 = 0 ∧ c0 = 0) (hn1 : a1 = none → n1 = 0 ∧ c1 = 0) (ho0 : ∀ i, i < n0 → (f0 i).oneCell' = true) (ho1 : ∀ i, i < n1 → (f1 i).oneCell' = true) (hb0 : n0 ≤ 500000) (hb1 : n1 ≤ 500000) :
    Calls Try.prog 32 #[.slice (some ⟨gs, 0, none⟩) 2 c] w fun e w' => ∃ V, e = .returned V ∧ w'.ownsRow w.heap.size 40 1 V (n0 + n1) (fl f0 n0 ++ fl f1 n1) ∧ Kept [] w w' := by
  obtain ⟨i0, hi, hz0, hz1, hz2⟩ := info_parts Try.infoR
  have C := Hid.mk (fun w => growR (n0 + n1) (by omega) w)
  have H0 := Hid.mk h0
  have H1 := Hid.mk h1
  have Hn0 := Hid.mk hn0
  have Hn1 := Hid.mk hn1
  have Ho0 := Hid.mk ho0
  have Ho1 := Hid.mk ho1
  have Hc0 := Hid.mk hc0
  have Hc1 := Hid.mk hc1
  clear h0 h1 hn0 hn1 ho0 ho1 hc0 hc1
  go_enter Try.func32, Try.ntmps32
  go_wp2
  go_loopw [3, 11] (fun t i wr => ((i = .int .i64 0 ∧ t = .int .i64 0) ∨ (i = .int .i64 1 ∧ t = .int .i64 (n0 : Int)) ∨ (i = .int .i64 2 ∧ t = .int .i64 ((n0 : Int) + (n1 : Int)))) ∧ wr = w) (fun _ i _ => 2 - (intOf i).toNat)
  case atStart => exact ⟨.inl ⟨rfl, rfl⟩, rfl⟩
  case round =>
    obtain ⟨h, hw⟩ := hrel
    obtain rfl := hw.symm
    rcases h with ⟨rfl, rfl⟩ | ⟨rfl, rfl⟩ | ⟨rfl, rfl⟩
    · have hc := Hc0.out
      have d0 : decide ((n0 : Int) < 0) = false := by simp
      go_wp2
      go_roundw
      case rel => exact ⟨.inr (.inl ⟨rfl, rfl⟩), trivial⟩
      case measure => simp [intOf]
    · have hc := Hc1.out
      have d0 : decide ((n0 : Int) + (n1 : Int) < 0) = false := by simp; omega
      go_wp2
      go_roundw
      case rel => exact ⟨.inr (.inr ⟨rfl, rfl⟩), trivial⟩
      case measure => simp [intOf]
    · have hN : ((n0 : Int) + (n1 : Int)) = ((n0 + n1 : Nat) : Int) := by omega
      rw [hN]
      clear hN
      obtain ⟨M, eM⟩ : ∃ M, M = n0 + n1 := ⟨_, rfl⟩
      rw [← eM] at C ⊢
      have EM := Hid.mk eM
      clear eM
      go_wp2_with (go_at_call 50; refine (C.out _).mono ?_; rintro e w1 ⟨V, rfl, hV, hk1⟩)
      have HV := Hid.mk hV
      have Hk1 := Hid.mk hk1
      clear hV hk1 C
      go_loopw [6, 27] (fun v i wr => ((i = .int .i64 0 ∧ wr.ownsRow w.heap.size 40 1 v 0 []) ∨ (i = .int .i64 1 ∧ wr.ownsRow w.heap.size 40 1 v n0 (fl f0 n0)) ∨ (i = .int .i64 2 ∧ wr.ownsRow w.heap.size 40 1 v (n0 + n1) (fl f0 n0 ++ fl f1 n1))) ∧ Kept [] w wr) (fun _ i _ => 2 - (intOf i).toNat)
      case atStart => exact ⟨.inl ⟨rfl, HV.out⟩, Hk1.out⟩
      case round =>
        obtain ⟨h, hkr⟩ := hrel
        rcases h with ⟨rfl, hv⟩ | ⟨rfl, hv⟩ | ⟨rfl, hv⟩
        · have hc := cell_keep hkr Hc0.out (by simp)
          have H0' := Hid.mk (H0.out.keep hkr)
          have Hv := Hid.mk hv
          have Hkr := Hid.mk hkr
          have Hlo := Hid.mk (own_loE hv)
          clear hv
          have hsz := hkr.size
          clear hkr
          go_wp2_with (at_builtin; refine wpList_app _ rfl _ _ 34 w.heap.size 40 i0 (.slice none 0 0) 24 Try.underlying34 hi hz0 hz1 hz2 rfl (by decide) rfl _ 0 [] rfl Hv.out a0 n0 c0 f0 rfl H0'.out Hn0.out Ho0.out hsz (by omega) ?_; intro v' w' h2 h3 h4)
          go_roundw
          case rel => exact ⟨.inr (.inl ⟨rfl, by simpa using h2⟩), Hkr.out.step h3 (fun x hx => .inr (Hlo.out x hx))⟩
          case measure => simp [intOf]
        · have hc := cell_keep hkr Hc1.out (by simp)
          have H1' := Hid.mk (H1.out.keep hkr)
          have Hv := Hid.mk hv
          have Hkr := Hid.mk hkr
          have Hlo := Hid.mk (own_loE hv)
          clear hv
          have hsz := hkr.size
          clear hkr
          go_wp2_with (at_builtin; refine wpList_app _ rfl _ _ 34 w.heap.size 40 i0 (.slice none 0 0) 24 Try.underlying34 hi hz0 hz1 hz2 rfl (by decide) rfl _ n0 (fl f0 n0) rfl Hv.out a1 n1 c1 f1 rfl H1'.out Hn1.out Ho1.out hsz (by omega) ?_; intro v' w' h2 h3 h4)
          go_roundw
          case rel => exact ⟨.inr (.inr ⟨rfl, h2⟩), Hkr.out.step h3 (fun x hx => .inr (Hlo.out x hx))⟩
          case measure => simp [intOf]
        · have Hv := Hid.mk hv
          have Hkr := Hid.mk hkr
          clear hv hkr
          go_wp2
          go_ret
          exact ⟨_, rfl, Hv.out, Hkr.out⟩

set_option maxHeartbeats 4000000 in
set_option maxRecDepth 1000000 in
theorem growI (n : Nat) (hn : n ≤ 1000000) (w : World) :
    Calls Try.prog 61 #[.slice none 0 0, .int .i64 (n : Int)] w fun e w' => ∃ V, e = .returned V ∧ w'.ownsRow w.heap.size 3 1 V 0 [] ∧ Kept [] w w' := by
  obtain ⟨i0, hi, hz0, hz1, hz2⟩ := info_parts Try.infoI
  by_cases h0 : n = 0
  · subst h0
    go_enter Try.func61, Try.ntmps61
    go_wp2
    go_ret
    exact ⟨_, rfl, ⟨rfl, .inl ⟨rfl, rfl⟩⟩, Kept.refl _ _⟩
  · have hpos : decide ((0 : Int) < (n : Int)) = true := by simp; omega
    have hneg : decide ((n : Int) < 0) = false := by simp
    have H0 : Hid (w.ownsRow w.heap.size 3 1 (.slice none 0 0) 0 []) := Hid.mk ⟨rfl, .inl ⟨rfl, rfl⟩⟩
    have hno : ¬ 281474976710656 < Builtin.nextslicecap n 0 * Try.t3.bytes := by
      have h1 : Builtin.nextslicecap n 0 = n := by unfold Builtin.nextslicecap; rw [if_pos (by omega)]
      have h2 : Try.t3.bytes = 8 := rfl
      rw [h1, h2]; omega
    have hyes : (n : Int) * (Try.t3.bytes : Int) ≤ 281474976710656 := by
      have h2 : Try.t3.bytes = 8 := rfl
      rw [h2]; omega
    go_enter Try.func61, Try.ntmps61
    go_wp2_with (first | (at_make; refine wpList_make_full _ rfl _ _ 30 rfl w.heap.size 3 i0 (.int .i64 0) 1 Try.underlying30 hi hz0 hz1 _ _ _ _ n rfl rfl (by omega) (by omega) (by rw [hz2]; omega) (by unfold maxLen; omega) (Nat.le_refl _) ?_; intro w3 ho3 hg3))
    have hge := grownCap_ge w n 0 3
    have hle := grownCap_le_maxLen w n 0 3 (by unfold maxLen; omega)
    go_ret
    refine ⟨_, rfl, ⟨rfl, .inr ⟨w.heap.size, grownCap w n 0 3, _, rfl, Nat.le_refl _, heap_alloc_new _ _, Nat.zero_le _, hle, ?_, by simp⟩⟩, ((Kept.refl _ _).alloc _).drew⟩
    rw [Array.size_append, size_zeroCells, size_zeroCells]
    show n * 1 + (grownCap w n 0 3 - n) * 1 = grownCap w n 0 3 * 1
    omega

set_option maxHeartbeats 4000000 in
set_option maxRecDepth 1000000 in
theorem concatI (gs c n0 c0 n1 c1 : Nat) (a0 a1 : Option Addr) (f0 f1 : Nat → Value) (w : World) (hc0 : w.cell? ⟨gs, 0, none⟩ = some (.slice a0 n0 c0)) (hc1 : w.cell? ⟨gs, 1, none⟩ = some (.slice a1 n1 c1)) (h0 : Sv w a0 n0 f0) (h1 : Sv w a1 n1 f1)
    (hn0 : a0 = none → n0 = 0 ∧ c0 = 0) (hn1 : a1 = none → n1 = 0 ∧ c1 = 0) (ho0 : ∀ i, i < n0 → (f0 i).oneCell' = true) (ho1 : ∀ i, i < n1 → (f1 i).oneCell' = true) (hb0 : n0 ≤ 500000) (hb1 : n1 ≤ 500000) :
    Calls Try.prog 51 #[.slice (some ⟨gs, 0, none⟩) 2 c] w fun e w' => ∃ V, e = .returned V ∧ w'.ownsRow w.heap.size 3 1 V (n0 + n1) (fl f0 n0 ++ fl f1 n1) ∧ Kept [] w w' := by
  obtain ⟨i0, hi, hz0, hz1, hz2⟩ := info_parts Try.infoI
  have C := Hid.mk (fun w => growI (n0 + n1) (by omega) w)
  have H0 := Hid.mk h0
  have H1 := Hid.mk h1
  have Hn0 := Hid.mk hn0
  have Hn1 := Hid.mk hn1
  have Ho0 := Hid.mk ho0
  have Ho1 := Hid.mk ho1
  have Hc0 := Hid.mk hc0
  have Hc1 := Hid.mk hc1
  clear h0 h1 hn0 hn1 ho0 ho1 hc0 hc1
  go_enter Try.func51, Try.ntmps51
  go_wp2
  go_loopw [3, 11] (fun t i wr => ((i = .int .i64 0 ∧ t = .int .i64 0) ∨ (i = .int .i64 1 ∧ t = .int .i64 (n0 : Int)) ∨ (i = .int .i64 2 ∧ t = .int .i64 ((n0 : Int) + (n1 : Int)))) ∧ wr = w) (fun _ i _ => 2 - (intOf i).toNat)
  case atStart => exact ⟨.inl ⟨rfl, rfl⟩, rfl⟩
  case round =>
    obtain ⟨h, hw⟩ := hrel
    obtain rfl := hw.symm
    rcases h with ⟨rfl, rfl⟩ | ⟨rfl, rfl⟩ | ⟨rfl, rfl⟩
    · have hc := Hc0.out
      have d0 : decide ((n0 : Int) < 0) = false := by simp
      go_wp2
      go_roundw
      case rel => exact ⟨.inr (.inl ⟨rfl, rfl⟩), trivial⟩
      case measure => simp [intOf]
    · have hc := Hc1.out
      have d0 : decide ((n0 : Int) + (n1 : Int) < 0) = false := by simp; omega
      go_wp2
      go_roundw
      case rel => exact ⟨.inr (.inr ⟨rfl, rfl⟩), trivial⟩
      case measure => simp [intOf]
    · have hN : ((n0 : Int) + (n1 : Int)) = ((n0 + n1 : Nat) : Int) := by omega
      rw [hN]
      clear hN
      obtain ⟨M, eM⟩ : ∃ M, M = n0 + n1 := ⟨_, rfl⟩
      rw [← eM] at C ⊢
      have EM := Hid.mk eM
      clear eM
      go_wp2_with (go_at_call 61; refine (C.out _).mono ?_; rintro e w1 ⟨V, rfl, hV, hk1⟩)
      have HV := Hid.mk hV
      have Hk1 := Hid.mk hk1
      clear hV hk1 C
      go_loopw [6, 27] (fun v i wr => ((i = .int .i64 0 ∧ wr.ownsRow w.heap.size 3 1 v 0 []) ∨ (i = .int .i64 1 ∧ wr.ownsRow w.heap.size 3 1 v n0 (fl f0 n0)) ∨ (i = .int .i64 2 ∧ wr.ownsRow w.heap.size 3 1 v (n0 + n1) (fl f0 n0 ++ fl f1 n1))) ∧ Kept [] w wr) (fun _ i _ => 2 - (intOf i).toNat)
      case atStart => exact ⟨.inl ⟨rfl, HV.out⟩, Hk1.out⟩
      case round =>
        obtain ⟨h, hkr⟩ := hrel
        rcases h with ⟨rfl, hv⟩ | ⟨rfl, hv⟩ | ⟨rfl, hv⟩
        · have hc := cell_keep hkr Hc0.out (by simp)
          have H0' := Hid.mk (H0.out.keep hkr)
          have Hv := Hid.mk hv
          have Hkr := Hid.mk hkr
          have Hlo := Hid.mk (own_loE hv)
          clear hv
          have hsz := hkr.size
          clear hkr
          go_wp2_with (at_builtin; refine wpList_app _ rfl _ _ 30 w.heap.size 3 i0 (.int .i64 0) 8 Try.underlying30 hi hz0 hz1 hz2 rfl (by decide) rfl _ 0 [] rfl Hv.out a0 n0 c0 f0 rfl H0'.out Hn0.out Ho0.out hsz (by omega) ?_; intro v' w' h2 h3 h4)
          go_roundw
          case rel => exact ⟨.inr (.inl ⟨rfl, by simpa using h2⟩), Hkr.out.step h3 (fun x hx => .inr (Hlo.out x hx))⟩
          case measure => simp [intOf]
        · have hc := cell_keep hkr Hc1.out (by simp)
          have H1' := Hid.mk (H1.out.keep hkr)
          have Hv := Hid.mk hv
          have Hkr := Hid.mk hkr
          have Hlo := Hid.mk (own_loE hv)
          clear hv
          have hsz := hkr.size
          clear hkr
          go_wp2_with (at_builtin; refine wpList_app _ rfl _ _ 30 w.heap.size 3 i0 (.int .i64 0) 8 Try.underlying30 hi hz0 hz1 hz2 rfl (by decide) rfl _ n0 (fl f0 n0) rfl Hv.out a1 n1 c1 f1 rfl H1'.out Hn1.out Ho1.out hsz (by omega) ?_; intro v' w' h2 h3 h4)
          go_roundw
          case rel => exact ⟨.inr (.inr ⟨rfl, h2⟩), Hkr.out.step h3 (fun x hx => .inr (Hlo.out x hx))⟩
          case measure => simp [intOf]
        · have Hv := Hid.mk hv
          have Hkr := Hid.mk hkr
          clear hv hkr
          go_wp2
          go_ret
          exact ⟨_, rfl, Hv.out, Hkr.out⟩
end Go.Proofs.Ytmgfapooanpgfaa
