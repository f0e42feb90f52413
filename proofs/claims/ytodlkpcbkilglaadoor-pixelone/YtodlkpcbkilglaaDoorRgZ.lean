import Derived.RangeFuncNested
import Derived.RangeFuncBound
import Derived.RangeFuncCalls
import Derived.RangeFuncLeaves
import Derived.Shelf.Abstract
import Derived.Shelf.RegionOpen
import Derived.WalkKit
import Derived.OwnWalkIn
import Derived.TacticsInMore
import Derived.LoopNIn
import Derived.LoopIn
import Derived.Test.YtodlkpcbkilglaaDoorA3
namespace Go.Proofs.YtodlkpcbkilglaaDoor
open Go.RowKit Go.Shelf

theorem Kept.putObj {w W : World} {ks : List Nat} (h : Kept ks w W) {l : Nat} (o : Obj) (hl : l ∈ ks ∨ w.heap.size ≤ l) : Kept ks w (W.putObj l o) :=
  ⟨h.os, h.tape, h.output, by rw [World.putObj_size]; exact h.size, fun k hk hn => by
    rw [World.putObj_heap_other (fun e => by subst e; rcases hl with h1 | h1; exact hn h1; omega)]
    exact h.block k hk hn⟩

/-- A range over a function, none of whose rounds leaves. -/
theorem range_law {P : Program} {g : Operand} {ps : Array Tmp} {assign body : Code} {Q : Exit → Act → World → Prop} {a : Act} {w : World} {gf : Nat} {lb : Array Value}
    (hg : a.eval g = .func (.func gf) #[] lb) (eg : ∀ args w, (callFunc gf args).run P w = .ok (.enter gf args) w)
    (I : Nat → World → Prop) (N : Nat) (V : Nat → Array Value → Prop) (hps : ∀ k v, V k v → v.size = ps.size)
    (hIput : ∀ k W o, I k W → I k (W.putObj (w.heap.size + 1) o))
    (h0 : ∀ W1, Kept [] w W1 → W1.heap.size = w.heap.size + 2 → I 0 W1)
    (hit : ∀ (J : Nat → World → Prop), (∀ k W, J k W → I k W) → (∀ k W v, J k W → k < N → V k v → YieldAt Fence.wide 0 P (w.heap.size + 1) v W (fun e W' => e = .returned (.bool true) ∧ J (k + 1) W')) → ∀ W1, J 0 W1 → CallsIn Fence.wide 0 P gf (#[.func (.yield (w.heap.size + 1)) #[] #[]] ++ lb) W1 (fun e W' => (∃ v, e = .returned v) ∧ J N W'))
    (hbody : ∀ k v W r, V k v → k < N → I k W → W.heap[w.heap.size + 1]? = some (.loop r) → assign.wpIn (Fence.wide.inRound (w.heap.size + 1)) 0 P (Exit.then (fun a1 Wa => Wa = W ∧ ∀ (Wb : World) (rb : Loop), Wb = W.putObj (w.heap.size + 1) (.loop rb) → body.wpIn (Fence.wide.inRound (w.heap.size + 1)) 0 P (fun e _ W' => e = .normal ∧ I (k + 1) W' ∧ W'.heap[w.heap.size + 1]? = Wb.heap[w.heap.size + 1]? ∧ W'.heap[w.heap.size]? = Wb.heap[w.heap.size]?) a1 Wb) (fun _ _ _ => False)) { tmps := (ps.zip v).foldl (fun t (p, v) => t.setIfInBounds p v) a.tmps, defers := [] } W)
    (hdone : ∀ W, I N W → W.heap[w.heap.size]? = some (.deferred (some [])) → Q .normal { a with defers := { target := .collected w.heap.size, args := #[] } :: a.defers } W) :
    (Code.rangeFunc g ps assign body).wp P Q a w := by
  refine (wpIn_wide (n := 0)).1 (wpIn_rangeFunc ?_)
  intro fn hfn
  obtain ⟨rec, hrec⟩ : ∃ rec : LoopState → Option Code → Loop, rec = fun st pe => { state := st, pending := pe, fn, tmps := a.tmps, params := ps, assign, body, defers := w.heap.size } := ⟨_, rfl⟩
  obtain ⟨W1, hW1⟩ : ∃ W1, (w.alloc (.deferred (some []))).alloc (.loop (rec .ready none)) = W1 := ⟨_, rfl⟩
  have hL1 : W1.heap[w.heap.size + 1]? = some (.loop (rec .ready none)) := by
    rw [← hW1]; have := World.alloc_heap_new (w.alloc (.deferred (some []))) (.loop (rec .ready none)); rwa [World.size_alloc] at this
  have hK1 : W1.heap[w.heap.size]? = some (.deferred (some [])) := by
    rw [← hW1]; exact (Below.heap_alloc _ _ _ (by simp)).trans (World.alloc_heap_new w _)
  have kW1 : Kept [] w W1 := by rw [← hW1]; exact (alloc_kept w _).trans (alloc_kept _ _)
  refine ⟨w.heap.size + 1, [{ target := .collected w.heap.size, args := #[] }], W1, { target := .fn (.func gf) lb, args := #[.func (.yield (w.heap.size + 1)) #[] #[]] }, W1, gf,
    #[.func (.yield (w.heap.size + 1)) #[] #[]] ++ lb, W1, ?_, ?_, ?_, ?_, fun h => by simp [Fence.wide] at h, ?_⟩
  · rw [← hW1, hrec]; exact run_enterLoop_outer _ _ _ _ _
  · simp only [resolve, hg]
    simp [go_sem]
  · intro f' _; trivial
  · simp [invoke, go_sem, eg]
  · refine (hit (fun k W => I k W ∧ W.heap[w.heap.size + 1]? = some (.loop (rec .ready none)) ∧ W.heap[w.heap.size]? = some (.deferred (some []))) (fun k W h => h.1) ?_ W1 ⟨h0 W1 kW1 (by rw [← hW1, World.size_alloc, World.size_alloc]), hL1, hK1⟩).mono ?_
    · rintro k W v ⟨hi, hl, hk⟩ hkN hv
      have hlt : w.heap.size + 1 < W.heap.size := (Array.getElem?_eq_some_iff.1 hl).1
      have hy := run_yield (P := P) (args := v) hl (by rw [hrec]; exact hps k v hv)
      rw [hrec] at hy
      refine ⟨fn, _, assign, body, hy, roundIn_of_wpIn hfn ?_⟩
      refine wpIn_mono (hbody k v W _ hv hkN hi hl) ?_
      intro e a1 Wa hq
      cases e with
      | normal =>
        obtain ⟨rfl, hb⟩ := hq
        refine ⟨_, run_beginRound hl (by rw [hrec]), ?_⟩
        refine wpIn_mono (hb _ _ rfl) ?_
        rintro e2 a2 W3 ⟨rfl, hi3, hl3, hk3⟩
        have hl2 : (Wa.putObj (w.heap.size + 1) (.loop { rec .ready none with state := .busy })).heap[w.heap.size + 1]? = some (.loop { rec .ready none with state := .busy }) := World.putObj_heap_same hlt
        rw [hl2] at hl3
        rw [World.putObj_heap_other (by omega), hk] at hk3
        have hlt3 : w.heap.size + 1 < W3.heap.size := (Array.getElem?_eq_some_iff.1 hl3).1
        refine ⟨_, _, run_endRound none hl3, rfl, hIput _ _ _ hi3, ?_, ?_⟩
        · rw [World.putObj_heap_same hlt3, hrec]
          rfl
        · rw [World.putObj_heap_other (by omega)]
          exact hk3
      | exit id => exact hq.elim
      | goto t => exact hq.elim
      | ret => exact hq.elim
      | panic chain => exact hq.elim
      | outgrown => exact hq.elim
    · rintro e W2 ⟨⟨v, rfl⟩, hi, hl, hk⟩
      refine ⟨none, _, by have := run_endLoop (P := P) hl (by rw [hrec]; simp); rw [hrec] at this; exact this, hdone _ (hIput _ _ _ hi) ?_⟩
      rw [World.putObj_heap_other (by omega)]
      exact hk
end Go.Proofs.YtodlkpcbkilglaaDoor

namespace Go.Proofs.YtodlkpcbkilglaaDoor
open Go.RowKit Go.Shelf
attribute [local go_sem] Oper.semAt_some

set_option maxHeartbeats 4000000 in
set_option maxRecDepth 1000000 in
/-- slices.Backward's closure: each value, the last one first. -/
theorem back_iter (l Bs n c : Nat) (ao : Option Addr) (f : Nat → Nat) (hn : n ≤ 9223372036854775807) (J : Nat → World → Prop)
    (hJF : ∀ k W, J k W → W.cell? ⟨Bs, 0, none⟩ = some (.slice ao n c) ∧ Rd W ao n f)
    (hY : ∀ k W j, J k W → k + 1 + j = n → YieldAt Fence.wide 0 Tryd.prog l #[.int .i64 (j : Int), .int .u16 (f j : Int)] W (fun e W' => e = .returned (.bool true) ∧ J (k + 1) W')) (W : World) (h0 : J 0 W) :
    CallsIn Fence.wide 0 Tryd.prog 96 #[.func (.yield l) #[] #[], .pointer (some ⟨Bs, 0, none⟩)] W (fun e W' => (∃ v, e = .returned v) ∧ J n W') := by
  refine callsIn_of_wp Tryd.func96 rfl trivial ?_ rfl
  simp only [Tryd.ntmps96, List.size_toArray, List.length_cons, List.length_nil, Nat.reduceAdd, Nat.reduceSub, Array.replicate_succ, Array.replicate_zero, List.push_toArray, List.append_toArray, List.nil_append, List.cons_append]
  have hb := (hJF 0 W h0).1
  gi_wp2
  gi_loopw [3] (fun i wr => ∃ k : Nat, k ≤ n ∧ i = .int .i64 ((n : Int) - 1 - k) ∧ J k wr) (fun i _ => (intOf i + 1).toNat)
  case atStart => exact ⟨0, by omega, by go_num, h0⟩
  case round =>
    obtain ⟨k, hk, rfl, hJ⟩ := hrel
    by_cases hlt : k < n
    · obtain ⟨j, hj⟩ : ∃ j : Nat, (n : Int) - 1 - k = (j : Int) := ⟨((n : Int) - 1 - k).toNat, by omega⟩
      obtain ⟨fn, tmps, assign, body, hy, hR⟩ := hY k wr j hJ (by omega)
      have hF := hJF k wr hJ
      have hbc := hF.1
      obtain ⟨g, off, rfl, hc⟩ := hF.2.at (show j < n by omega)
      have jx : (j : Int) < (n : Int) := by omega
      rw [hj]
      gi_wp2
      refine ⟨rfl, hR.mono ?_⟩
      rintro e W3 ⟨rfl, hJ3⟩
      gi_wp2
      go_roundw
      case rel => exact ⟨k + 1, by omega, by first | (congr 1; done) | (congr 1; omega), hJ3⟩
      case measure => first | (simp [intOf]; done) | (simp [intOf]; omega)
    · have hk2 : (n : Int) - 1 - k = -1 := by omega
      rw [hk2]
      obtain rfl : n = k := by omega
      gi_wp2
      go_end0
      exact ⟨⟨_, rfl⟩, hJ⟩

set_option maxHeartbeats 4000000 in
set_option maxRecDepth 1000000 in
theorem backward_any (ao : Option Addr) (n c : Nat) (w : World) :
    Calls Tryd.prog 80 #[.slice ao n c] w fun e w' => e = .returned (.func (.func 96) #[] #[.pointer (some ⟨w.heap.size, 0, none⟩)]) ∧ w' = w.alloc (.cells #[.slice ao n c] 68) := by
  go_enter Tryd.func80, Tryd.ntmps80
  go_wp2
  go_ret
  exact ⟨rfl, rfl⟩
end Go.Proofs.YtodlkpcbkilglaaDoor
