import Derived.RangeFuncNested
import Derived.RangeFuncBound
import Derived.RangeFuncCalls
import Derived.RangeFuncLeaves
import Derived.Shelf.Abstract
import Derived.Shelf.RegionOpen
import Derived.WalkKit
import Derived.OwnWalkIn
import Derived.TacticsInMore
import Derived.LoopNIn
import Derived.LoopIn
import Derived.Test.YtodlkpcbkilglaaDoorA3
import Derived.Test.YtodlkpcbkilglaaDoorbNZ
namespace Go.Proofs.YtodlkpcbkilglaaDoor
open Go.RowKit Go.Shelf

theorem Kept.putObj {w W : World} {ks : List Nat} (h : Kept ks w W) {l : Nat} (o : Obj) (hl : l ∈ ks ∨ w.heap.size ≤ l) : Kept ks w (W.putObj l o) :=
  ⟨h.os, h.tape, h.output, by rw [World.putObj_size]; exact h.size, fun k hk hn => by
    rw [World.putObj_heap_other (fun e => by subst e; rcases hl with h1 | h1; exact hn h1; omega)]
    exact h.block k hk hn⟩

/-- A range over a function, none of whose rounds leaves. -/
theorem range_law {P : Program} {g : Operand} {ps : Array Tmp} {assign body : Code} {Q : Exit → Act → World → Prop} {a : Act} {w : World} {gf : Nat} {lb : Array Value}
    (hg : a.eval g = .func (.func gf) #[] lb) (eg : ∀ args w, (callFunc gf args).run P w = .ok (.enter gf args) w)
    (I : Nat → World → Prop) (N : Nat) (V : Nat → Array Value → Prop) (hps : ∀ k v, V k v → v.size = ps.size)
    (hIput : ∀ k W o, I k W → I k (W.putObj (w.heap.size + 1) o))
    (h0 : ∀ W1, Kept [] w W1 → W1.heap.size = w.heap.size + 2 → I 0 W1)
    (hit : ∀ (J : Nat → World → Prop), (∀ k W, J k W → I k W) → (∀ k W v, J k W → k < N → V k v → YieldAt Fence.wide 0 P (w.heap.size + 1) v W (fun e W' => e = .returned (.bool true) ∧ J (k + 1) W')) → ∀ W1, J 0 W1 → CallsIn Fence.wide 0 P gf (#[.func (.yield (w.heap.size + 1)) #[] #[]] ++ lb) W1 (fun e W' => (∃ v, e = .returned v) ∧ J N W'))
    (hbody : ∀ k v W r, V k v → k < N → I k W → W.heap[w.heap.size + 1]? = some (.loop r) → assign.wpIn (Fence.wide.inRound (w.heap.size + 1)) 0 P (Exit.then (fun a1 Wa => Wa = W ∧ ∀ (Wb : World) (rb : Loop), Wb = W.putObj (w.heap.size + 1) (.loop rb) → body.wpIn (Fence.wide.inRound (w.heap.size + 1)) 0 P (fun e _ W' => e = .normal ∧ I (k + 1) W' ∧ W'.heap[w.heap.size + 1]? = Wb.heap[w.heap.size + 1]? ∧ W'.heap[w.heap.size]? = Wb.heap[w.heap.size]?) a1 Wb) (fun _ _ _ => False)) { tmps := (ps.zip v).foldl (fun t (p, v) => t.setIfInBounds p v) a.tmps, defers := [] } W)
    (hdone : ∀ W, I N W → W.heap[w.heap.size]? = some (.deferred (some [])) → Q .normal { a with defers := { target := .collected w.heap.size, args := #[] } :: a.defers } W) :
    (Code.rangeFunc g ps assign body).wp P Q a w := by
  refine (wpIn_wide (n := 0)).1 (wpIn_rangeFunc ?_)
  intro fn hfn
  obtain ⟨rec, hrec⟩ : ∃ rec : LoopState → Option Code → Loop, rec = fun st pe => { state := st, pending := pe, fn, tmps := a.tmps, params := ps, assign, body, defers := w.heap.size } := ⟨_, rfl⟩
  obtain ⟨W1, hW1⟩ : ∃ W1, (w.alloc (.deferred (some []))).alloc (.loop (rec .ready none)) = W1 := ⟨_, rfl⟩
  have hL1 : W1.heap[w.heap.size + 1]? = some (.loop (rec .ready none)) := by
    rw [← hW1]; have := World.alloc_heap_new (w.alloc (.deferred (some []))) (.loop (rec .ready none)); rwa [World.size_alloc] at this
  have hK1 : W1.heap[w.heap.size]? = some (.deferred (some [])) := by
    rw [← hW1]; exact (Below.heap_alloc _ _ _ (by simp)).trans (World.alloc_heap_new w _)
  have kW1 : Kept [] w W1 := by rw [← hW1]; exact (alloc_kept w _).trans (alloc_kept _ _)
  refine ⟨w.heap.size + 1, [{ target := .collected w.heap.size, args := #[] }], W1, { target := .fn (.func gf) lb, args := #[.func (.yield (w.heap.size + 1)) #[] #[]] }, W1, gf,
    #[.func (.yield (w.heap.size + 1)) #[] #[]] ++ lb, W1, ?_, ?_, ?_, ?_, fun h => by simp [Fence.wide] at h, ?_⟩
  · rw [← hW1, hrec]; exact run_enterLoop_outer _ _ _ _ _
  · simp only [resolve, hg]
    simp [go_sem]
  · intro f' _; trivial
  · simp [invoke, go_sem, eg]
  · refine (hit (fun k W => I k W ∧ W.heap[w.heap.size + 1]? = some (.loop (rec .ready none)) ∧ W.heap[w.heap.size]? = some (.deferred (some []))) (fun k W h => h.1) ?_ W1 ⟨h0 W1 kW1 (by rw [← hW1, World.size_alloc, World.size_alloc]), hL1, hK1⟩).mono ?_
    · rintro k W v ⟨hi, hl, hk⟩ hkN hv
      have hlt : w.heap.size + 1 < W.heap.size := (Array.getElem?_eq_some_iff.1 hl).1
      have hy := run_yield (P := P) (args := v) hl (by rw [hrec]; exact hps k v hv)
      rw [hrec] at hy
      refine ⟨fn, _, assign, body, hy, roundIn_of_wpIn hfn ?_⟩
      refine wpIn_mono (hbody k v W _ hv hkN hi hl) ?_
      intro e a1 Wa hq
      cases e with
      | normal =>
        obtain ⟨rfl, hb⟩ := hq
        refine ⟨_, run_beginRound hl (by rw [hrec]), ?_⟩
        refine wpIn_mono (hb _ _ rfl) ?_
        rintro e2 a2 W3 ⟨rfl, hi3, hl3, hk3⟩
        have hl2 : (Wa.putObj (w.heap.size + 1) (.loop { rec .ready none with state := .busy })).heap[w.heap.size + 1]? = some (.loop { rec .ready none with state := .busy }) := World.putObj_heap_same hlt
        rw [hl2] at hl3
        rw [World.putObj_heap_other (by omega), hk] at hk3
        have hlt3 : w.heap.size + 1 < W3.heap.size := (Array.getElem?_eq_some_iff.1 hl3).1
        refine ⟨_, _, run_endRound none hl3, rfl, hIput _ _ _ hi3, ?_, ?_⟩
        · rw [World.putObj_heap_same hlt3, hrec]
          rfl
        · rw [World.putObj_heap_other (by omega)]
          exact hk3
      | exit id => exact hq.elim
      | goto t => exact hq.elim
      | ret => exact hq.elim
      | panic chain => exact hq.elim
      | outgrown => exact hq.elim
    · rintro e W2 ⟨⟨v, rfl⟩, hi, hl, hk⟩
      refine ⟨none, _, by have := run_endLoop (P := P) hl (by rw [hrec]; simp); rw [hrec] at this; exact this, hdone _ (hIput _ _ _ hi) ?_⟩
      rw [World.putObj_heap_other (by omega)]
      exact hk
end Go.Proofs.YtodlkpcbkilglaaDoor

namespace Go.Proofs.YtodlkpcbkilglaaDoor
open Go.RowKit Go.Shelf
attribute [local go_sem] Oper.semAt_some

set_option maxHeartbeats 4000000 in
set_option maxRecDepth 1000000 in
/-- slices.Backward's closure: each value, the last one first. -/
theorem back_iter (l Bs n c : Nat) (ao : Option Addr) (f : Nat → Nat) (hn : n ≤ 9223372036854775807) (J : Nat → World → Prop)
    (hJF : ∀ k W, J k W → W.cell? ⟨Bs, 0, none⟩ = some (.slice ao n c) ∧ Rd W ao n f)
    (hY : ∀ k W j, J k W → k + 1 + j = n → YieldAt Fence.wide 0 Tryd.prog l #[.int .i64 (j : Int), .int .u16 (f j : Int)] W (fun e W' => e = .returned (.bool true) ∧ J (k + 1) W')) (W : World) (h0 : J 0 W) :
    CallsIn Fence.wide 0 Tryd.prog 96 #[.func (.yield l) #[] #[], .pointer (some ⟨Bs, 0, none⟩)] W (fun e W' => (∃ v, e = .returned v) ∧ J n W') := by
  refine callsIn_of_wp Tryd.func96 rfl trivial ?_ rfl
  simp only [Tryd.ntmps96, List.size_toArray, List.length_cons, List.length_nil, Nat.reduceAdd, Nat.reduceSub, Array.replicate_succ, Array.replicate_zero, List.push_toArray, List.append_toArray, List.nil_append, List.cons_append]
  have hb := (hJF 0 W h0).1
  gi_wp2
  gi_loopw [3] (fun i wr => ∃ k : Nat, k ≤ n ∧ i = .int .i64 ((n : Int) - 1 - k) ∧ J k wr) (fun i _ => (intOf i + 1).toNat)
  case atStart => exact ⟨0, by omega, by go_num, h0⟩
  case round =>
    obtain ⟨k, hk, rfl, hJ⟩ := hrel
    by_cases hlt : k < n
    · obtain ⟨j, hj⟩ : ∃ j : Nat, (n : Int) - 1 - k = (j : Int) := ⟨((n : Int) - 1 - k).toNat, by omega⟩
      obtain ⟨fn, tmps, assign, body, hy, hR⟩ := hY k wr j hJ (by omega)
      have hF := hJF k wr hJ
      have hbc := hF.1
      obtain ⟨g, off, rfl, hc⟩ := hF.2.at (show j < n by omega)
      have jx : (j : Int) < (n : Int) := by omega
      rw [hj]
      gi_wp2
      refine ⟨rfl, hR.mono ?_⟩
      rintro e W3 ⟨rfl, hJ3⟩
      gi_wp2
      go_roundw
      case rel => exact ⟨k + 1, by omega, by first | (congr 1; done) | (congr 1; omega), hJ3⟩
      case measure => first | (simp [intOf]; done) | (simp [intOf]; omega)
    · have hk2 : (n : Int) - 1 - k = -1 := by omega
      rw [hk2]
      obtain rfl : n = k := by omega
      gi_wp2
      go_end0
      exact ⟨⟨_, rfl⟩, hJ⟩

set_option maxHeartbeats 4000000 in
set_option maxRecDepth 1000000 in
theorem backward_any (ao : Option Addr) (n c : Nat) (w : World) :
    Calls Tryd.prog 80 #[.slice ao n c] w fun e w' => e = .returned (.func (.func 96) #[] #[.pointer (some ⟨w.heap.size, 0, none⟩)]) ∧ w' = w.alloc (.cells #[.slice ao n c] 68) := by
  go_enter Tryd.func80, Tryd.ntmps80
  go_wp2
  go_ret
  exact ⟨rfl, rfl⟩
end Go.Proofs.YtodlkpcbkilglaaDoor

namespace Go.Proofs.YtodlkpcbkilglaaDoor
open Go.RowKit Go.Shelf
attribute [local go_sem] Oper.semAt_some

theorem kept_of {ks : List Nat} {w w' : World} (h : Bt.Kept ks w w') : Kept ks w w' := ⟨h.os, h.tape, h.output, h.size, h.block⟩
theorem kept_to {ks : List Nat} {w w' : World} (h : Kept ks w w') : Bt.Kept ks w w' := ⟨h.os, h.tape, h.output, h.size, h.block⟩
/-- The samples behind k rounds, the last one first, as one number. -/
def bkN (f : Nat → Nat) (n : Nat) : Nat → Nat
  | 0 => 0
  | k + 1 => bkN f n k * 65536 + f (n - 1 - k)

set_option maxHeartbeats 8000000 in
set_option maxRecDepth 1000000 in
theorem writeP_any (g1 o1 cr n c : Nat) (ao : Option Addr) (f : Nat → Nat) (w : World) (hrow : w.cell? ⟨g1, o1, none⟩ = some (.slice ao n c)) (hr : Rd w ao n f) (hf : ∀ i, f i < 65536) (hn : n ≤ 4096) (R : World → Value → Prop)
    (CB : ∀ (u : World) (X : List Nat) (g : Nat), X = Bt.big ((16 * n + 7) / 8) (bkN f n n * 2 ^ (8 * ((16 * n + 7) / 8) - 16 * n)) → u.heap[g]? = some (.cells (X.map Bt.byt).toArray 5 (0, 0)) → w.heap.size + 4 < u.heap.size → Calls Tryd.prog 82 #[.slice (some ⟨g, 0, none⟩) ((16 * n + 7) / 8) ((16 * n + 7) / 8)] u fun e u' => ∃ v, e = .returned v ∧ R u' v ∧ Kept [] u u') (hRp : ∀ u v o, R u v → R (World.putObj u (w.heap.size + 3) o) v) :
    Calls Tryd.prog 61 #[.slice (some ⟨g1, o1, none⟩) 1 cr] w fun e w' => ∃ v, e = .returned v ∧ R w' v ∧ Kept [] w w' := by
  have C1 := Hid.mk (fun u => Bt.newWriter_any u)
  have C2 := Hid.mk (fun u => backward_any ao n c u)
  have hrow2 := cell_keep ((alloc_kept w (.cells #[.slice none 0 0, .int .u64 0, .int .i64 0] 114)).trans (alloc_kept _ (.cells #[.pointer (some ⟨w.heap.size, 0, none⟩)] 93))) hrow (by simp)
  have Hr := Hid.mk hr
  clear hr
  refine (callsIn_wide (n := 0)).1 ?_
  refine callsIn_of_wp_marks Tryd.func61 rfl trivial ?_ rfl
  simp only [Tryd.ntmps61, List.size_toArray, List.length_cons, List.length_nil, Nat.reduceAdd, Nat.reduceSub, Array.replicate_succ, Array.replicate_zero, List.push_toArray, List.append_toArray, List.nil_append, List.cons_append]
  refine wpIn_wide.2 ?_
  go_wp2_with (first | (go_at_call 79; refine (C1.out _).mono ?_; rintro e w2 ⟨rfl, rfl⟩) | (go_at_call 80; refine (C2.out _).mono ?_; rintro e w3 ⟨rfl, rfl⟩))
  obtain ⟨wr, ewr⟩ : ∃ wr, wr = ((w.alloc (.cells #[.slice none 0 0, .int .u64 0, .int .i64 0] 114)).alloc (.cells #[.pointer (some ⟨w.heap.size, 0, none⟩)] 93)).alloc (.cells #[.slice ao n c] 68) := ⟨_, rfl⟩
  have m1 := heap_alloc_new w (.cells #[.slice none 0 0, .int .u64 0, .int .i64 0] 114)
  have j1 := alloc_kept w (.cells #[.slice none 0 0, .int .u64 0, .int .i64 0] 114)
  have m2 := heap_alloc_new (w.alloc (.cells #[.slice none 0 0, .int .u64 0, .int .i64 0] 114)) (.cells #[.pointer (some ⟨w.heap.size, 0, none⟩)] 93)
  have j2 := alloc_kept (w.alloc (.cells #[.slice none 0 0, .int .u64 0, .int .i64 0] 114)) (.cells #[.pointer (some ⟨w.heap.size, 0, none⟩)] 93)
  have m3 := heap_alloc_new ((w.alloc (.cells #[.slice none 0 0, .int .u64 0, .int .i64 0] 114)).alloc (.cells #[.pointer (some ⟨w.heap.size, 0, none⟩)] 93)) (.cells #[.slice ao n c] 68)
  have j3 := alloc_kept ((w.alloc (.cells #[.slice none 0 0, .int .u64 0, .int .i64 0] 114)).alloc (.cells #[.pointer (some ⟨w.heap.size, 0, none⟩)] 93)) (.cells #[.slice ao n c] 68)
  have z3 : wr.heap.size = w.heap.size + 3 := by rw [ewr, World.size_alloc, World.size_alloc, World.size_alloc]
  rw [World.size_alloc] at m2
  rw [World.size_alloc, World.size_alloc] at m3
  have hW := j3.heap (j2.heap m1 (by simp)) (by simp)
  have hP := j3.heap m2 (by simp)
  have kw := (j1.trans j2).trans j3
  rw [← ewr] at hW hP m3 kw ⊢
  clear ewr m1 j1 m2 j2 j3
  refine range_law (gf := 96) (lb := #[.pointer (some ⟨w.heap.size + 1 + 1, 0, none⟩)]) rfl (enters_of Tryd.func96 (by kernel_rfl) rfl)
    (fun k W => ∃ Vv, Bt.WriterAt W w.heap.size Vv (bkN f n k) (16 * k) ∧ (∀ g, Vv.ownBlock = some g → w.heap.size + 3 ≤ g ∧ g ≠ wr.heap.size ∧ g ≠ wr.heap.size + 1) ∧ W.heap[w.heap.size + 1]? = some (.cells #[.pointer (some ⟨w.heap.size, 0, none⟩)] 93 (0, 0)) ∧ W.heap[w.heap.size + 1 + 1]? = some (.cells #[.slice ao n c] 68 (0, 0)) ∧ Kept [] w W ∧ wr.heap.size + 1 < W.heap.size)
    n (fun k v => v = #[.int .i64 ((n - 1 - k : Nat) : Int), .int .u16 (f (n - 1 - k) : Int)]) (fun k v hv => by subst hv; rfl) ?put ?start ?iter ?body ?done
  case put =>
    rintro k W o ⟨Vv, hWr, hV, hPb, hSb, hk, hsz⟩
    have ks : Kept [wr.heap.size + 1] W (W.putObj (wr.heap.size + 1) o) := (Kept.refl _ W).putObj o (.inl (by simp))
    refine ⟨Vv, ⟨ks.heap hWr.1 (by simp; omega), (kept_to ks).row hWr.2 (fun g hg => by have := hV g hg; simp; omega)⟩, hV, ks.heap hPb (by simp; omega), ks.heap hSb (by simp; omega), hk.step ks (fun x hx => by simp at hx; right; omega), by rw [World.putObj_size]; exact hsz⟩
  case start =>
    intro W1 hk1 hs1
    refine ⟨.slice none 0 0, ⟨hk1.heap hW (by simp), ⟨rfl, .inl ⟨rfl, rfl⟩⟩⟩, fun g hg => by simp [Value.ownBlock] at hg, hk1.heap hP (by simp), hk1.heap m3 (by simp), kw.trans hk1, by omega⟩
  case iter =>
    intro J hJI hJY W1 hJ0
    exact back_iter (wr.heap.size + 1) (w.heap.size + 1 + 1) n c ao f (by omega) J (fun k W hJ => by
      obtain ⟨Vv, _, _, _, hSb, hk, _⟩ := hJI k W hJ
      exact ⟨by rw [cell_of_row _ _ _ _ _ _ hSb]; rfl, Hr.out.keep hk⟩) (fun k W j hJ hj => by
      have h := hJY k W _ hJ (by omega) rfl
      rw [show n - 1 - k = j by omega] at h
      exact h) W1 hJ0
  case body =>
    rintro k v W r rfl hkn ⟨Vv, hWr, hV, hPb, hSb, hk, hsz⟩ hl
    gi_wp2
    refine ⟨trivial, fun Wb rb hWb => ?_⟩
    have ks : Kept [wr.heap.size + 1] W Wb := by rw [hWb]; exact (Kept.refl _ W).putObj _ (.inl (by simp))
    have hWb2 : Bt.WriterAt Wb w.heap.size Vv (bkN f n k) (16 * k) := ⟨ks.heap hWr.1 (by simp; omega), (kept_to ks).row hWr.2 (fun g hg => by have := hV g hg; simp; omega)⟩
    have hPb2 := ks.heap hPb (by simp; omega)
    have hSb2 := ks.heap hSb (by simp; omega)
    have hkb : Kept [] w Wb := hk.step ks (fun x hx => by simp at hx; right; omega)
    have hszb : wr.heap.size + 1 < Wb.heap.size := Nat.lt_of_lt_of_le hsz ks.size
    have hpc : Wb.cell? ⟨w.heap.size + 1, 0, none⟩ = some (.pointer (some ⟨w.heap.size, 0, none⟩)) := by rw [cell_of_row _ _ _ _ _ _ hPb2]; rfl
    have hxb := hf (n - 1 - k)
    have HST : Hid (bkN f n (k + 1) = bkN f n k * 65536 + f (n - 1 - k)) := Hid.mk rfl
    obtain ⟨x, ex⟩ : ∃ x, x = f (n - 1 - k) := ⟨_, rfl⟩
    rw [← ex] at hxb HST ⊢
    have CPt := Hid.mk (Bt.put_any w.heap.size Vv (bkN f n k) (16 * k) (x : Int) 16 Wb hWb2 (by omega) (by omega) (by omega) (by show (x : Int).toNat < 2 ^ 16; omega) (by omega))
    have HH := Hid.mk (And.intro hPb2 (And.intro hSb2 (And.intro hkb (And.intro hszb (And.intro hV hWb2)))))
    clear ks hWb2 hPb2 hSb2 hkb hszb hWr hV hPb hSb hk hsz hl hWb ex
    gi_wp2
    refine ⟨trivial, rfl, (CallsIn.inRound (w.heap.size + 3 + 1) (callsIn_wide.2 CPt.out)).mono ?_⟩
    rintro e W3 ⟨rfl, V3, hW3, hk3, hl3⟩
    gi_wp2
    obtain ⟨hPb2, hSb2, hkb, hszb, hV, hWb2⟩ := HH.out
    have k3 := kept_of hk3
    have nm : ∀ z, z ≠ w.heap.size → (∀ g, Vv.ownBlock = some g → g ≠ z) → z ∉ w.heap.size :: Vv.ownBlock.toList := fun z h1 h2 hm => by
      rcases List.mem_cons.1 hm with h | h
      · exact h1 h
      · rw [Option.mem_toList] at h
        exact h2 z h rfl
    refine ⟨⟨V3, ?_, fun g hg => ?_, k3.heap hPb2 (nm _ (by omega) (fun g hg => by have := hV g hg; omega)), k3.heap hSb2 (nm _ (by omega) (fun g hg => by have := hV g hg; omega)), hkb.step k3 (fun x hx => ?_), by have := k3.size; omega⟩, ?_, ?_⟩
    · rw [HST.out]
      have h := hW3
      rw [show (16 : Int).toNat = 16 from rfl, Int.toNat_natCast, show 2 ^ 16 = 65536 from rfl, show 16 * k + 16 = 16 * (k + 1) by omega] at h
      exact h
    · rcases hl3 with h | ⟨g2, h1, h2⟩
      · rw [h] at hg
        have := hV g hg
        omega
      · rw [h1] at hg
        cases hg
        omega
    · right
      rcases List.mem_cons.1 hx with h | h
      · omega
      · rw [Option.mem_toList] at h
        have := hV x h
        omega
    · exact k3.block _ (by omega) (nm _ (by omega) (fun g hg => by have := hV g hg; omega))
    · exact k3.block _ (by omega) (nm _ (by omega) (fun g hg => by have := hV g hg; omega))
  case done =>
    rintro W ⟨Vv, hWr, hV, hPb, hSb, hk, hsz⟩ hK
    have hpc : W.cell? ⟨w.heap.size + 1, 0, none⟩ = some (.pointer (some ⟨w.heap.size, 0, none⟩)) := by rw [cell_of_row _ _ _ _ _ _ hPb]; rfl
    have CY := Hid.mk (Bt.bytes_any w.heap.size Vv (bkN f n n) (16 * n) W hWr (by omega))
    have HZ := Hid.mk (show w.heap.size + 4 < W.heap.size by omega)
    have HH := Hid.mk (And.intro hk hK)
    have CB2 := Hid.mk CB
    clear hWr hV hPb hSb hk hsz hK CB
    go_wp2_with (first | (go_at_call 83; refine CY.out.mono ?_; rintro e W3 ⟨rfl, hb3, hk3⟩) | (go_at_call 82; refine (CB2.out _ _ _ rfl hb3 (Nat.lt_of_lt_of_le HZ.out (kept_of hk3).size)).mono ?_; rintro e W4 ⟨v, rfl, hR, hk4⟩))
    have hK4 := ((kept_of hk3).trans hk4).heap HH.out.2 (by simp)
    rw [z3] at hK4
    refine ⟨by simp, .inl ⟨_, _, rfl, run_takeDeferred hK4, ?_⟩⟩
    exact ⟨_, results_tmp rfl _ _ _, v, rfl, hRp _ _ _ hR, ((HH.out.1.trans (kept_of hk3)).trans hk4).putObj _ (.inr (by omega))⟩
end Go.Proofs.YtodlkpcbkilglaaDoor
