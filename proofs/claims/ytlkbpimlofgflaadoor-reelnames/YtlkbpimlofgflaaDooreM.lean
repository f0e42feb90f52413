import Derived.RangeFuncNested
import Derived.RangeFuncBound
import Derived.RangeFuncCalls
import Derived.RangeFuncLeaves
import Derived.Shelf.Abstract
import Derived.Shelf.RegionOpen
import Derived.OwnWalkIn
import Derived.TacticsInMore
import Derived.LoopNIn
import Derived.LoopIn
import Derived.Test.YtlkbpimlofgflaaDooreL
namespace Go.Proofs.YtlkbpimlofgflaaDoor
open Go.RowKit Go.Shelf

theorem Kept.putObj {w W : World} {ks : List Nat} (h : Kept ks w W) {l : Nat} (o : Obj) (hl : l ∈ ks ∨ w.heap.size ≤ l) : Kept ks w (W.putObj l o) :=
  ⟨h.os, h.tape, h.output, by rw [World.putObj_size]; exact h.size, fun k hk hn => by
    rw [World.putObj_heap_other (fun e => by subst e; rcases hl with h1 | h1; exact hn h1; omega)]
    exact h.block k hk hn⟩

/-- A range over a function that tells nothing. -/
theorem range_none {P : Program} {g : Operand} {ps : Array Tmp} {assign body : Code} {Q : Exit → Act → World → Prop} {a : Act} {w : World} {gf : Nat} {lb : Array Value}
    (hg : a.eval g = .func (.func gf) #[] lb) (eg : ∀ args w, (callFunc gf args).run P w = .ok (.enter gf args) w)
    (ks : List Nat) (hks : ∀ x ∈ ks, x < w.heap.size) (J : World → Prop)
    (hit : ∀ W1, Kept [] w W1 → W1.heap.size = w.heap.size + 2 → Calls P gf (#[.func (.yield (w.heap.size + 1)) #[] #[]] ++ lb) W1 (fun e W' => (∃ v, e = .returned v) ∧ Kept ks W1 W' ∧ J W'))
    (hdone : ∀ W' W, J W' → Kept ks w W' → w.heap.size + 2 ≤ W'.heap.size → Kept [w.heap.size + 1] W' W → W.heap[w.heap.size]? = some (.deferred (some [])) → Q .normal { a with defers := { target := .collected w.heap.size, args := #[] } :: a.defers } W) :
    (Code.rangeFunc g ps assign body).wp P Q a w := by
  refine (wpIn_wide (n := 0)).1 (wpIn_rangeFunc ?_)
  intro fn hfn
  obtain ⟨rec, hrec⟩ : ∃ rec : LoopState → Option Code → Loop, rec = fun st pe => { state := st, pending := pe, fn, tmps := a.tmps, params := ps, assign, body, defers := w.heap.size } := ⟨_, rfl⟩
  obtain ⟨W1, hW1⟩ : ∃ W1, (w.alloc (.deferred (some []))).alloc (.loop (rec .ready none)) = W1 := ⟨_, rfl⟩
  have hL1 : W1.heap[w.heap.size + 1]? = some (.loop (rec .ready none)) := by
    rw [← hW1]; have := World.alloc_heap_new (w.alloc (.deferred (some []))) (.loop (rec .ready none)); rwa [World.size_alloc] at this
  have hK1 : W1.heap[w.heap.size]? = some (.deferred (some [])) := by
    rw [← hW1]; exact (Below.heap_alloc _ _ _ (by simp)).trans (World.alloc_heap_new w _)
  have kW1 : Kept [] w W1 := by rw [← hW1]; exact ((Kept.refl [] w).alloc _).alloc _
  have sW1 : W1.heap.size = w.heap.size + 2 := by rw [← hW1, World.size_alloc, World.size_alloc]
  refine ⟨w.heap.size + 1, [{ target := .collected w.heap.size, args := #[] }], W1, { target := .fn (.func gf) lb, args := #[.func (.yield (w.heap.size + 1)) #[] #[]] }, W1, gf,
    #[.func (.yield (w.heap.size + 1)) #[] #[]] ++ lb, W1, ?_, ?_, ?_, ?_, fun h => by simp [Fence.wide] at h, ?_⟩
  · rw [← hW1, hrec]; exact run_enterLoop_outer _ _ _ _ _
  · simp only [resolve, hg]
    simp [go_sem]
  · intro f' _; trivial
  · simp [invoke, go_sem, eg]
  · refine (callsIn_wide.2 (hit W1 kW1 sW1)).mono ?_
    rintro e W2 ⟨⟨v, rfl⟩, hk, hj⟩
    have hl := hk.heap hL1 (fun hm => by have := hks _ hm; omega)
    have hd := hk.heap hK1 (fun hm => by have := hks _ hm; omega)
    refine ⟨none, _, by have := run_endLoop (P := P) hl (by rw [hrec]; simp); rw [hrec] at this; exact this, hdone W2 _ hj ((kW1.mono (by simp) : Kept ks w W1).step hk (fun x hx => .inl hx)) (by rw [← sW1]; exact hk.size) ((Kept.refl _ _).putObj _ (.inl (by simp))) ?_⟩
    rw [World.putObj_heap_other (by omega)]
    exact hd

set_option maxHeartbeats 1000000 in
theorem chain_any (w : World) (P N A : Nat) : Calls Tryd.prog 22 #[.pointer (some ⟨P, 0, none⟩), .int .i64 (N : Int), .int .i64 (A : Int)] w fun e w' => ∃ a b c, e = .returned (.func (.func 36) #[] #[.pointer (some ⟨a, 0, none⟩), .pointer (some ⟨b, 0, none⟩), .pointer (some ⟨c, 0, none⟩)]) ∧ w'.heap[a]? = some (.cells #[.int .i64 (A : Int)] 3 (0, 0)) ∧ w'.heap[b]? = some (.cells #[.int .i64 (N : Int)] 3 (0, 0)) ∧ w'.heap[c]? = some (.cells #[.pointer (some ⟨P, 0, none⟩)] 35 (0, 0)) ∧ Kept [] w w' := by
  go_enter Tryd.func22, Tryd.ntmps22
  go_wp2
  go_ret
  have k1 := (Kept.refl [] w).alloc (.cells #[.pointer (some ⟨P, 0, none⟩)] 35 (0, 0))
  have k2 := (Kept.refl [] (w.alloc (.cells #[.pointer (some ⟨P, 0, none⟩)] 35 (0, 0)))).alloc (.cells #[.int .i64 (N : Int)] 3 (0, 0))
  have k3 := (Kept.refl [] ((w.alloc (.cells #[.pointer (some ⟨P, 0, none⟩)] 35 (0, 0))).alloc (.cells #[.int .i64 (N : Int)] 3 (0, 0)))).alloc (.cells #[.int .i64 (A : Int)] 3 (0, 0))
  have a1 := heap_alloc_new w (.cells #[.pointer (some ⟨P, 0, none⟩)] 35 (0, 0))
  have a2 := heap_alloc_new (w.alloc (.cells #[.pointer (some ⟨P, 0, none⟩)] 35 (0, 0))) (.cells #[.int .i64 (N : Int)] 3 (0, 0))
  have a3 := heap_alloc_new ((w.alloc (.cells #[.pointer (some ⟨P, 0, none⟩)] 35 (0, 0))).alloc (.cells #[.int .i64 (N : Int)] 3 (0, 0))) (.cells #[.int .i64 (A : Int)] 3 (0, 0))
  rw [World.size_alloc] at a2
  rw [World.size_alloc, World.size_alloc] at a3
  exact ⟨_, _, _, rfl, a3, k3.heap a2 (by simp), k3.heap (k2.heap a1 (by simp)) (by simp), (k1.trans k2).trans k3⟩
end Go.Proofs.YtlkbpimlofgflaaDoor
