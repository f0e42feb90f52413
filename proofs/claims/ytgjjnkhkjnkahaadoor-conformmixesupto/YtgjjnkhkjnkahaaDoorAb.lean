import Derived.RangeFuncNested
import Derived.RangeFuncBound
import Derived.RangeFuncCalls
import Derived.RangeFuncLeaves
import Derived.Shelf.Abstract
import Derived.Shelf.RegionOpen
import Derived.OwnWalkIn
import Derived.TacticsInMore
import Derived.LoopNIn
import Derived.LoopIn
import Derived.Laws.EntriesVeiled
import Derived.Test.YtgjjnkhkjnkahaaDoorAa
namespace Go.Proofs.YtgjjnkhkjnkahaaDoor
open Go.RowKit Go.Shelf

theorem Kept.putObj {w W : World} {ks : List Nat} (h : Kept ks w W) {l : Nat} (o : Obj) (hl : l ∈ ks ∨ w.heap.size ≤ l) : Kept ks w (W.putObj l o) :=
  ⟨h.os, h.tape, h.output, by rw [World.putObj_size]; exact h.size, fun k hk hn => by
    rw [World.putObj_heap_other (fun e => by subst e; rcases hl with h1 | h1; exact hn h1; omega)]
    exact h.block k hk hn⟩

/-- A range over a function that tells nothing. -/
theorem range_none {P : Program} {g : Operand} {ps : Array Tmp} {assign body : Code} {Q : Exit → Act → World → Prop} {a : Act} {w : World} {gf : Nat} {lb : Array Value}
    (hg : a.eval g = .func (.func gf) #[] lb) (eg : ∀ args w, (callFunc gf args).run P w = .ok (.enter gf args) w)
    (ks : List Nat) (hks : ∀ x ∈ ks, x < w.heap.size) (J : World → Prop)
    (hit : ∀ W1, Kept [] w W1 → W1.heap.size = w.heap.size + 2 → Calls P gf (#[.func (.yield (w.heap.size + 1)) #[] #[]] ++ lb) W1 (fun e W' => (∃ v, e = .returned v) ∧ Kept ks W1 W' ∧ J W'))
    (hdone : ∀ W' W, J W' → Kept ks w W' → w.heap.size + 2 ≤ W'.heap.size → Kept [w.heap.size + 1] W' W → W.heap[w.heap.size]? = some (.deferred (some [])) → Q .normal { a with defers := { target := .collected w.heap.size, args := #[] } :: a.defers } W) :
    (Code.rangeFunc g ps assign body).wp P Q a w := by
  refine (wpIn_wide (n := 0)).1 (wpIn_rangeFunc ?_)
  intro fn hfn
  obtain ⟨rec, hrec⟩ : ∃ rec : LoopState → Option Code → Loop, rec = fun st pe => { state := st, pending := pe, fn, tmps := a.tmps, params := ps, assign, body, defers := w.heap.size } := ⟨_, rfl⟩
  obtain ⟨W1, hW1⟩ : ∃ W1, (w.alloc (.deferred (some []))).alloc (.loop (rec .ready none)) = W1 := ⟨_, rfl⟩
  have hL1 : W1.heap[w.heap.size + 1]? = some (.loop (rec .ready none)) := by
    rw [← hW1]; have := World.alloc_heap_new (w.alloc (.deferred (some []))) (.loop (rec .ready none)); rwa [World.size_alloc] at this
  have hK1 : W1.heap[w.heap.size]? = some (.deferred (some [])) := by
    rw [← hW1]; exact (Below.heap_alloc _ _ _ (by simp)).trans (World.alloc_heap_new w _)
  have kW1 : Kept [] w W1 := by rw [← hW1]; exact ((Kept.refl [] w).alloc _).alloc _
  have sW1 : W1.heap.size = w.heap.size + 2 := by rw [← hW1, World.size_alloc, World.size_alloc]
  refine ⟨w.heap.size + 1, [{ target := .collected w.heap.size, args := #[] }], W1, { target := .fn (.func gf) lb, args := #[.func (.yield (w.heap.size + 1)) #[] #[]] }, W1, gf,
    #[.func (.yield (w.heap.size + 1)) #[] #[]] ++ lb, W1, ?_, ?_, ?_, ?_, fun h => by simp [Fence.wide] at h, ?_⟩
  · rw [← hW1, hrec]; exact run_enterLoop_outer _ _ _ _ _
  · simp only [resolve, hg]
    simp [go_sem]
  · intro f' _; trivial
  · simp [invoke, go_sem, eg]
  · refine (callsIn_wide.2 (hit W1 kW1 sW1)).mono ?_
    rintro e W2 ⟨⟨v, rfl⟩, hk, hj⟩
    have hl := hk.heap hL1 (fun hm => by have := hks _ hm; omega)
    have hd := hk.heap hK1 (fun hm => by have := hks _ hm; omega)
    refine ⟨none, _, by have := run_endLoop (P := P) hl (by rw [hrec]; simp); rw [hrec] at this; exact this, hdone W2 _ hj ((kW1.mono (by simp) : Kept ks w W1).step hk (fun x hx => .inl hx)) (by rw [← sW1]; exact hk.size) ((Kept.refl _ _).putObj _ (.inl (by simp))) ?_⟩
    rw [World.putObj_heap_other (by omega)]
    exact hd

set_option maxHeartbeats 4000000 in
set_option maxRecDepth 1000000 in
theorem steps_x (w : World) : Calls Tryd.prog 21 #[lx, .map none] w fun e w' => ∃ b, e = .returned (.func (.func 34) #[] #[.pointer (some ⟨b, 0, none⟩), .pointer (some ⟨b + 1, 0, none⟩)]) ∧ w'.heap[b]? = some (.cells #[.string ⟨#[120]⟩, .int .i64 2, .slice none 0 0] 51 (0, 0)) ∧ Kept [] w w' := by
  go_enter Tryd.func21, Tryd.ntmps21
  go_wp2_with (fail)
  go_ret
  exact ⟨_, rfl, (alloc_kept _ _).heap (heap_alloc_new w _) (by simp), (alloc_kept _ _).trans (alloc_kept _ _)⟩
set_option maxHeartbeats 4000000 in
set_option maxRecDepth 1000000 in
theorem tells_x (y : Value) (b : Nat) (v : Value) (w : World) (hb : w.heap[b]? = some (.cells #[.string ⟨#[120]⟩, .int .i64 2, .slice none 0 0] 51 (0, 0))) : Calls Tryd.prog 34 #[y, .pointer (some ⟨b, 0, none⟩), v] w fun e w' => e = .returned (.tuple #[]) ∧ w' = w := by
  obtain ⟨x0, x1, x2⟩ := cut_cells hb
  clear hb
  go_enter Tryd.func34, Tryd.ntmps34
  go_wp2_with (fail)
  go_loopw [9] (fun i wr => i = .int .i64 0 ∧ wr = w) (fun _ _ => 0)
  case atStart => exact ⟨rfl, rfl⟩
  case round =>
    obtain ⟨rfl, rfl⟩ := hrel
    go_wp2_with (fail)
    refine bodyPost_end (v := .tuple #[]) (results_none rfl _ _ _) rfl ?_
    exact ⟨rfl, rfl⟩
theorem Tryd.infoS : (Tryd.prog.info? 63).map (fun i => (i.zero, i.size, i.bytes)) = some (some (.agg #[.string ⟨#[]⟩, .int .i64 0, .string ⟨#[]⟩, .int .i64 0, .int .i64 0, .int .i64 0]), 6, 64) := by kernel_rfl
theorem make_steps (w : World) : ∃ w', Sem.run Tryd.prog (Instr.makeSlice 43 (.int .i64 0) (.int .i64 0)) w = .ok (.slice (some ⟨w.heap.size, 0, none⟩) 0 0) w' ∧ Kept [] w w' := by
  obtain ⟨j0, gi, gz0, gz1, gz2⟩ := info_parts Tryd.infoS
  obtain ⟨w', hrun, r1, r2⟩ := run_make_full (P := Tryd.prog) w 0 43 63 j0 _ 6 Tryd.underlying43 gi gz0 gz1 .i64 .i64 0 (by rw [gz2]; omega) (by unfold maxLen; omega) (by omega)
  exact ⟨w', hrun, (Kept.of_grown r2).mono (by simp)⟩
set_option maxHeartbeats 4000000 in
set_option maxRecDepth 1000000 in
theorem Plan_x (w : World) (hT : Tc.Tb w) : Calls Tryd.prog 14 #[lx, .map none] w fun e w' => ∃ a, e = .returned (.tuple #[.slice a 0 0, .nilIface]) ∧ Kept [] w w' := by
  obtain ⟨w1, e1⟩ : ∃ w1, w.alloc (.cells #[.string ⟨#[120]⟩, .int .i64 2, .slice none 0 0] 51 (0, 0)) = w1 := ⟨_, rfl⟩
  have k1 : Kept [] w w1 := by rw [← e1]; exact alloc_kept _ _
  have b1 := heap_alloc_new w (.cells #[.string ⟨#[120]⟩, .int .i64 2, .slice none 0 0] 51 (0, 0))
  rw [e1] at b1
  have C := Hid.mk (check_x (.map none) w1 (hT.keep k1))
  have HT := Hid.mk (hT.keep k1)
  have HB := Hid.mk b1
  have K1 := Hid.mk k1
  obtain ⟨x0, x1, x2⟩ := cut_cells b1
  clear b1 k1 hT
  refine (callsIn_wide (n := 0)).1 ?_
  refine callsIn_of_wp_marks Tryd.func14 rfl trivial ?_ rfl
  simp only [Tryd.ntmps14, List.size_toArray, List.length_cons, List.length_nil, Nat.reduceAdd, Nat.reduceSub, Array.replicate_succ, Array.replicate_zero, List.push_toArray, List.append_toArray, List.nil_append, List.cons_append]
  refine wpIn_wide.2 ?_
  go_wp2_with (fail)
  refine C.out.mono ?_
  rintro e w3 ⟨rfl, k3⟩
  have CL := Hid.mk (Length_x w3 (HT.out.keep k3))
  obtain ⟨y0, y1, y2⟩ := cut_cells (k3.heap HB.out (by simp))
  have K3 := Hid.mk k3
  clear k3 x0 x1 x2 C
  go_wp2_with (fail)
  refine CL.out.mono ?_
  rintro e w4 ⟨rfl, k4⟩
  have K4 := Hid.mk (K3.out.trans k4)
  obtain ⟨z0, z1, z2⟩ := cut_cells (K4.out.heap HB.out (by simp))
  obtain ⟨w5, hmk, k5⟩ := make_steps w4
  obtain ⟨w6, e6⟩ : ∃ w6, w5.alloc (.cells #[.slice (some ⟨w4.heap.size, 0, none⟩) 0 0] 43 (0, 0)) = w6 := ⟨_, rfl⟩
  have k6 : Kept [] w5 w6 := by rw [← e6]; exact alloc_kept _ _
  have b6 := heap_alloc_new w5 (.cells #[.slice (some ⟨w4.heap.size, 0, none⟩) 0 0] 43 (0, 0))
  rw [e6] at b6
  have K6 := Hid.mk (K4.out.trans (k5.trans k6))
  have HB6 := Hid.mk b6
  obtain ⟨q0, q1, q2⟩ := cut_cells (K6.out.heap HB.out (by simp))
  clear k4 y0 y1 y2 CL k5 k6 b6 z0 z1 z2
  go_wp2_with (fail)
  refine (steps_x w6).mono ?_
  rintro e w7 ⟨b, rfl, hb, k7⟩
  have K7 := Hid.mk (K6.out.trans k7)
  have HB7 := Hid.mk (k7.heap HB6.out (by simp))
  have HB8 := Hid.mk hb
  obtain ⟨X, eX⟩ : ∃ X, w5.heap.size = X := ⟨_, rfl⟩
  simp only [eX] at HB7 ⊢
  clear k7 q0 q1 q2 hb e6 hmk e1
  go_wp2_with (fail)
  refine range_none (gf := 34) rfl (enters_of Tryd.func34 (by kernel_rfl) rfl) [] (by simp) (fun W' => True) ?hit ?hdone
  case hit =>
    intro W1 kW sW
    refine (tells_x _ b _ W1 (kW.heap HB8.out (by simp))).mono ?_
    rintro e w' ⟨rfl, rfl⟩
    exact ⟨⟨_, rfl⟩, Kept.refl _ _, trivial⟩
  case hdone =>
    rintro W' W - kA sA kB hD
    have lx7 : X < w7.heap.size := lt_of_block HB7.out
    have hX := kB.heap (kA.heap HB7.out (by simp)) (by simp; omega)
    have c0 : W.cell? ⟨X, 0, none⟩ = some (.slice (some ⟨w4.heap.size, 0, none⟩) 0 0) := by simp [World.cell?, hX]
    have KC : Hid (Kept [] w W) := Hid.mk ((K1.out.trans (K7.out.trans kA)).step kB (fun x hx => by simp at hx; subst hx; exact .inr (by have := (K1.out.trans K7.out).size; omega)))
    have HD := Hid.mk hD
    obtain ⟨D, eD⟩ : ∃ D, w7.heap.size = D := ⟨_, rfl⟩
    have LD : Hid (w.heap.size ≤ D) := Hid.mk (by have := (K1.out.trans K7.out).size; omega)
    rw [eD] at HD ⊢
    clear kA sA kB hD hX lx7 eD
    go_wp2_with (fail)
    have kF : Kept [D] W (W.putObj D (.deferred none)) := (Kept.refl _ _).putObj _ (.inl (by simp))
    refine ⟨by simp, .inl ⟨_, _, rfl, run_takeDeferred HD.out, ?_⟩⟩
    refine ⟨_, results_tmp2 rfl _ _ _, _, rfl, KC.out.step kF (fun x hx => by simp at hx; subst hx; exact .inr LD.out)⟩
end Go.Proofs.YtgjjnkhkjnkahaaDoor
