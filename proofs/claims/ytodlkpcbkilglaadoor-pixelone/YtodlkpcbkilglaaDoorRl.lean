import Derived.Test.YtodlkpcbkilglaaDoorIt
namespace Go.Proofs.YtodlkpcbkilglaaDoor
open Go.RowKit Go.Shelf

/-- A range over a function, whose rounds may leave by return. -/
theorem range_lawL {P : Program} {g : Operand} {ps : Array Tmp} {assign body : Code} {Q : Exit → Act → World → Prop} {a : Act} {w : World} {gf : Nat} {lb : Array Value}
    (hg : a.eval g = .func (.func gf) #[] lb) (eg : ∀ args w, (callFunc gf args).run P w = .ok (.enter gf args) w)
    (I : Nat → World → Prop) (L : World → Prop) (N : Nat) (V : Nat → World → Array Value → Prop) (hps : ∀ k W v, V k W v → v.size = ps.size)
    (hIput : ∀ k W o, I k W → I k (W.putObj (w.heap.size + 1) o))
    (hIk : ∀ k W W', I k W → Kept [] W W' → I k W')
    (hLput : ∀ W o, L W → L (W.putObj (w.heap.size + 1) o))
    (hLk : ∀ W W', L W → Kept [] W W' → L W')
    (h0 : ∀ W1, Kept [] w W1 → W1.heap.size = w.heap.size + 2 → I 0 W1)
    (hit : ∀ (J : Nat → World → Prop) (E : World → Prop), (∀ k W, J k W → I k W) → (∀ k W W', J k W → Kept [] W W' → J k W') → (∀ W W', E W → Kept [] W W' → E W') → (∀ k W v, J k W → k < N → V k W v → YieldAt Fence.wide 0 P (w.heap.size + 1) v W (fun e W' => (e = .returned (.bool true) ∧ J (k + 1) W' ∨ e = .returned (.bool false) ∧ E W') ∧ Fu (w.heap.size + 2) W W')) → ∀ W1, J 0 W1 → w.heap.size + 2 ≤ W1.heap.size → CallsIn Fence.wide 0 P gf (#[.func (.yield (w.heap.size + 1)) #[] #[]] ++ lb) W1 (fun e W' => (∃ v, e = .returned v) ∧ (J N W' ∨ E W')))
    (hbody : ∀ k v W r, V k W v → k < N → I k W → W.heap[w.heap.size + 1]? = some (.loop r) → assign.wpIn (Fence.wide.inRound (w.heap.size + 1)) 0 P (Exit.then (fun a1 Wa => Kept [] W Wa ∧ ∀ (Wb : World), PutAt (w.heap.size + 1) Wa Wb → body.wpIn (Fence.wide.inRound (w.heap.size + 1)) 0 P (fun e _ W' => e = .normal ∧ Rnd w.heap.size (I (k + 1)) Wb W' ∨ e = .ret ∧ Rnd w.heap.size L Wb W') a1 Wb) (fun _ _ _ => False)) { tmps := (ps.zip v).foldl (fun t (p, v) => t.setIfInBounds p v) a.tmps, defers := [] } W)
    (hdone : ∀ W, I N W → W.heap[w.heap.size]? = some (.deferred (some [])) → Q .normal { a with defers := { target := .collected w.heap.size, args := #[] } :: a.defers } W)
    (hleft : ∀ W, L W → W.heap[w.heap.size]? = some (.deferred (some [])) → Q .ret { a with defers := { target := .collected w.heap.size, args := #[] } :: a.defers } W) :
    (Code.rangeFunc g ps assign body).wp P Q a w := by
  refine (wpIn_wide (n := 0)).1 (wpIn_rangeFunc ?_)
  intro fn hfn
  obtain ⟨rec, hrec⟩ : ∃ rec : LoopState → Option Code → Loop, rec = fun st pe => { state := st, pending := pe, fn, tmps := a.tmps, params := ps, assign, body, defers := w.heap.size } := ⟨_, rfl⟩
  obtain ⟨W1, hW1⟩ : ∃ W1, (w.alloc (.deferred (some []))).alloc (.loop (rec .ready none)) = W1 := ⟨_, rfl⟩
  have hL1 : W1.heap[w.heap.size + 1]? = some (.loop (rec .ready none)) := by
    rw [← hW1]; have := World.alloc_heap_new (w.alloc (.deferred (some []))) (.loop (rec .ready none)); rwa [World.size_alloc] at this
  have hK1 : W1.heap[w.heap.size]? = some (.deferred (some [])) := by
    rw [← hW1]; exact (Below.heap_alloc _ _ _ (by simp)).trans (World.alloc_heap_new w _)
  have kW1 : Kept [] w W1 := by rw [← hW1]; exact (alloc_kept w _).trans (alloc_kept _ _)
  refine ⟨w.heap.size + 1, [{ target := .collected w.heap.size, args := #[] }], W1, { target := .fn (.func gf) lb, args := #[.func (.yield (w.heap.size + 1)) #[] #[]] }, W1, gf,
    #[.func (.yield (w.heap.size + 1)) #[] #[]] ++ lb, W1, ?_, ?_, ?_, ?_, fun h => by simp [Fence.wide] at h, ?_⟩
  · rw [← hW1, hrec]; exact run_enterLoop_outer _ _ _ _ _
  · simp only [resolve, hg]
    simp [go_sem]
  · intro f' _; trivial
  · simp [invoke, go_sem, eg]
  · refine (hit (fun k W => I k W ∧ W.heap[w.heap.size + 1]? = some (.loop (rec .ready none)) ∧ W.heap[w.heap.size]? = some (.deferred (some []))) (fun W => L W ∧ W.heap[w.heap.size + 1]? = some (.loop (rec .done (some .ret))) ∧ W.heap[w.heap.size]? = some (.deferred (some []))) (fun k W h => h.1) (fun k W W' h hk => ⟨hIk k W W' h.1 hk, hk.heap h.2.1 (by simp), hk.heap h.2.2 (by simp)⟩) (fun W W' h hk => ⟨hLk W W' h.1 hk, hk.heap h.2.1 (by simp), hk.heap h.2.2 (by simp)⟩) ?_ W1 ⟨h0 W1 kW1 (by rw [← hW1, World.size_alloc, World.size_alloc]), hL1, hK1⟩ (by rw [← hW1, World.size_alloc, World.size_alloc]; omega)).mono ?_
    · rintro k W v ⟨hi, hl, hk⟩ hkN hv
      have hy := run_yield (P := P) (args := v) hl (by rw [hrec]; exact hps k W v hv)
      rw [hrec] at hy
      refine ⟨fn, _, assign, body, hy, roundIn_of_wpIn hfn ?_⟩
      refine wpIn_mono (hbody k v W _ hv hkN hi hl) ?_
      intro e a1 Wa hq
      cases e with
      | normal =>
        obtain ⟨hka, hb⟩ := hq
        have hl := hka.heap hl (by simp)
        have hk := hka.heap hk (by simp)
        have hlt : w.heap.size + 1 < Wa.heap.size := (Array.getElem?_eq_some_iff.1 hl).1
        refine ⟨_, run_beginRound hl (by rw [hrec]), ?_⟩
        refine wpIn_mono (hb _ ⟨_, rfl⟩) ?_
        have hl2 : (Wa.putObj (w.heap.size + 1) (.loop { rec .ready none with state := .busy })).heap[w.heap.size + 1]? = some (.loop { rec .ready none with state := .busy }) := World.putObj_heap_same hlt
        rintro e2 a2 W3 (⟨rfl, hi3, hfu, hl3, hk3⟩ | ⟨rfl, hi3, hfu, hl3, hk3⟩)
        · rw [hl2] at hl3
          rw [World.putObj_heap_other (by omega), hk] at hk3
          have hlt3 : w.heap.size + 1 < W3.heap.size := (Array.getElem?_eq_some_iff.1 hl3).1
          refine ⟨_, _, run_endRound none hl3, .inl ⟨rfl, hIput _ _ _ hi3, ?_, ?_⟩, (((hka.fu (by simp)).trans (Fu.putObj _ _ (by omega))).trans hfu).trans (Fu.putObj _ _ (by omega))⟩
          · rw [World.putObj_heap_same hlt3, hrec]
            rfl
          · rw [World.putObj_heap_other (by omega)]
            exact hk3
        · rw [hl2] at hl3
          rw [World.putObj_heap_other (by omega), hk] at hk3
          have hlt3 : w.heap.size + 1 < W3.heap.size := (Array.getElem?_eq_some_iff.1 hl3).1
          refine ⟨_, _, run_endRound (some .ret) hl3, .inr ⟨rfl, hLput _ _ hi3, ?_, ?_⟩, (((hka.fu (by simp)).trans (Fu.putObj _ _ (by omega))).trans hfu).trans (Fu.putObj _ _ (by omega))⟩
          · rw [World.putObj_heap_same hlt3, hrec]
            rfl
          · rw [World.putObj_heap_other (by omega)]
            exact hk3
      | exit id => exact hq.elim
      | goto t => exact hq.elim
      | ret => exact hq.elim
      | panic chain => exact hq.elim
      | outgrown => exact hq.elim
    · rintro e W2 ⟨⟨v, rfl⟩, h | h⟩
      · obtain ⟨hi, hl, hk⟩ := h
        refine ⟨none, _, by have := run_endLoop (P := P) hl (by rw [hrec]; simp); rw [hrec] at this; exact this, hdone _ (hIput _ _ _ hi) ?_⟩
        rw [World.putObj_heap_other (by omega)]
        exact hk
      · obtain ⟨hi, hl, hk⟩ := h
        refine ⟨some .ret, _, by have := run_endLoop (P := P) hl (by rw [hrec]; simp); rw [hrec] at this; exact this, ?_⟩
        exact wpIn_ret (hleft _ (hLput _ _ hi) (by rw [World.putObj_heap_other (by omega)]; exact hk))
end Go.Proofs.YtodlkpcbkilglaaDoor
