import Derived.Test.YtodlkpcbkilglaaDoorFm
import Derived.Test.YtodlkpcbkilglaaDoorRgZ
import Derived.Deep.RegionHeldLaw
import Derived.OrdersHeld
namespace Go.Proofs.YtodlkpcbkilglaaDoor
open Go.RowKit Go.Shelf

/-- Lists of planes that have their rows together, in memory from B on. -/
def Nn (w : World) (B g n : Nat) (m : Nat → Nat) (S : Nat → Nat → Nat) : Prop := B ≤ g ∧ ∀ i, i < n → ∃ b c, B ≤ b ∧ w.cell? ⟨g, i, none⟩ = some (.slice (some ⟨b, 0, none⟩) (m i) c) ∧ ∀ j, j < m i → w.cell? ⟨b, j, none⟩ = some (.int .i64 (S i j : Int))
/-- The blocks from m on that lay in W lie so in W'. -/
structure Fu (m : Nat) (W W' : World) : Prop where
  size : W.heap.size ≤ W'.heap.size
  block : ∀ k, m ≤ k → k < W.heap.size → W'.heap[k]? = W.heap[k]?
theorem Fu.refl (m : Nat) (W : World) : Fu m W W := ⟨Nat.le_refl _, fun _ _ _ => rfl⟩
theorem Fu.trans {m : Nat} {a b c : World} (h : Fu m a b) (k : Fu m b c) : Fu m a c := ⟨Nat.le_trans h.size k.size, fun i h1 h2 => (k.block i h1 (Nat.lt_of_lt_of_le h2 h.size)).trans (h.block i h1 h2)⟩
theorem Kept.fu {ks : List Nat} {W W' : World} (h : Kept ks W W') {m : Nat} (hk : ∀ x ∈ ks, x < m) : Fu m W W' := ⟨h.size, fun k h1 h2 => h.block k h2 (fun hm => by have := hk k hm; omega)⟩
theorem Fu.putObj (W : World) {m l : Nat} (o : Obj) (hl : l < m) : Fu m W (W.putObj l o) := ⟨by rw [World.putObj_size]; exact Nat.le_refl _, fun k h1 h2 => World.putObj_heap_other (by omega)⟩
theorem Fu.cell {m : Nat} {W W' : World} (h : Fu m W W') {g o : Nat} {v : Value} (hc : W.cell? ⟨g, o, none⟩ = some v) (hg : m ≤ g) : W'.cell? ⟨g, o, none⟩ = some v := by
  have hl := World.block_lt_of_cell? W _ hc
  rw [World.cell?_of_block (h.block g hg hl)]
  exact hc
theorem Nn.fu {w w' : World} {B g n t : Nat} {m : Nat → Nat} {S : Nat → Nat → Nat} (h : Nn w B g n m S) (hf : Fu t w w') (ht : t ≤ B) : Nn w' B g n m S := by
  obtain ⟨hg, h⟩ := h
  refine ⟨hg, fun i hi => ?_⟩
  obtain ⟨b, c, h0, h1, h2⟩ := h i hi
  exact ⟨b, c, h0, hf.cell h1 (by omega), fun j hj => hf.cell (h2 j hj) (by omega)⟩

set_option maxHeartbeats 4000000 in
set_option maxRecDepth 1000000 in
theorem nsets67 (W H D : Int) (A : Bool) (w : World) : Calls Tryd.prog 67 #[shv W H D A] w fun e w' => ∃ g c, e = .returned (.slice (some ⟨g, 0, none⟩) 1 c) ∧ Nn w' w.heap.size g 1 (fun _ => 3) (fun _ j => j) ∧ Kept [] w w' := by
  go_enter Tryd.func67, Tryd.ntmps67
  go_wp2
  go_ret
  refine ⟨_, _, rfl, ⟨by omega, fun i hi => ?_⟩, ((alloc_kept _ _).trans (alloc_kept _ _)).trans (alloc_kept _ _)⟩
  obtain rfl : i = 0 := by omega
  refine ⟨w.heap.size + 1, 3, by omega, by go_simp, fun j (hj : j < 3) => ?_⟩
  rcases (by omega : j = 0 ∨ j = 1 ∨ j = 2) with rfl | rfl | rfl
  · show World.cell? _ _ = some (.int .i64 0)
    go_simp
  · show World.cell? _ _ = some (.int .i64 1)
    go_simp
  · show World.cell? _ _ = some (.int .i64 2)
    go_simp

set_option maxHeartbeats 4000000 in
set_option maxRecDepth 1000000 in
theorem nsets59 (W H D : Int) (A : Bool) (w : World) : Calls Tryd.prog 59 #[shv W H D A] w fun e w' => ∃ g c, e = .returned (.slice (some ⟨g, 0, none⟩) (np A) c) ∧ Nn w' w.heap.size g (np A) (fun _ => 1) (fun i _ => i) ∧ Kept [] w w' := by
  go_enter Tryd.func59, Tryd.ntmps59
  cases A
  · go_wp2
    go_ret
    refine ⟨_, _, rfl, ⟨by omega, fun i hi => ?_⟩, ((((alloc_kept _ _).trans (alloc_kept _ _)).trans (alloc_kept _ _)).trans (alloc_kept _ _)).trans (alloc_kept _ _)⟩
    have hi3 : i < 3 := hi
    rcases (by omega : i = 0 ∨ i = 1 ∨ i = 2) with rfl | rfl | rfl
    · refine ⟨w.heap.size + 1, 1, by omega, by go_simp, fun j (hj : j < 1) => ?_⟩
      obtain rfl : j = 0 := by omega
      show World.cell? _ _ = some (.int .i64 0)
      go_simp
    · refine ⟨w.heap.size + 1 + 1, 1, by omega, by go_simp, fun j (hj : j < 1) => ?_⟩
      obtain rfl : j = 0 := by omega
      show World.cell? _ _ = some (.int .i64 1)
      go_simp
    · refine ⟨w.heap.size + 1 + 1 + 1, 1, by omega, by go_simp, fun j (hj : j < 1) => ?_⟩
      obtain rfl : j = 0 := by omega
      show World.cell? _ _ = some (.int .i64 2)
      go_simp
  · obtain ⟨j0, gi, gz0, gz1, gz2⟩ := info_parts Tryd.info86
    obtain ⟨u, eu⟩ : ∃ u, u = (((w.alloc (.cells #[.int .i64 W, .int .i64 H, .int .i64 D, .bool true] 24)).alloc (.cells #[.int .i64 0] 3)).alloc (.cells #[.int .i64 1] 3)).alloc (.cells #[.int .i64 2] 3) := ⟨_, rfl⟩
    have hz : u.heap.size = w.heap.size + 4 := by rw [eu]; simp only [World.size_alloc]
    have ho : (u.alloc (.cells #[.slice (some ⟨w.heap.size + 1, 0, none⟩) 1 1, .slice (some ⟨w.heap.size + 1 + 1, 0, none⟩) 1 1, .slice (some ⟨w.heap.size + 1 + 1 + 1, 0, none⟩) 1 1] 86)).ownsRow w.heap.size 86 1 (.slice (some ⟨u.heap.size, 0, none⟩) 3 3) 3 [.slice (some ⟨w.heap.size + 1, 0, none⟩) 1 1, .slice (some ⟨w.heap.size + 1 + 1, 0, none⟩) 1 1, .slice (some ⟨w.heap.size + 1 + 1 + 1, 0, none⟩) 1 1] := World.ownsRow_lit u #[.slice (some ⟨w.heap.size + 1, 0, none⟩) 1 1, .slice (some ⟨w.heap.size + 1 + 1, 0, none⟩) 1 1, .slice (some ⟨w.heap.size + 1 + 1 + 1, 0, none⟩) 1 1] 3 (by omega) (by decide) rfl
    have ho2 := (ho.alloc (.cells #[.int .i64 3] 3)).alloc (.cells #[.slice (some ⟨w.heap.size + 1 + 1 + 1 + 1 + 1, 0, none⟩) 1 1] 86)
    rw [eu] at ho2
    simp only [World.size_alloc] at ho2
    have HO := Hid.mk ho2
    clear ho ho2 eu hz
    go_wp2_with (at_builtin; refine wpList_append_own_at _ rfl _ _ 85 rfl w.heap.size 86 j0 (.slice none 0 0) 1 24 Tryd.underlying85 gi gz0 gz1 gz2 rfl (by decide) _ 3 _ rfl HO.out ⟨w.heap.size + 1 + 1 + 1 + 1 + 1 + 1, 0, none⟩ 1 1 [.slice (some ⟨w.heap.size + 1 + 1 + 1 + 1 + 1, 0, none⟩) 1 1] rfl rfl ?c2 ?c3 ?c4 ?c5 ?c6 ?_)
    case c2 =>
      intro j x hj
      match j, hj with
      | 0, hj =>
        simp at hj
        subst hj
        show World.cell? _ ⟨w.heap.size + 1 + 1 + 1 + 1 + 1 + 1, 0 + 0, none⟩ = _
        go_simp
    case c3 => intro x hx; simp at hx; subst hx; rfl
    case c4 => decide
    case c5 => decide
    case c6 => simp only [World.size_alloc]; omega
    intro v' w' h2 h3 h4 _
    have hk6 := Kept.of_grown h3
    have d1 := cell_keep hk6 (g := w.heap.size + 1) (o := 0) (v := .int .i64 0) (by go_simp) (by simp [Value.ownBlock])
    have d2 := cell_keep hk6 (g := w.heap.size + 1 + 1) (o := 0) (v := .int .i64 1) (by go_simp) (by simp [Value.ownBlock])
    have d3 := cell_keep hk6 (g := w.heap.size + 1 + 1 + 1) (o := 0) (v := .int .i64 2) (by go_simp) (by simp [Value.ownBlock])
    have d5 := cell_keep hk6 (g := w.heap.size + 1 + 1 + 1 + 1 + 1) (o := 0) (v := .int .i64 3) (by go_simp) (by simp [Value.ownBlock])
    have hk : Kept [] w w' := (((((((alloc_kept w _).trans (alloc_kept _ _)).trans (alloc_kept _ _)).trans (alloc_kept _ _)).trans (alloc_kept _ _)).trans (alloc_kept _ _)).trans (alloc_kept _ _)).step hk6 (fun x hx => by simp [Value.ownBlock] at hx; subst hx; exact .inr (by omega))
    rcases h2.2 with ⟨e, h0⟩ | ⟨g1, cap, cur, e, hb, hg, hc, _, hcs, htk⟩
    · exact absurd e h4
    · subst e
      have cl : ∀ i x, ([.slice (some ⟨w.heap.size + 1, 0, none⟩) 1 1, .slice (some ⟨w.heap.size + 1 + 1, 0, none⟩) 1 1, .slice (some ⟨w.heap.size + 1 + 1 + 1, 0, none⟩) 1 1, .slice (some ⟨w.heap.size + 1 + 1 + 1 + 1 + 1, 0, none⟩) 1 1] : List Value)[i]? = some x → w'.cell? ⟨g1, i, none⟩ = some x := fun i x hx => by
        have hcc := h2.cells (g := g1) rfl i x hx
        rw [show (⟨g1, 0, none⟩ : Addr).add i = ⟨g1, 0 + i, none⟩ by unfold Addr.add; split <;> simp_all, Nat.zero_add] at hcc
        exact hcc
      have HN : Hid (Nn w' w.heap.size g1 (np true) (fun _ => 1) (fun i _ => i) ∧ Kept [] w w') := Hid.mk ⟨⟨hb, fun i (hi : i < 4) => by
        rcases (by omega : i = 0 ∨ i = 1 ∨ i = 2 ∨ i = 3) with rfl | rfl | rfl | rfl
        · exact ⟨_, _, by omega, cl 0 _ rfl, fun j (hj : j < 1) => by
            obtain rfl : j = 0 := by omega
            exact d1⟩
        · exact ⟨_, _, by omega, cl 1 _ rfl, fun j (hj : j < 1) => by
            obtain rfl : j = 0 := by omega
            exact d2⟩
        · exact ⟨_, _, by omega, cl 2 _ rfl, fun j (hj : j < 1) => by
            obtain rfl : j = 0 := by omega
            exact d3⟩
        · exact ⟨_, _, by omega, cl 3 _ rfl, fun j (hj : j < 1) => by
            obtain rfl : j = 0 := by omega
            exact d5⟩⟩, hk⟩
      clear d1 d2 d3 d5 cl h2 h3 h4 hk hk6 hb hg hc hcs htk
      go_wp2
      go_ret
      exact ⟨g1, cap, rfl, HN.out⟩
end Go.Proofs.YtodlkpcbkilglaaDoor

namespace Go.Proofs.YtodlkpcbkilglaaDoor
open Go.RowKit Go.Shelf

/-- The loop's record is written. -/
def PutAt (l : Nat) (Wa Wb : World) : Prop := ∃ rb : Loop, Wb = Wa.putObj l (.loop rb)
/-- What a round leaves. -/
def Rnd (s : Nat) (I : World → Prop) (Wb W' : World) : Prop := I W' ∧ Fu (s + 2) Wb W' ∧ W'.heap[s + 1]? = Wb.heap[s + 1]? ∧ W'.heap[s]? = Wb.heap[s]?
/-- A range over a function, none of whose rounds leaves; what is told may hang on the world. -/
theorem range_lawV {P : Program} {g : Operand} {ps : Array Tmp} {assign body : Code} {Q : Exit → Act → World → Prop} {a : Act} {w : World} {gf : Nat} {lb : Array Value}
    (hg : a.eval g = .func (.func gf) #[] lb) (eg : ∀ args w, (callFunc gf args).run P w = .ok (.enter gf args) w)
    (I : Nat → World → Prop) (N : Nat) (V : Nat → World → Array Value → Prop) (hps : ∀ k W v, V k W v → v.size = ps.size)
    (hIput : ∀ k W o, I k W → I k (W.putObj (w.heap.size + 1) o))
    (hIk : ∀ k W W', I k W → Kept [] W W' → I k W')
    (h0 : ∀ W1, Kept [] w W1 → W1.heap.size = w.heap.size + 2 → I 0 W1)
    (hit : ∀ (J : Nat → World → Prop), (∀ k W, J k W → I k W) → (∀ k W W', J k W → Kept [] W W' → J k W') → (∀ k W v, J k W → k < N → V k W v → YieldAt Fence.wide 0 P (w.heap.size + 1) v W (fun e W' => e = .returned (.bool true) ∧ J (k + 1) W' ∧ Fu (w.heap.size + 2) W W')) → ∀ W1, J 0 W1 → w.heap.size + 2 ≤ W1.heap.size → CallsIn Fence.wide 0 P gf (#[.func (.yield (w.heap.size + 1)) #[] #[]] ++ lb) W1 (fun e W' => (∃ v, e = .returned v) ∧ J N W'))
    (hbody : ∀ k v W r, V k W v → k < N → I k W → W.heap[w.heap.size + 1]? = some (.loop r) → assign.wpIn (Fence.wide.inRound (w.heap.size + 1)) 0 P (Exit.then (fun a1 Wa => Kept [] W Wa ∧ ∀ (Wb : World), PutAt (w.heap.size + 1) Wa Wb → body.wpIn (Fence.wide.inRound (w.heap.size + 1)) 0 P (fun e _ W' => e = .normal ∧ Rnd w.heap.size (I (k + 1)) Wb W') a1 Wb) (fun _ _ _ => False)) { tmps := (ps.zip v).foldl (fun t (p, v) => t.setIfInBounds p v) a.tmps, defers := [] } W)
    (hdone : ∀ W, I N W → W.heap[w.heap.size]? = some (.deferred (some [])) → Q .normal { a with defers := { target := .collected w.heap.size, args := #[] } :: a.defers } W) :
    (Code.rangeFunc g ps assign body).wp P Q a w := by
  refine (wpIn_wide (n := 0)).1 (wpIn_rangeFunc ?_)
  intro fn hfn
  obtain ⟨rec, hrec⟩ : ∃ rec : LoopState → Option Code → Loop, rec = fun st pe => { state := st, pending := pe, fn, tmps := a.tmps, params := ps, assign, body, defers := w.heap.size } := ⟨_, rfl⟩
  obtain ⟨W1, hW1⟩ : ∃ W1, (w.alloc (.deferred (some []))).alloc (.loop (rec .ready none)) = W1 := ⟨_, rfl⟩
  have hL1 : W1.heap[w.heap.size + 1]? = some (.loop (rec .ready none)) := by
    rw [← hW1]; have := World.alloc_heap_new (w.alloc (.deferred (some []))) (.loop (rec .ready none)); rwa [World.size_alloc] at this
  have hK1 : W1.heap[w.heap.size]? = some (.deferred (some [])) := by
    rw [← hW1]; exact (Below.heap_alloc _ _ _ (by simp)).trans (World.alloc_heap_new w _)
  have kW1 : Kept [] w W1 := by rw [← hW1]; exact (alloc_kept w _).trans (alloc_kept _ _)
  refine ⟨w.heap.size + 1, [{ target := .collected w.heap.size, args := #[] }], W1, { target := .fn (.func gf) lb, args := #[.func (.yield (w.heap.size + 1)) #[] #[]] }, W1, gf,
    #[.func (.yield (w.heap.size + 1)) #[] #[]] ++ lb, W1, ?_, ?_, ?_, ?_, fun h => by simp [Fence.wide] at h, ?_⟩
  · rw [← hW1, hrec]; exact run_enterLoop_outer _ _ _ _ _
  · simp only [resolve, hg]
    simp [go_sem]
  · intro f' _; trivial
  · simp [invoke, go_sem, eg]
  · refine (hit (fun k W => I k W ∧ W.heap[w.heap.size + 1]? = some (.loop (rec .ready none)) ∧ W.heap[w.heap.size]? = some (.deferred (some []))) (fun k W h => h.1) (fun k W W' h hk => ⟨hIk k W W' h.1 hk, hk.heap h.2.1 (by simp), hk.heap h.2.2 (by simp)⟩) ?_ W1 ⟨h0 W1 kW1 (by rw [← hW1, World.size_alloc, World.size_alloc]), hL1, hK1⟩ (by rw [← hW1, World.size_alloc, World.size_alloc]; omega)).mono ?_
    · rintro k W v ⟨hi, hl, hk⟩ hkN hv
      have hy := run_yield (P := P) (args := v) hl (by rw [hrec]; exact hps k W v hv)
      rw [hrec] at hy
      refine ⟨fn, _, assign, body, hy, roundIn_of_wpIn hfn ?_⟩
      refine wpIn_mono (hbody k v W _ hv hkN hi hl) ?_
      intro e a1 Wa hq
      cases e with
      | normal =>
        obtain ⟨hka, hb⟩ := hq
        have hl := hka.heap hl (by simp)
        have hk := hka.heap hk (by simp)
        have hlt : w.heap.size + 1 < Wa.heap.size := (Array.getElem?_eq_some_iff.1 hl).1
        refine ⟨_, run_beginRound hl (by rw [hrec]), ?_⟩
        refine wpIn_mono (hb _ ⟨_, rfl⟩) ?_
        rintro e2 a2 W3 ⟨rfl, hi3, hfu, hl3, hk3⟩
        have hl2 : (Wa.putObj (w.heap.size + 1) (.loop { rec .ready none with state := .busy })).heap[w.heap.size + 1]? = some (.loop { rec .ready none with state := .busy }) := World.putObj_heap_same hlt
        rw [hl2] at hl3
        rw [World.putObj_heap_other (by omega), hk] at hk3
        have hlt3 : w.heap.size + 1 < W3.heap.size := (Array.getElem?_eq_some_iff.1 hl3).1
        refine ⟨_, _, run_endRound none hl3, rfl, ⟨hIput _ _ _ hi3, ?_, ?_⟩, (((hka.fu (by simp)).trans (Fu.putObj _ _ (by omega))).trans hfu).trans (Fu.putObj _ _ (by omega))⟩
        · rw [World.putObj_heap_same hlt3, hrec]
          rfl
        · rw [World.putObj_heap_other (by omega)]
          exact hk3
      | exit id => exact hq.elim
      | goto t => exact hq.elim
      | ret => exact hq.elim
      | panic chain => exact hq.elim
      | outgrown => exact hq.elim
    · rintro e W2 ⟨⟨v, rfl⟩, hi, hl, hk⟩
      refine ⟨none, _, by have := run_endLoop (P := P) hl (by rw [hrec]; simp); rw [hrec] at this; exact this, hdone _ (hIput _ _ _ hi) ?_⟩
      rw [World.putObj_heap_other (by omega)]
      exact hk
end Go.Proofs.YtodlkpcbkilglaaDoor

namespace Go.Proofs.YtodlkpcbkilglaaDoor
open Go.RowKit Go.Shelf

theorem wpOpIn_round {P : Program} {ops : Array Oper} {Q : Exit → Act → World → Prop} {l i : Nat} (hnd : ∀ (i : Nat) (o : Oper), ops[i]? = some o → ∀ c, o.op ≠ .defer c) {K K' : Act → World → Prop} (hK : ∀ a w, K a w → K' a w) (hlo : ¬ LetsOut Q) {a : Act} {w : World}
    (h : wpOp P ops Q i K a w) : wpOpIn (Fence.wide.inRound l) 0 P ops Q i K' a w := by
  unfold wpOp at h
  unfold wpOpIn
  cases ho : ops[i]? with
  | none => rw [ho] at h; exact hK _ _ h
  | some o =>
    rw [ho] at h
    simp only [] at h ⊢
    by_cases hw : Region.wanted o (yielded ops a.tmps) = true
    · rw [if_pos hw] at h ⊢
      replace h : o.wp P a w K Q := h.resolve_right (fun h2 => hlo h2.2)
      refine ⟨fun f _ => trivial, ?_⟩
      show o.uponIn (Fence.wide.inRound l) 0 P a K' Q ((o.semAt (some l) a.eval).run P w)
      rw [Oper.semAt_some l a.eval o (hnd i o ho)]
      unfold Oper.wp at h
      generalize (execOp a.eval o).run P w = r at h ⊢
      cases r with
      | ok x w' =>
        cases x with
        | value v => exact hK _ _ h
        | skip => exact hK _ _ h
        | defer d => exact hK _ _ h
        | enter f args =>
          refine ⟨fun hd => (by cases hd), (CallsIn.inRound l (callsIn_wide.2 h)).mono ?_⟩
          intro e w'' hr
          cases e with
          | returned v => exact hK _ _ hr
          | panicked chain => exact hr
          | outgrown => exact hr
        | row row args =>
          refine ⟨fun hd => (by cases hd), fun c cs _ => ?_⟩
          obtain ⟨v, w'', hr, hs⟩ := h c cs
          exact ⟨v, w'', hK _ _ hr, stepsIn_wide.2 hs⟩
        | _ => exact h.elim
      | halt x w' =>
        cases x <;> first | exact h | exact h.elim
    · rw [if_neg hw] at h ⊢
      exact ⟨fun f _ => trivial, hK _ _ h⟩
theorem wpAnyIn_round {P : Program} {md : Region.Mode} {ops : Array Oper} {Q : Exit → Act → World → Prop} {l : Nat} (hnd : ∀ (i : Nat) (o : Oper), ops[i]? = some o → ∀ c, o.op ≠ .defer c) (hlo : ¬ LetsOut Q) :
    ∀ (fuel : Nat) (listed : Array Bool) (a : Act) (w : World), wpAny P md ops Q fuel listed a w → wpAnyIn (Fence.wide.inRound l) 0 P md ops Q fuel listed a w
  | 0, _, _, _, h => h
  | fuel + 1, _, _, _, h => ⟨h.1, fun i hi => wpOpIn_round hnd (fun a w h => wpAnyIn_round hnd hlo fuel _ a w h) hlo (h.2 i hi)⟩
/-- No operation of a region is a defer. -/
def noDefer (ops : Array Oper) : Bool := ops.all fun o => match o.op with | .defer _ => false | _ => true
theorem noDefer_spec {ops : Array Oper} (h : noDefer ops = true) (i : Nat) (o : Oper) (ho : ops[i]? = some o) (c : Call) : o.op ≠ .defer c := by
  intro e
  unfold noDefer at h
  rw [Array.all_eq_true] at h
  obtain ⟨hi, rfl⟩ := Array.getElem?_eq_some_iff.1 ho
  have := h i hi
  rw [e] at this
  cases this
/-- A region that draws, within a round, by what is held. -/
theorem wpIn_region_heldR {P : Program} {id : Nat} {ops : Array Oper} {Q : Exit → Act → World → Prop} {l : Nat} {a : Act} {w : World} (S : World → Prop) (hm : P.follows .mixedOrders = true) (hn : noDefer ops = true) (hlo : ¬ LetsOut Q) (hS : S w.drew)
    (h : S w.drew → wpAnyH P .any ops Q S ops.size (Array.replicate ops.size false) a w.drew) : (Code.region id ops true).wpIn (Fence.wide.inRound l) 0 P Q a w :=
  wpIn_region_any hm (wpAnyIn_round (noDefer_spec hn) hlo _ _ _ _ (wpAny_of_held _ _ _ _ (h hS)))
end Go.Proofs.YtodlkpcbkilglaaDoor
