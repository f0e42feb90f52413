import Derived.Test.YtodlkpcbkilglaaDoorItZ
namespace Go.Proofs.YtodlkpcbkilglaaDoor
open Go.RowKit Go.Shelf

/-- A range over a function, whose rounds may leave by return. -/
theorem range_lawL {P : Program} {g : Operand} {ps : Array Tmp} {assign body : Code} {Q : Exit → Act → World → Prop} {a : Act} {w : World} {gf : Nat} {lb : Array Value}
    (hg : a.eval g = .func (.func gf) #[] lb) (eg : ∀ args w, (callFunc gf args).run P w = .ok (.enter gf args) w)
    (I : Nat → World → Prop) (L : World → Prop) (N : Nat) (V : Nat → World → Array Value → Prop) (hps : ∀ k W v, V k W v → v.size = ps.size)
    (hIput : ∀ k W o, I k W → I k (W.putObj (w.heap.size + 1) o))
    (hIk : ∀ k W W', I k W → Kept [] W W' → I k W')
    (hLput : ∀ W o, L W → L (W.putObj (w.heap.size + 1) o))
    (hLk : ∀ W W', L W → Kept [] W W' → L W')
    (h0 : ∀ W1, Kept [] w W1 → W1.heap.size = w.heap.size + 2 → I 0 W1)
    (hit : ∀ (J : Nat → World → Prop) (E : World → Prop), (∀ k W, J k W → I k W) → (∀ k W W', J k W → Kept [] W W' → J k W') → (∀ W W', E W → Kept [] W W' → E W') → (∀ k W v, J k W → k < N → V k W v → YieldAt Fence.wide 0 P (w.heap.size + 1) v W (fun e W' => (e = .returned (.bool true) ∧ J (k + 1) W' ∨ e = .returned (.bool false) ∧ E W') ∧ Fu (w.heap.size + 2) W W')) → ∀ W1, J 0 W1 → w.heap.size + 2 ≤ W1.heap.size → CallsIn Fence.wide 0 P gf (#[.func (.yield (w.heap.size + 1)) #[] #[]] ++ lb) W1 (fun e W' => (∃ v, e = .returned v) ∧ (J N W' ∨ E W')))
    (hbody : ∀ k v W r, V k W v → k < N → I k W → W.heap[w.heap.size + 1]? = some (.loop r) → assign.wpIn (Fence.wide.inRound (w.heap.size + 1)) 0 P (Exit.then (fun a1 Wa => Kept [] W Wa ∧ ∀ (Wb : World), PutAt (w.heap.size + 1) Wa Wb → body.wpIn (Fence.wide.inRound (w.heap.size + 1)) 0 P (fun e _ W' => e = .normal ∧ Rnd w.heap.size (I (k + 1)) Wb W' ∨ e = .ret ∧ Rnd w.heap.size L Wb W') a1 Wb) (fun _ _ _ => False)) { tmps := (ps.zip v).foldl (fun t (p, v) => t.setIfInBounds p v) a.tmps, defers := [] } W)
    (hdone : ∀ W, I N W → W.heap[w.heap.size]? = some (.deferred (some [])) → Q .normal { a with defers := { target := .collected w.heap.size, args := #[] } :: a.defers } W)
    (hleft : ∀ W, L W → W.heap[w.heap.size]? = some (.deferred (some [])) → Q .ret { a with defers := { target := .collected w.heap.size, args := #[] } :: a.defers } W) :
    (Code.rangeFunc g ps assign body).wp P Q a w := by
  refine (wpIn_wide (n := 0)).1 (wpIn_rangeFunc ?_)
  intro fn hfn
  obtain ⟨rec, hrec⟩ : ∃ rec : LoopState → Option Code → Loop, rec = fun st pe => { state := st, pending := pe, fn, tmps := a.tmps, params := ps, assign, body, defers := w.heap.size } := ⟨_, rfl⟩
  obtain ⟨W1, hW1⟩ : ∃ W1, (w.alloc (.deferred (some []))).alloc (.loop (rec .ready none)) = W1 := ⟨_, rfl⟩
  have hL1 : W1.heap[w.heap.size + 1]? = some (.loop (rec .ready none)) := by
    rw [← hW1]; have := World.alloc_heap_new (w.alloc (.deferred (some []))) (.loop (rec .ready none)); rwa [World.size_alloc] at this
  have hK1 : W1.heap[w.heap.size]? = some (.deferred (some [])) := by
    rw [← hW1]; exact (Below.heap_alloc _ _ _ (by simp)).trans (World.alloc_heap_new w _)
  have kW1 : Kept [] w W1 := by rw [← hW1]; exact (alloc_kept w _).trans (alloc_kept _ _)
  refine ⟨w.heap.size + 1, [{ target := .collected w.heap.size, args := #[] }], W1, { target := .fn (.func gf) lb, args := #[.func (.yield (w.heap.size + 1)) #[] #[]] }, W1, gf,
    #[.func (.yield (w.heap.size + 1)) #[] #[]] ++ lb, W1, ?_, ?_, ?_, ?_, fun h => by simp [Fence.wide] at h, ?_⟩
  · rw [← hW1, hrec]; exact run_enterLoop_outer _ _ _ _ _
  · simp only [resolve, hg]
    simp [go_sem]
  · intro f' _; trivial
  · simp [invoke, go_sem, eg]
  · refine (hit (fun k W => I k W ∧ W.heap[w.heap.size + 1]? = some (.loop (rec .ready none)) ∧ W.heap[w.heap.size]? = some (.deferred (some []))) (fun W => L W ∧ W.heap[w.heap.size + 1]? = some (.loop (rec .done (some .ret))) ∧ W.heap[w.heap.size]? = some (.deferred (some []))) (fun k W h => h.1) (fun k W W' h hk => ⟨hIk k W W' h.1 hk, hk.heap h.2.1 (by simp), hk.heap h.2.2 (by simp)⟩) (fun W W' h hk => ⟨hLk W W' h.1 hk, hk.heap h.2.1 (by simp), hk.heap h.2.2 (by simp)⟩) ?_ W1 ⟨h0 W1 kW1 (by rw [← hW1, World.size_alloc, World.size_alloc]), hL1, hK1⟩ (by rw [← hW1, World.size_alloc, World.size_alloc]; omega)).mono ?_
    · rintro k W v ⟨hi, hl, hk⟩ hkN hv
      have hy := run_yield (P := P) (args := v) hl (by rw [hrec]; exact hps k W v hv)
      rw [hrec] at hy
      refine ⟨fn, _, assign, body, hy, roundIn_of_wpIn hfn ?_⟩
      refine wpIn_mono (hbody k v W _ hv hkN hi hl) ?_
      intro e a1 Wa hq
      cases e with
      | normal =>
        obtain ⟨hka, hb⟩ := hq
        have hl := hka.heap hl (by simp)
        have hk := hka.heap hk (by simp)
        have hlt : w.heap.size + 1 < Wa.heap.size := (Array.getElem?_eq_some_iff.1 hl).1
        refine ⟨_, run_beginRound hl (by rw [hrec]), ?_⟩
        refine wpIn_mono (hb _ ⟨_, rfl⟩) ?_
        have hl2 : (Wa.putObj (w.heap.size + 1) (.loop { rec .ready none with state := .busy })).heap[w.heap.size + 1]? = some (.loop { rec .ready none with state := .busy }) := World.putObj_heap_same hlt
        rintro e2 a2 W3 (⟨rfl, hi3, hfu, hl3, hk3⟩ | ⟨rfl, hi3, hfu, hl3, hk3⟩)
        · rw [hl2] at hl3
          rw [World.putObj_heap_other (by omega), hk] at hk3
          have hlt3 : w.heap.size + 1 < W3.heap.size := (Array.getElem?_eq_some_iff.1 hl3).1
          refine ⟨_, _, run_endRound none hl3, .inl ⟨rfl, hIput _ _ _ hi3, ?_, ?_⟩, (((hka.fu (by simp)).trans (Fu.putObj _ _ (by omega))).trans hfu).trans (Fu.putObj _ _ (by omega))⟩
          · rw [World.putObj_heap_same hlt3, hrec]
            rfl
          · rw [World.putObj_heap_other (by omega)]
            exact hk3
        · rw [hl2] at hl3
          rw [World.putObj_heap_other (by omega), hk] at hk3
          have hlt3 : w.heap.size + 1 < W3.heap.size := (Array.getElem?_eq_some_iff.1 hl3).1
          refine ⟨_, _, run_endRound (some .ret) hl3, .inr ⟨rfl, hLput _ _ hi3, ?_, ?_⟩, (((hka.fu (by simp)).trans (Fu.putObj _ _ (by omega))).trans hfu).trans (Fu.putObj _ _ (by omega))⟩
          · rw [World.putObj_heap_same hlt3, hrec]
            rfl
          · rw [World.putObj_heap_other (by omega)]
            exact hk3
      | exit id => exact hq.elim
      | goto t => exact hq.elim
      | ret => exact hq.elim
      | panic chain => exact hq.elim
      | outgrown => exact hq.elim
    · rintro e W2 ⟨⟨v, rfl⟩, h | h⟩
      · obtain ⟨hi, hl, hk⟩ := h
        refine ⟨none, _, by have := run_endLoop (P := P) hl (by rw [hrec]; simp); rw [hrec] at this; exact this, hdone _ (hIput _ _ _ hi) ?_⟩
        rw [World.putObj_heap_other (by omega)]
        exact hk
      · obtain ⟨hi, hl, hk⟩ := h
        refine ⟨some .ret, _, by have := run_endLoop (P := P) hl (by rw [hrec]; simp); rw [hrec] at this; exact this, ?_⟩
        exact wpIn_ret (hleft _ (hLput _ _ hi) (by rw [World.putObj_heap_other (by omega)]; exact hk))
end Go.Proofs.YtodlkpcbkilglaaDoor

namespace Go.Proofs.YtodlkpcbkilglaaDoor
open Go.RowKit Go.Shelf
attribute [local go_sem] Oper.semAt_some

set_option maxHeartbeats 8000000 in
set_option maxRecDepth 1000000 in
theorem iterL_v210 (l Bk Bf : Nat) (W D : Int) (A : Bool) (po : Option Addr) (n c h : Nat) (ln pb pf pc wd : Nat → Nat) (hn : n = np A) (h1 : 1 ≤ h) (h2 : h ≤ 4096)
    (hln : ∀ i, i < n → ln i = wd i * h ∧ 1 ≤ wd i ∧ wd i ≤ 4096) (hpc : ∀ i, i < n → ln i ≤ pc i) (J : Nat → World → Prop) (E : World → Prop) (t : Nat)
    (hJF : ∀ k W', J k W' → Rio W' Bk Bf 66 67 68 69 70 W h D A po n c ln pb pf pc) (hJk : ∀ k W' W'', J k W' → Kept [] W' W'' → J k W'')
    (hY : ∀ k W' i y v, J k W' → k = i * h + y → i < 1 → y < h → Yv W' 3 pb pf pc wd ((fun _ j => j) i) y v → YieldAt Fence.wide 0 Tryd.prog l v W' (fun e W'' => (e = .returned (.bool true) ∧ J (k + 1) W'' ∨ e = .returned (.bool false) ∧ E W'') ∧ Fu t W' W'')) (W0 : World) (h0 : J 0 W0) (ht : t ≤ W0.heap.size) :
    CallsIn Fence.wide 0 Tryd.prog 93 #[.func (.yield l) #[] #[], .pointer (some ⟨Bk, 0, none⟩), .pointer (some ⟨Bf, 0, none⟩)] W0 (fun e W' => (∃ v, e = .returned v) ∧ (J (1 * h) W' ∨ E W')) := by
  refine callsIn_of_wp Tryd.func93 rfl trivial ?_ rfl
  simp only [Tryd.ntmps93, List.size_toArray, List.length_cons, List.length_nil, Nat.reduceAdd, Nat.reduceSub, Array.replicate_succ, Array.replicate_zero, List.push_toArray, List.append_toArray, List.nil_append, List.cons_append]
  have HJ := Hid.mk hJF
  have HK := Hid.mk hJk
  have HY := Hid.mk hY
  have HL := Hid.mk hln
  have HP := Hid.mk hpc
  have HN := Hid.mk hn
  have CS := Hid.mk (fun u => nsets67 W (h : Int) D A u)
  clear hJF hJk hY hln hpc hn
  obtain ⟨f0, f1, f2, f3, f4, hF, hP⟩ := HJ.out 0 W0 h0
  obtain ⟨d0, d1, d2, d3, d4⟩ := hF
  have h3 : np A ≤ 4 := np_hi A
  gi_wp2
  refine ⟨trivial, rfl, (callsIn_wide.2 (CS.out _)).mono ?_⟩
  rintro e w2 ⟨sg, sc, rfl, hns, hk2⟩
  have hJ1 := HK.out _ _ _ h0 hk2
  have HNS := Hid.mk hns
  clear f0 f1 f2 f3 f4 d0 d1 d2 d3 d4 hP h0 hns
  gi_wp2
  gi_loopw [13] (fun x wr => ∃ i : Nat, i ≤ 1 ∧ x = .int .i64 (i : Int) ∧ J (i * h) wr ∧ Fu t w2 wr) (fun x _ => 1 - (intOf x).toNat)
  case atStart => exact ⟨0, by omega, rfl, by simpa using hJ1, Fu.refl _ _⟩
  case round =>
    obtain ⟨i, hi, rfl, hJ, hkr⟩ := hrel
    obtain ⟨f0, f1, f2, f3, f4, hF, hP⟩ := HJ.out _ _ hJ
    obtain ⟨d0, d1, d2, d3, d4⟩ := hF
    by_cases hlt : i < 1
    · have iq : (i : Int) < (1 : Int) := by omega
      have HLT := Hid.mk hlt
      obtain ⟨_, hns⟩ := HNS.out.fu hkr ht
      obtain ⟨sb, sc2, sbl, t1, t2⟩ := hns i hlt
      obtain ⟨wo, ewo⟩ : ∃ wo, wo = wr := ⟨_, rfl⟩
      have HKR := Hid.mk hkr
      rw [← ewo] at HKR t2
      have HTT := Hid.mk (And.intro sbl t2)
      clear sbl t2 hkr hns hP
      gi_wp2
      gi_loopw [20] (fun x wr2 => ∃ y : Nat, y ≤ h ∧ x = .int .i64 (y : Int) ∧ J (i * h + y) wr2 ∧ Fu t wo wr2) (fun x _ => h - (intOf x).toNat)
      case atStart => exact ⟨0, by omega, rfl, by simpa using hJ, by rw [ewo]; exact Fu.refl _ _⟩
      case round =>
        obtain ⟨y, hy, rfl, hJ2, hkr2⟩ := hrel
        clear f0 f1 f2 f3 f4 d0 d1 d2 d3 d4 t1
        obtain ⟨f0, f1, f2, f3, f4, hF, hP⟩ := HJ.out _ _ hJ2
        obtain ⟨d0, d1, d2, d3, d4⟩ := hF
        by_cases hyl : y < h
        · have yh : (y : Int) < (h : Int) := by omega
          have HSI : ∀ j : Nat, j < 3 → (fun _ j => j) i j < n := by
            intro j hj
            show j < n
            have h5 := HN.out
            have h6 := np_lo A
            have h7 := HLT.out
            omega
          have CR := Hid.mk (rowOf_any W D A po n c h y 3 sb sc2 ln pb pf pc (fun j => wd ((fun _ j => j) i j)) ((fun _ j => j) i) wr hP HP.out h1 h2 hyl (by omega) (fun j hj => ⟨hkr2.cell (HTT.out.2 j hj) (by have := HTT.out.1; omega), HSI j hj⟩) (fun j hj => HL.out _ (HSI j hj)))
          clear HSI
          have HF2 := Hid.mk hkr2
          clear hP hkr2
          gi_wp2
          refine ⟨trivial, rfl, (callsIn_wide.2 CR.out).mono ?_⟩
          rintro e w3 ⟨rfl, hrw, hk3⟩
          have hJ3 := HK.out _ _ _ hJ2 hk3
          obtain ⟨fn, tmps, assign, body, hyy, hR⟩ := HY.out _ _ i y _ hJ3 rfl HLT.out hyl ⟨_, rfl, hrw⟩
          gi_wp2
          refine ⟨rfl, hR.mono ?_⟩
          rintro e W4 ⟨⟨rfl, hJ4⟩ | ⟨rfl, hE4⟩, hf4⟩
          · gi_wp2
            go_roundw
            case rel => exact ⟨y + 1, by omega, by go_num, by rw [← Nat.add_assoc]; exact hJ4, (HF2.out.trans (hk3.fu (by simp))).trans hf4⟩
            case measure => first | (simp [intOf]; done) | (simp [intOf]; omega)
          · gi_wp2
            exact bodyPost_ret (results_none rfl _ _ _) rfl ⟨⟨_, rfl⟩, .inr hE4⟩
        · obtain rfl : h = y := by omega
          gi_wp2
          go_roundw
          case rel => exact ⟨i + 1, by have := HLT.out; omega, by go_num, by rw [Nat.add_mul, Nat.one_mul]; exact hJ2, HKR.out.trans hkr2⟩
          case measure => first | (simp [intOf]; done) | (simp [intOf]; omega)
    · obtain rfl : i = 1 := by omega
      gi_wp2
      go_end0
      exact ⟨⟨_, rfl⟩, .inl hJ⟩
end Go.Proofs.YtodlkpcbkilglaaDoor
