import Derived.Test.YtknkjhfemgiiaaaDoorVb
namespace Go.Proofs.YtknkjhfemgiiaaaDoor
open Go.RowKit Go.Lib

theorem RP.over {q T : Nat} {w0 w w' : World} {X : Rr} {cs : Array Value} {t : TypeId} (h : RP q w0 w X) (hT : w.heap[T]? = some (.cells cs t (0, 0))) (h1 : t ≠ 58) (h2 : t ≠ 56) (h3 : t ≠ 48) (hk : Kept [T] w w') : RP q w' w' X := by
  obtain ⟨a, c, ev, r, -⟩ := h
  refine ⟨a, c, ev, ⟨hk.heap r.bx (fun hm => ?_), r.wd.kept hk hT h2, r.lc, r.cm, r.ev.kept hk hT h3⟩, Kept.refl _ _⟩
  have := r.bx
  simp at hm; subst hm; rw [hT] at this; simp at this; exact h1 this.2
theorem evk {w w' : World} {T : Nat} {cs : Array Value} {t : TypeId} {v : Value} {er : Option (Int × Int)} (h : Ev w v er) (hT : w.heap[T]? = some (.cells cs t (0, 0))) (ht : t ≠ 48) (hk : Kept [T] w w') : Ev w' v er := h.kept hk hT ht
/-- The words' first one. -/
theorem word_first {w : World} {B c : Nat} {a : Option Addr} {x : Wd} {t : List Wd} (h : w.ownsRow B 56 3 (.slice a (t.length + 1) c) (t.length + 1) (wcs (x :: t))) : ∃ g, a = some ⟨g, 0, none⟩ ∧ w.cell? ⟨g, 1, none⟩ = some (.int .i64 x.pl) ∧ g < w.heap.size := by
  rcases h.2 with ⟨h1, h2⟩ | ⟨g, cap, cur, h1, h3, h4, h5, h6, h7, h8⟩
  · omega
  · cases h1
    refine ⟨g, rfl, ?_, lt_of_block h4⟩
    have hk : (wcs (x :: t))[1]? = some (.int .i64 x.pl) := by simp [wcs, wdc]
    rw [← h8, List.getElem?_take_of_lt (by omega), Array.getElem?_toList] at hk
    simp [World.cell?, h4, hk]

set_option maxHeartbeats 16000000 in
set_option maxRecDepth 1000000 in
theorem take_list (B p B2 : Nat) (P : Ps) (v0 : Value) (a : Option Addr) (c : Nat) (x : Wd) (t : List Wd) (en : Int) (w : World) (hB : B ≤ w.heap.size) (hP : PsA B w p P v0) (hw : w.ownsRow B2 56 3 (.slice a (t.length + 1) c) (t.length + 1) (wcs (x :: t))) (hV : Vs w) (hty : 6 ≤ B) (htp : 6 ≤ p) (hX : Sz (tkX (x :: t) en)) (hb : P.bg = false) :
    Calls Tryd.prog 9 #[.pointer (some ⟨p, 0, none⟩), .agg #[.slice a (t.length + 1) c, .int .i64 en]] w fun e w' => TkP B p w (⟨(lsF (tkX (x :: t) en)).1.1, (lsF (tkX (x :: t) en)).1.2, [], true⟩, (lsF (tkX (x :: t) en)).2.er) e w' := by
  have hs9 := And.intro hty htp
  clear hs9
  obtain ⟨P0, r0, es, bg⟩ := P
  simp only at hb ⊢
  obtain ⟨g, rfl, hf1, hgl⟩ := word_first hw
  have hp := lt_of_block hP.bx
  obtain ⟨w1, e1⟩ : ∃ w1, w.alloc (.cells #[.slice (some ⟨g, 0, none⟩) (t.length + 1) c, .int .i64 en] 43 (0, 0)) = w1 := ⟨_, rfl⟩
  have k1 : Kept [] w w1 := by rw [← e1]; exact alloc_kept _ _
  have z1 : w1.heap.size = w.heap.size + 1 := by rw [← e1]; simp
  have bl := heap_alloc_new w (.cells #[.slice (some ⟨g, 0, none⟩) (t.length + 1) c, .int .i64 en] 43 (0, 0))
  rw [e1] at bl
  have l0 : w1.cell? ⟨w.heap.size, 0, none⟩ = some (.slice (some ⟨g, 0, none⟩) (t.length + 1) c) := by simp [World.cell?, bl]
  have l1 : w1.cell? ⟨w.heap.size, 1, none⟩ = some (.int .i64 en) := by simp [World.cell?, bl]
  have f1 := cell_keep k1 hf1 (by simp)
  have RP2 := reader_new w1 (some ⟨g, 0, none⟩) c (x :: t) en B2 (k1.row hw (by simp))
  obtain ⟨w2, e2⟩ : ∃ w2, w1.alloc (.cells #[.slice (some ⟨g, 0, none⟩) (t.length + 1) c, .int .i64 en, .nilIface] 58 (0, 0)) = w2 := ⟨_, rfl⟩
  have k2 : Kept [] w1 w2 := by rw [← e2]; exact alloc_kept _ _
  have z2 : w2.heap.size = w.heap.size + 2 := by rw [← e2]; simp [z1]
  simp only [List.length_cons] at RP2
  rw [e2] at RP2
  have P2 := (hP.keep k1).keep k2
  obtain ⟨p0, p1, p2, p3⟩ := P2.cells
  simp only at p0 p1 p2 p3
  have pf0 := fzb P2.bx 0
  have pf1 := fzb P2.bx 1
  have pf2 := fzb P2.bx 2
  have pf3 := fzb P2.bx 3
  have V2 := (hV.keep k1).keep k2
  have HP := Hid.mk P2
  have HR := Hid.mk RP2
  have HV := Hid.mk V2
  have K2 := Hid.mk (k1.trans k2)
  have HX := Hid.mk hX
  have hn9 : ¬ ((t.length : Int) + 1 = 0) := by omega
  have Z1 := Hid.mk z1
  have Z2 := Hid.mk z2
  have hgl1 : g < w1.heap.size := by omega
  have hp1 : p < w1.heap.size := by omega
  clear hP hw hV k1 k2 bl P2 RP2 V2 hX hf1 z1 z2
  have E2 := Hid.mk e2
  clear e2
  subst hb
  have ks3 := kset w2 p 3 (.bool true)
  have RP3 := HR.out.over HP.out.bx (by decide) (by decide) (by decide) ks3
  have B3 : (w2.setCell ⟨p, 3, none⟩ (.bool true)).heap[p]? = some (.cells #[.string P0, .int .i64 r0, v0, .bool true] 37 (0, 0)) := by rw [heap_setCell_at HP.out.bx]; rfl
  obtain ⟨w3, e3⟩ : ∃ w3, w2.setCell ⟨p, 3, none⟩ (.bool true) = w3 := ⟨_, rfl⟩
  rw [e3] at ks3 RP3 B3
  have W3 : Wt w3 := fun j hj => cell_keep ks3 (HV.out.wt j hj) (by simp; omega)
  have CL := Hid.mk (list_any w1.heap.size w3 _ RP3 W3 (by have := Z1.out; omega))
  have H3 := Hid.mk (And.intro ks3 (And.intro B3 RP3))
  clear ks3 RP3 B3 W3
  generalize hR : lsF (tkX (x :: t) en) = R at *
  obtain ⟨⟨tt, rr⟩, X4⟩ := R
  simp only at CL ⊢
  clear hR
  go_enter Tryd.func9, Tryd.ntmps9
  go_upto_region 5 with (fail)
  rw [E2.out]
  go_wp2_with (fail)
  refine CL.out.mono ?_
  rintro e w4 ⟨rfl, a4, c4, ev4, r4, k4⟩
  have b4 := k4.heap H3.out.2.1 (by simp; omega)
  have q0 : w4.cell? ⟨p, 0, none⟩ = some (.string P0) := by simp [World.cell?, b4]
  have q1 : w4.cell? ⟨p, 1, none⟩ = some (.int .i64 r0) := by simp [World.cell?, b4]
  have q2 : w4.cell? ⟨p, 2, none⟩ = some v0 := by simp [World.cell?, b4]
  have qf0 := fzb b4 0
  have qf1 := fzb b4 1
  have qf2 := fzb b4 2
  have ks : Kept [p] w4 (((w4.setCell ⟨p, 0, none⟩ (.string tt)).setCell ⟨p, 1, none⟩ (.int .i64 rr)).setCell ⟨p, 2, none⟩ (.slice none 0 0)) := ((kset w4 p 0 _).trans (kset _ p 1 _)).trans (kset _ p 2 _)
  have b5 : (((w4.setCell ⟨p, 0, none⟩ (.string tt)).setCell ⟨p, 1, none⟩ (.int .i64 rr)).setCell ⟨p, 2, none⟩ (.slice none 0 0)).heap[p]? = some (.cells #[.string tt, .int .i64 rr, .slice none 0 0, .bool true] 37 (0, 0)) := by
    rw [heap_setCell_at (heap_setCell_at (heap_setCell_at b4))]; rfl
  have ev5 := evk r4.ev b4 (by decide) ks
  have c5 : (((w4.setCell ⟨p, 0, none⟩ (.string tt)).setCell ⟨p, 1, none⟩ (.int .i64 rr)).setCell ⟨p, 2, none⟩ (.slice none 0 0)).cell? ⟨w1.heap.size, 2, none⟩ = some ev4 := cell_keep ks r4.cells.2.2 (by simp; omega)
  have BX : Bx B p w (((w4.setCell ⟨p, 0, none⟩ (.string tt)).setCell ⟨p, 1, none⟩ (.int .i64 rr)).setCell ⟨p, 2, none⟩ (.slice none 0 0)) := (((K2.out.b0 hB).trans (H3.out.1.bx (by have := Z2.out; omega) (by simp))).trans (k4.bx (by have := H3.out.1.size; have := Z2.out; omega) (by have := Z1.out; simp; omega))).trans (ks.bx (by have := H3.out.1.size; have := k4.size; have := Z2.out; omega) (by simp))
  have c6 := r4.cells.2.2
  have HF : Hid (TkP B p w (⟨tt, rr, [], true⟩, X4.er) (.returned ev4) _) := Hid.mk ⟨ev4, .slice none 0 0, rfl, ev5, ⟨b5, ⟨by simp [ecs], .inl ⟨rfl, rfl⟩⟩⟩, BX⟩
  clear b4 ks b5 ev5 BX r4 k4 p0 p1 p2 p3
  go_wp2
  go_ret
  exact HF.out

set_option maxHeartbeats 16000000 in
set_option maxRecDepth 1000000 in
theorem take_many (B p B2 : Nat) (P : Ps) (v0 : Value) (a : Option Addr) (c : Nat) (x : Wd) (t : List Wd) (en : Int) (w : World) (hB : B ≤ w.heap.size) (hP : PsA B w p P v0) (hw : w.ownsRow B2 56 3 (.slice a (t.length + 1) c) (t.length + 1) (wcs (x :: t))) (hV : Vs w) (hty : 6 ≤ B) (htp : 6 ≤ p) (hX : Sz (tkX (x :: t) en)) (hb : P.bg = true) (hm : P.es.length = 200) :
    Calls Tryd.prog 9 #[.pointer (some ⟨p, 0, none⟩), .agg #[.slice a (t.length + 1) c, .int .i64 en]] w fun e w' => TkP B p w (P, some (x.pl, 196)) e w' := by
  have hs9 := And.intro hty htp
  clear hs9
  obtain ⟨P0, r0, es, bg⟩ := P
  simp only at hb hm ⊢
  obtain ⟨g, rfl, hf1, hgl⟩ := word_first hw
  have hp := lt_of_block hP.bx
  obtain ⟨w1, e1⟩ : ∃ w1, w.alloc (.cells #[.slice (some ⟨g, 0, none⟩) (t.length + 1) c, .int .i64 en] 43 (0, 0)) = w1 := ⟨_, rfl⟩
  have k1 : Kept [] w w1 := by rw [← e1]; exact alloc_kept _ _
  have z1 : w1.heap.size = w.heap.size + 1 := by rw [← e1]; simp
  have bl := heap_alloc_new w (.cells #[.slice (some ⟨g, 0, none⟩) (t.length + 1) c, .int .i64 en] 43 (0, 0))
  rw [e1] at bl
  have l0 : w1.cell? ⟨w.heap.size, 0, none⟩ = some (.slice (some ⟨g, 0, none⟩) (t.length + 1) c) := by simp [World.cell?, bl]
  have l1 : w1.cell? ⟨w.heap.size, 1, none⟩ = some (.int .i64 en) := by simp [World.cell?, bl]
  have f1 := cell_keep k1 hf1 (by simp)
  have RP2 := reader_new w1 (some ⟨g, 0, none⟩) c (x :: t) en B2 (k1.row hw (by simp))
  obtain ⟨w2, e2⟩ : ∃ w2, w1.alloc (.cells #[.slice (some ⟨g, 0, none⟩) (t.length + 1) c, .int .i64 en, .nilIface] 58 (0, 0)) = w2 := ⟨_, rfl⟩
  have k2 : Kept [] w1 w2 := by rw [← e2]; exact alloc_kept _ _
  have z2 : w2.heap.size = w.heap.size + 2 := by rw [← e2]; simp [z1]
  simp only [List.length_cons] at RP2
  rw [e2] at RP2
  have P2 := (hP.keep k1).keep k2
  obtain ⟨p0, p1, p2, p3⟩ := P2.cells
  simp only at p0 p1 p2 p3
  have pf0 := fzb P2.bx 0
  have pf1 := fzb P2.bx 1
  have pf2 := fzb P2.bx 2
  have pf3 := fzb P2.bx 3
  have V2 := (hV.keep k1).keep k2
  have HP := Hid.mk P2
  have HR := Hid.mk RP2
  have HV := Hid.mk V2
  have K2 := Hid.mk (k1.trans k2)
  have HX := Hid.mk hX
  have hn9 : ¬ ((t.length : Int) + 1 = 0) := by omega
  have Z1 := Hid.mk z1
  have Z2 := Hid.mk z2
  have hgl1 : g < w1.heap.size := by omega
  have hp1 : p < w1.heap.size := by omega
  clear hP hw hV k1 k2 bl P2 RP2 V2 hX hf1 z1 z2
  have E2 := Hid.mk e2
  clear e2
  subst hb
  obtain ⟨va, vc, rfl, -⟩ := row_form2 HP.out.er
  simp only at p2
  rw [hm] at p2
  go_enter Tryd.func9, Tryd.ntmps9
  go_upto_region 5 with (fail)
  rw [E2.out]
  go_wp2
  go_ret
  exact ⟨_, _, rfl, ⟨_, rfl, heap_alloc_new _ _⟩, HP.out.keep (alloc_kept _ _), (K2.out.trans (alloc_kept _ _)).b0 hB⟩
end Go.Proofs.YtknkjhfemgiiaaaDoor
