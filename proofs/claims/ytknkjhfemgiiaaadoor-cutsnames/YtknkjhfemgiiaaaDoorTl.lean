import Derived.Test.YtknkjhfemgiiaaaDoorTk
namespace Go.Proofs.YtknkjhfemgiiaaaDoor
open Go.RowKit Go.Lib

def kCut : ByteArray := ⟨#[99, 117, 116]⟩
def kFade : ByteArray := ⟨#[102, 97, 100, 101]⟩
def evA (X : Rr) : Int × Rr := if (nx X 0).1.sy = kCut then (0, (nx X 0).2) else if (nx X 0).1.sy = kFade then fdq (nx X 0).2 else (0, rf (nx X 0).2 (nx X 0).1.pl 193)
def evN (X : Rr) : ByteArray × Rr := if X.ws = [] then (⟨#[]⟩, X) else tx X
/-- An event as it is read. -/
structure Evt where
  reel : ByteArray
  inn : Int
  out : Int
  fade : Int
  note : ByteArray
def evv (x : Evt) : Value := .agg #[.string x.reel, .int .i64 x.inn, .int .i64 x.out, .int .i64 x.fade, .string x.note]
/-- The line of an event: it, the place of its second time, the reader. -/
def evF (r : Int) (X : Rr) : (Evt × Int) × Rr :=
  let a := evA X
  let n := nmq a.2
  let t1 := tmq r n.2
  let t2 := tmq r t1.2
  let o := evN t2.2
  ((⟨n.1, t1.1.1, t2.1.1, a.1, o.1⟩, t2.1.2), lsq o.2)
theorem ev_cells {w : World} {B : Nat} {a b c d f : Value} (h : w.heap[B]? = some (.cells #[a, b, c, d, f] 34 (0, 0))) : w.cell? ⟨B, 0, none⟩ = some a ∧ w.cell? ⟨B, 1, none⟩ = some b ∧ w.cell? ⟨B, 2, none⟩ = some c ∧ w.cell? ⟨B, 3, none⟩ = some d ∧ w.cell? ⟨B, 4, none⟩ = some f := by
  refine ⟨?_, ?_, ?_, ?_, ?_⟩ <;> simp [World.cell?, h]
set_option maxHeartbeats 16000000 in
set_option maxRecDepth 1000000 in
theorem event_cut (q : Nat) (r : Int) (w : World) (X : Rr) (h : RP q w w X) (hT : Tb w) (hq : 3 ≠ q) (hX : Sz X) (hs : (nx X 0).1.sy = kCut) (hw : (tmq r (tmq r (nmq (evA X).2).2).2).2.ws = []) : Calls Tryd.prog 16 #[.pointer (some ⟨q, 0, none⟩), .int .i64 r] w fun e w' => e = .returned (.tuple #[evv (evF r X).1.1, .int .i64 (evF r X).1.2]) ∧ RP q w w' (evF r X).2 := by
  unfold evF
  have hA : evA X = ((0 : Int), (nx X 0).2) := by unfold evA; rw [if_pos hs]
  unfold evN
  simp only
  rw [if_pos hw]
  rw [hA] at hw ⊢
  clear hA
  have S1 := hX.nx 0
  have B2 := Bs.start (cs := #[.string ⟨#[]⟩, .int .i64 0, .int .i64 0, .int .i64 0, .string ⟨#[]⟩]) h (t := 34) (by decide) (by decide) (by decide)
  obtain ⟨w1, f1⟩ : ∃ w1, w.alloc (.cells #[.string ⟨#[]⟩, .int .i64 0, .int .i64 0, .int .i64 0, .string ⟨#[]⟩] 34 (0, 0)) = w1 := ⟨_, rfl⟩
  have z1 : w1.heap.size = w.heap.size + 1 := by rw [← f1]; simp
  rw [f1] at B2
  obtain ⟨w2, f2⟩ : ∃ w2, w1.alloc (.cells #[.string ⟨#[]⟩, .int .i64 0, .int .i64 0, .int .i64 0, .string ⟨#[]⟩] 34 (0, 0)) = w2 := ⟨_, rfl⟩
  rw [f2] at B2
  have CN := Hid.mk (next_any q 0 w2 w2 X B2.rp.refl)
  unfold NxP at CN
  generalize hx : nx X 0 = R at *
  obtain ⟨⟨kd, pl, sy⟩, X1⟩ := R
  simp only at CN hs S1 hw ⊢
  have TB : Hid (∀ u Y, RP q w u Y → Tb u) := Hid.mk (fun u Y hu i hi => by
    obtain ⟨_, _, _, _, k⟩ := hu
    obtain ⟨a, b, c, d⟩ := hT i hi
    exact ⟨cell_keep k a (by simpa using hq), cell_keep k b (by simpa using hq), cell_keep k c (by simpa using hq), cell_keep k d (by simpa using hq)⟩)
  have H2 := Hid.mk B2
  have SZ := Hid.mk S1
  have hq9 := hq
  have HW := Hid.mk hw
  clear B2 h hT hx S1 hX hw
  go_enter Tryd.func16, Tryd.ntmps16
  go_wp2_with (fail)
  refine CN.out.mono ?_
  rintro e w3 ⟨rfl, h3⟩
  unfold wv
  obtain ⟨w4, e4, -, k4, b4⟩ := word_new q w3 w3 X1 ⟨kd, pl, sy⟩ h3.refl
  obtain ⟨c0, c1, c2⟩ := word_cells b4
  simp only at c0 c1 c2 e4
  have B4 := Hid.mk ((H2.out.call h3).keep k4)
  clear h3 k4 b4 CN H2
  unfold kCut at hs
  subst hs
  have C7 := Hid.mk (name_any q w4 w4 X1 B4.out.rp.refl SZ.out)
  go_wp2_with (fail)
  refine C7.out.mono ?_
  rintro e w7 ⟨rfl, h7⟩
  have B7 := Hid.mk (B4.out.call h7)
  clear h7 C7
  obtain ⟨d0, d1, d2, d3, d4⟩ := ev_cells B7.out.l2
  have g0 := fzb B7.out.l2 0
  have g1 := fzb B7.out.l2 1
  have g2 := fzb B7.out.l2 2
  have g3 := fzb B7.out.l2 3
  have g4 := fzb B7.out.l2 4
  obtain ⟨w8, e8⟩ : ∃ w8, w7.setCell ⟨w.heap.size + 1, 0, none⟩ (.string (nmq X1).1) = w8 := ⟨_, rfl⟩
  have B8 := Hid.mk (B7.out.set 0 (.string (nmq X1).1))
  rw [e8] at B8
  have C9 := Hid.mk (time_any q r w8 w8 (nmq X1).2 B8.out.rp.refl (TB.out w8 _ B8.out.rp) SZ.out.nmq hq9)
  go_wp2_with (fail)
  refine C9.out.mono ?_
  rintro e w9 ⟨rfl, h9⟩
  have B9 := Hid.mk (B8.out.call h9)
  clear h9 C9
  clear d0 d1 d2 d3 d4 g0 g1 g2 g3 g4
  obtain ⟨d0, d1, d2, d3, d4⟩ := ev_cells B9.out.l2
  have g0 := fzb B9.out.l2 0
  have g1 := fzb B9.out.l2 1
  have g2 := fzb B9.out.l2 2
  have g3 := fzb B9.out.l2 3
  have g4 := fzb B9.out.l2 4
  obtain ⟨w10, e10⟩ : ∃ w10, w9.setCell ⟨w.heap.size + 1, 1, none⟩ (.int .i64 (tmq r (nmq X1).2).1.1) = w10 := ⟨_, rfl⟩
  have B10 := Hid.mk (B9.out.set 1 (.int .i64 (tmq r (nmq X1).2).1.1))
  rw [e10] at B10
  have C11 := Hid.mk (time_any q r w10 w10 (tmq r (nmq X1).2).2 B10.out.rp.refl (TB.out w10 _ B10.out.rp) (SZ.out.nmq.tmq r) hq9)
  go_wp2_with (fail)
  refine C11.out.mono ?_
  rintro e w11 ⟨rfl, h11⟩
  have B11 := Hid.mk (B10.out.call h11)
  clear h11 C11
  clear d0 d1 d2 d3 d4 g0 g1 g2 g3 g4
  obtain ⟨d0, d1, d2, d3, d4⟩ := ev_cells B11.out.l2
  have g0 := fzb B11.out.l2 0
  have g1 := fzb B11.out.l2 1
  have g2 := fzb B11.out.l2 2
  have g3 := fzb B11.out.l2 3
  have g4 := fzb B11.out.l2 4
  obtain ⟨w12, e12⟩ : ∃ w12, w11.setCell ⟨w.heap.size + 1, 2, none⟩ (.int .i64 (tmq r (tmq r (nmq X1).2).2).1.1) = w12 := ⟨_, rfl⟩
  have B12 := Hid.mk (B11.out.set 2 (.int .i64 (tmq r (tmq r (nmq X1).2).2).1.1))
  rw [e12] at B12
  obtain ⟨wl, cl, evl, rl9, -⟩ := B12.out.rp
  obtain ⟨m0, -, -⟩ := rl9.cells
  obtain ⟨n, en⟩ : ∃ n, (tmq r (tmq r (nmq X1).2).2).2.ws.length = n := ⟨_, rfl⟩
  rw [en] at m0
  have hn : n = 0 := by rw [← en, HW.out]; rfl
  subst hn
  clear rl9 en
  have C15 := Hid.mk (last_any q w12 w12 (tmq r (tmq r (nmq X1).2).2).2 B12.out.rp.refl)
  go_wp2_with (fail)
  refine C15.out.mono ?_
  rintro e w15 ⟨rfl, h15⟩
  have B15 := Hid.mk (B12.out.call h15)
  clear h15 C15
  clear d0 d1 d2 d3 d4 g0 g1 g2 g3 g4
  clear m0
  obtain ⟨d0, d1, d2, d3, d4⟩ := ev_cells B15.out.l2
  obtain ⟨l0, l1, l2, l3, l4⟩ := ev_cells B15.out.l1
  have g0 := fzb B15.out.l1 0
  have g1 := fzb B15.out.l1 1
  have g2 := fzb B15.out.l1 2
  have g3 := fzb B15.out.l1 3
  have g4 := fzb B15.out.l1 4
  have HF := Hid.mk (B15.out.out (((((kset w15 w.heap.size 0 (.string (nmq X1).1)).trans (kset _ w.heap.size 1 (.int .i64 (tmq r (nmq X1).2).1.1))).trans (kset _ w.heap.size 2 (.int .i64 (tmq r (tmq r (nmq X1).2).2).1.1))).trans (kset _ w.heap.size 3 (.int .i64 0))).trans (kset _ w.heap.size 4 (.string ⟨#[]⟩))))
  go_wp2
  exact bodyPost_ret (v := .tuple #[.agg #[.string (nmq X1).1, .int .i64 (tmq r (nmq X1).2).1.1, .int .i64 (tmq r (tmq r (nmq X1).2).2).1.1, .int .i64 0, .string ⟨#[]⟩], .int .i64 (tmq r (tmq r (nmq X1).2).2).1.2]) (by simp [results, Tryd.results16, go_sem, l0, l1, l2, l3, l4]) rfl ⟨rfl, HF.out⟩
set_option maxHeartbeats 16000000 in
set_option maxRecDepth 1000000 in
theorem event_cutn (q : Nat) (r : Int) (w : World) (X : Rr) (h : RP q w w X) (hT : Tb w) (hq : 3 ≠ q) (hX : Sz X) (hs : (nx X 0).1.sy = kCut) (hw : ¬ (tmq r (tmq r (nmq (evA X).2).2).2).2.ws = []) : Calls Tryd.prog 16 #[.pointer (some ⟨q, 0, none⟩), .int .i64 r] w fun e w' => e = .returned (.tuple #[evv (evF r X).1.1, .int .i64 (evF r X).1.2]) ∧ RP q w w' (evF r X).2 := by
  unfold evF
  have hA : evA X = ((0 : Int), (nx X 0).2) := by unfold evA; rw [if_pos hs]
  unfold evN
  simp only
  rw [if_neg hw]
  rw [hA] at hw ⊢
  clear hA
  have S1 := hX.nx 0
  have B2 := Bs.start (cs := #[.string ⟨#[]⟩, .int .i64 0, .int .i64 0, .int .i64 0, .string ⟨#[]⟩]) h (t := 34) (by decide) (by decide) (by decide)
  obtain ⟨w1, f1⟩ : ∃ w1, w.alloc (.cells #[.string ⟨#[]⟩, .int .i64 0, .int .i64 0, .int .i64 0, .string ⟨#[]⟩] 34 (0, 0)) = w1 := ⟨_, rfl⟩
  have z1 : w1.heap.size = w.heap.size + 1 := by rw [← f1]; simp
  rw [f1] at B2
  obtain ⟨w2, f2⟩ : ∃ w2, w1.alloc (.cells #[.string ⟨#[]⟩, .int .i64 0, .int .i64 0, .int .i64 0, .string ⟨#[]⟩] 34 (0, 0)) = w2 := ⟨_, rfl⟩
  rw [f2] at B2
  have CN := Hid.mk (next_any q 0 w2 w2 X B2.rp.refl)
  unfold NxP at CN
  generalize hx : nx X 0 = R at *
  obtain ⟨⟨kd, pl, sy⟩, X1⟩ := R
  simp only at CN hs S1 hw ⊢
  have TB : Hid (∀ u Y, RP q w u Y → Tb u) := Hid.mk (fun u Y hu i hi => by
    obtain ⟨_, _, _, _, k⟩ := hu
    obtain ⟨a, b, c, d⟩ := hT i hi
    exact ⟨cell_keep k a (by simpa using hq), cell_keep k b (by simpa using hq), cell_keep k c (by simpa using hq), cell_keep k d (by simpa using hq)⟩)
  have H2 := Hid.mk B2
  have SZ := Hid.mk S1
  have hq9 := hq
  have HW := Hid.mk hw
  clear B2 h hT hx S1 hX hw
  go_enter Tryd.func16, Tryd.ntmps16
  go_wp2_with (fail)
  refine CN.out.mono ?_
  rintro e w3 ⟨rfl, h3⟩
  unfold wv
  obtain ⟨w4, e4, -, k4, b4⟩ := word_new q w3 w3 X1 ⟨kd, pl, sy⟩ h3.refl
  obtain ⟨c0, c1, c2⟩ := word_cells b4
  simp only at c0 c1 c2 e4
  have B4 := Hid.mk ((H2.out.call h3).keep k4)
  clear h3 k4 b4 CN H2
  unfold kCut at hs
  subst hs
  have C7 := Hid.mk (name_any q w4 w4 X1 B4.out.rp.refl SZ.out)
  go_wp2_with (fail)
  refine C7.out.mono ?_
  rintro e w7 ⟨rfl, h7⟩
  have B7 := Hid.mk (B4.out.call h7)
  clear h7 C7
  obtain ⟨d0, d1, d2, d3, d4⟩ := ev_cells B7.out.l2
  have g0 := fzb B7.out.l2 0
  have g1 := fzb B7.out.l2 1
  have g2 := fzb B7.out.l2 2
  have g3 := fzb B7.out.l2 3
  have g4 := fzb B7.out.l2 4
  obtain ⟨w8, e8⟩ : ∃ w8, w7.setCell ⟨w.heap.size + 1, 0, none⟩ (.string (nmq X1).1) = w8 := ⟨_, rfl⟩
  have B8 := Hid.mk (B7.out.set 0 (.string (nmq X1).1))
  rw [e8] at B8
  have C9 := Hid.mk (time_any q r w8 w8 (nmq X1).2 B8.out.rp.refl (TB.out w8 _ B8.out.rp) SZ.out.nmq hq9)
  go_wp2_with (fail)
  refine C9.out.mono ?_
  rintro e w9 ⟨rfl, h9⟩
  have B9 := Hid.mk (B8.out.call h9)
  clear h9 C9
  clear d0 d1 d2 d3 d4 g0 g1 g2 g3 g4
  obtain ⟨d0, d1, d2, d3, d4⟩ := ev_cells B9.out.l2
  have g0 := fzb B9.out.l2 0
  have g1 := fzb B9.out.l2 1
  have g2 := fzb B9.out.l2 2
  have g3 := fzb B9.out.l2 3
  have g4 := fzb B9.out.l2 4
  obtain ⟨w10, e10⟩ : ∃ w10, w9.setCell ⟨w.heap.size + 1, 1, none⟩ (.int .i64 (tmq r (nmq X1).2).1.1) = w10 := ⟨_, rfl⟩
  have B10 := Hid.mk (B9.out.set 1 (.int .i64 (tmq r (nmq X1).2).1.1))
  rw [e10] at B10
  have C11 := Hid.mk (time_any q r w10 w10 (tmq r (nmq X1).2).2 B10.out.rp.refl (TB.out w10 _ B10.out.rp) (SZ.out.nmq.tmq r) hq9)
  go_wp2_with (fail)
  refine C11.out.mono ?_
  rintro e w11 ⟨rfl, h11⟩
  have B11 := Hid.mk (B10.out.call h11)
  clear h11 C11
  clear d0 d1 d2 d3 d4 g0 g1 g2 g3 g4
  obtain ⟨d0, d1, d2, d3, d4⟩ := ev_cells B11.out.l2
  have g0 := fzb B11.out.l2 0
  have g1 := fzb B11.out.l2 1
  have g2 := fzb B11.out.l2 2
  have g3 := fzb B11.out.l2 3
  have g4 := fzb B11.out.l2 4
  obtain ⟨w12, e12⟩ : ∃ w12, w11.setCell ⟨w.heap.size + 1, 2, none⟩ (.int .i64 (tmq r (tmq r (nmq X1).2).2).1.1) = w12 := ⟨_, rfl⟩
  have B12 := Hid.mk (B11.out.set 2 (.int .i64 (tmq r (tmq r (nmq X1).2).2).1.1))
  rw [e12] at B12
  obtain ⟨wl, cl, evl, rl9, -⟩ := B12.out.rp
  obtain ⟨m0, -, -⟩ := rl9.cells
  obtain ⟨n, en⟩ : ∃ n, (tmq r (tmq r (nmq X1).2).2).2.ws.length = n := ⟨_, rfl⟩
  rw [en] at m0
  have hn : 0 < n := by rw [← en]; exact List.length_pos_iff.2 HW.out
  have hn9 : (0 : Int) < (n : Int) := by omega
  clear rl9 en
  have C13 := Hid.mk (text_any q w12 w12 (tmq r (tmq r (nmq X1).2).2).2 B12.out.rp.refl)
  go_wp2_with (fail)
  refine C13.out.mono ?_
  rintro e w13 ⟨rfl, h13⟩
  have B13 := Hid.mk (B12.out.call h13)
  clear h13 C13
  clear d0 d1 d2 d3 d4 g0 g1 g2 g3 g4
  clear m0 hn hn9
  obtain ⟨d0, d1, d2, d3, d4⟩ := ev_cells B13.out.l2
  have g0 := fzb B13.out.l2 0
  have g1 := fzb B13.out.l2 1
  have g2 := fzb B13.out.l2 2
  have g3 := fzb B13.out.l2 3
  have g4 := fzb B13.out.l2 4
  obtain ⟨w14, e14⟩ : ∃ w14, w13.setCell ⟨w.heap.size + 1, 4, none⟩ (.string (tx (tmq r (tmq r (nmq X1).2).2).2).1) = w14 := ⟨_, rfl⟩
  have B14 := Hid.mk (B13.out.set 4 (.string (tx (tmq r (tmq r (nmq X1).2).2).2).1))
  rw [e14] at B14
  have C15 := Hid.mk (last_any q w14 w14 (tx (tmq r (tmq r (nmq X1).2).2).2).2 B14.out.rp.refl)
  go_wp2_with (fail)
  refine C15.out.mono ?_
  rintro e w15 ⟨rfl, h15⟩
  have B15 := Hid.mk (B14.out.call h15)
  clear h15 C15
  clear d0 d1 d2 d3 d4 g0 g1 g2 g3 g4
  obtain ⟨d0, d1, d2, d3, d4⟩ := ev_cells B15.out.l2
  obtain ⟨l0, l1, l2, l3, l4⟩ := ev_cells B15.out.l1
  have g0 := fzb B15.out.l1 0
  have g1 := fzb B15.out.l1 1
  have g2 := fzb B15.out.l1 2
  have g3 := fzb B15.out.l1 3
  have g4 := fzb B15.out.l1 4
  have HF := Hid.mk (B15.out.out (((((kset w15 w.heap.size 0 (.string (nmq X1).1)).trans (kset _ w.heap.size 1 (.int .i64 (tmq r (nmq X1).2).1.1))).trans (kset _ w.heap.size 2 (.int .i64 (tmq r (tmq r (nmq X1).2).2).1.1))).trans (kset _ w.heap.size 3 (.int .i64 0))).trans (kset _ w.heap.size 4 (.string (tx (tmq r (tmq r (nmq X1).2).2).2).1))))
  go_wp2
  exact bodyPost_ret (v := .tuple #[.agg #[.string (nmq X1).1, .int .i64 (tmq r (nmq X1).2).1.1, .int .i64 (tmq r (tmq r (nmq X1).2).2).1.1, .int .i64 0, .string (tx (tmq r (tmq r (nmq X1).2).2).2).1], .int .i64 (tmq r (tmq r (nmq X1).2).2).1.2]) (by simp [results, Tryd.results16, go_sem, l0, l1, l2, l3, l4]) rfl ⟨rfl, HF.out⟩
set_option maxHeartbeats 16000000 in
set_option maxRecDepth 1000000 in
theorem event_fade (q : Nat) (r : Int) (w : World) (X : Rr) (h : RP q w w X) (hT : Tb w) (hq : 3 ≠ q) (hX : Sz X) (hs : (nx X 0).1.sy = kFade) (hw : (tmq r (tmq r (nmq (evA X).2).2).2).2.ws = []) : Calls Tryd.prog 16 #[.pointer (some ⟨q, 0, none⟩), .int .i64 r] w fun e w' => e = .returned (.tuple #[evv (evF r X).1.1, .int .i64 (evF r X).1.2]) ∧ RP q w w' (evF r X).2 := by
  unfold evF
  have hA : evA X = fdq (nx X 0).2 := by unfold evA; rw [if_neg (by rw [hs]; decide), if_pos hs]
  unfold evN
  simp only
  rw [if_pos hw]
  rw [hA] at hw ⊢
  clear hA
  have S1 := hX.nx 0
  have B2 := Bs.start (cs := #[.string ⟨#[]⟩, .int .i64 0, .int .i64 0, .int .i64 0, .string ⟨#[]⟩]) h (t := 34) (by decide) (by decide) (by decide)
  obtain ⟨w1, f1⟩ : ∃ w1, w.alloc (.cells #[.string ⟨#[]⟩, .int .i64 0, .int .i64 0, .int .i64 0, .string ⟨#[]⟩] 34 (0, 0)) = w1 := ⟨_, rfl⟩
  have z1 : w1.heap.size = w.heap.size + 1 := by rw [← f1]; simp
  rw [f1] at B2
  obtain ⟨w2, f2⟩ : ∃ w2, w1.alloc (.cells #[.string ⟨#[]⟩, .int .i64 0, .int .i64 0, .int .i64 0, .string ⟨#[]⟩] 34 (0, 0)) = w2 := ⟨_, rfl⟩
  rw [f2] at B2
  have CN := Hid.mk (next_any q 0 w2 w2 X B2.rp.refl)
  unfold NxP at CN
  generalize hx : nx X 0 = R at *
  obtain ⟨⟨kd, pl, sy⟩, X1⟩ := R
  simp only at CN hs S1 hw ⊢
  have TB : Hid (∀ u Y, RP q w u Y → Tb u) := Hid.mk (fun u Y hu i hi => by
    obtain ⟨_, _, _, _, k⟩ := hu
    obtain ⟨a, b, c, d⟩ := hT i hi
    exact ⟨cell_keep k a (by simpa using hq), cell_keep k b (by simpa using hq), cell_keep k c (by simpa using hq), cell_keep k d (by simpa using hq)⟩)
  have H2 := Hid.mk B2
  have SZ := Hid.mk S1
  have hq9 := hq
  have HW := Hid.mk hw
  clear B2 h hT hx S1 hX hw
  go_enter Tryd.func16, Tryd.ntmps16
  go_wp2_with (fail)
  refine CN.out.mono ?_
  rintro e w3 ⟨rfl, h3⟩
  unfold wv
  obtain ⟨w4, e4, -, k4, b4⟩ := word_new q w3 w3 X1 ⟨kd, pl, sy⟩ h3.refl
  obtain ⟨c0, c1, c2⟩ := word_cells b4
  simp only at c0 c1 c2 e4
  have B4 := Hid.mk ((H2.out.call h3).keep k4)
  clear h3 k4 b4 CN H2
  unfold kFade at hs
  subst hs
  have C5 := Hid.mk (fade_any q w4 w4 X1 B4.out.rp.refl SZ.out)
  go_wp2_with (fail)
  refine C5.out.mono ?_
  rintro e w5 ⟨rfl, h5⟩
  have B5 := Hid.mk (B4.out.call h5)
  clear h5 C5
  obtain ⟨d0, d1, d2, d3, d4⟩ := ev_cells B5.out.l2
  have g0 := fzb B5.out.l2 0
  have g1 := fzb B5.out.l2 1
  have g2 := fzb B5.out.l2 2
  have g3 := fzb B5.out.l2 3
  have g4 := fzb B5.out.l2 4
  obtain ⟨w6, e6⟩ : ∃ w6, w5.setCell ⟨w.heap.size + 1, 3, none⟩ (.int .i64 (fdq X1).1) = w6 := ⟨_, rfl⟩
  have B6 := Hid.mk (B5.out.set 3 (.int .i64 (fdq X1).1))
  rw [e6] at B6
  have C7 := Hid.mk (name_any q w6 w6 (fdq X1).2 B6.out.rp.refl SZ.out.fdq)
  go_wp2_with (fail)
  refine C7.out.mono ?_
  rintro e w7 ⟨rfl, h7⟩
  have B7 := Hid.mk (B6.out.call h7)
  clear h7 C7
  clear d0 d1 d2 d3 d4 g0 g1 g2 g3 g4
  obtain ⟨d0, d1, d2, d3, d4⟩ := ev_cells B7.out.l2
  have g0 := fzb B7.out.l2 0
  have g1 := fzb B7.out.l2 1
  have g2 := fzb B7.out.l2 2
  have g3 := fzb B7.out.l2 3
  have g4 := fzb B7.out.l2 4
  obtain ⟨w8, e8⟩ : ∃ w8, w7.setCell ⟨w.heap.size + 1, 0, none⟩ (.string (nmq (fdq X1).2).1) = w8 := ⟨_, rfl⟩
  have B8 := Hid.mk (B7.out.set 0 (.string (nmq (fdq X1).2).1))
  rw [e8] at B8
  have C9 := Hid.mk (time_any q r w8 w8 (nmq (fdq X1).2).2 B8.out.rp.refl (TB.out w8 _ B8.out.rp) SZ.out.fdq.nmq hq9)
  go_wp2_with (fail)
  refine C9.out.mono ?_
  rintro e w9 ⟨rfl, h9⟩
  have B9 := Hid.mk (B8.out.call h9)
  clear h9 C9
  clear d0 d1 d2 d3 d4 g0 g1 g2 g3 g4
  obtain ⟨d0, d1, d2, d3, d4⟩ := ev_cells B9.out.l2
  have g0 := fzb B9.out.l2 0
  have g1 := fzb B9.out.l2 1
  have g2 := fzb B9.out.l2 2
  have g3 := fzb B9.out.l2 3
  have g4 := fzb B9.out.l2 4
  obtain ⟨w10, e10⟩ : ∃ w10, w9.setCell ⟨w.heap.size + 1, 1, none⟩ (.int .i64 (tmq r (nmq (fdq X1).2).2).1.1) = w10 := ⟨_, rfl⟩
  have B10 := Hid.mk (B9.out.set 1 (.int .i64 (tmq r (nmq (fdq X1).2).2).1.1))
  rw [e10] at B10
  have C11 := Hid.mk (time_any q r w10 w10 (tmq r (nmq (fdq X1).2).2).2 B10.out.rp.refl (TB.out w10 _ B10.out.rp) (SZ.out.fdq.nmq.tmq r) hq9)
  go_wp2_with (fail)
  refine C11.out.mono ?_
  rintro e w11 ⟨rfl, h11⟩
  have B11 := Hid.mk (B10.out.call h11)
  clear h11 C11
  clear d0 d1 d2 d3 d4 g0 g1 g2 g3 g4
  obtain ⟨d0, d1, d2, d3, d4⟩ := ev_cells B11.out.l2
  have g0 := fzb B11.out.l2 0
  have g1 := fzb B11.out.l2 1
  have g2 := fzb B11.out.l2 2
  have g3 := fzb B11.out.l2 3
  have g4 := fzb B11.out.l2 4
  obtain ⟨w12, e12⟩ : ∃ w12, w11.setCell ⟨w.heap.size + 1, 2, none⟩ (.int .i64 (tmq r (tmq r (nmq (fdq X1).2).2).2).1.1) = w12 := ⟨_, rfl⟩
  have B12 := Hid.mk (B11.out.set 2 (.int .i64 (tmq r (tmq r (nmq (fdq X1).2).2).2).1.1))
  rw [e12] at B12
  obtain ⟨wl, cl, evl, rl9, -⟩ := B12.out.rp
  obtain ⟨m0, -, -⟩ := rl9.cells
  obtain ⟨n, en⟩ : ∃ n, (tmq r (tmq r (nmq (fdq X1).2).2).2).2.ws.length = n := ⟨_, rfl⟩
  rw [en] at m0
  have hn : n = 0 := by rw [← en, HW.out]; rfl
  subst hn
  clear rl9 en
  have C15 := Hid.mk (last_any q w12 w12 (tmq r (tmq r (nmq (fdq X1).2).2).2).2 B12.out.rp.refl)
  go_wp2_with (fail)
  refine C15.out.mono ?_
  rintro e w15 ⟨rfl, h15⟩
  have B15 := Hid.mk (B12.out.call h15)
  clear h15 C15
  clear d0 d1 d2 d3 d4 g0 g1 g2 g3 g4
  clear m0
  obtain ⟨d0, d1, d2, d3, d4⟩ := ev_cells B15.out.l2
  obtain ⟨l0, l1, l2, l3, l4⟩ := ev_cells B15.out.l1
  have g0 := fzb B15.out.l1 0
  have g1 := fzb B15.out.l1 1
  have g2 := fzb B15.out.l1 2
  have g3 := fzb B15.out.l1 3
  have g4 := fzb B15.out.l1 4
  have HF := Hid.mk (B15.out.out (((((kset w15 w.heap.size 0 (.string (nmq (fdq X1).2).1)).trans (kset _ w.heap.size 1 (.int .i64 (tmq r (nmq (fdq X1).2).2).1.1))).trans (kset _ w.heap.size 2 (.int .i64 (tmq r (tmq r (nmq (fdq X1).2).2).2).1.1))).trans (kset _ w.heap.size 3 (.int .i64 (fdq X1).1))).trans (kset _ w.heap.size 4 (.string ⟨#[]⟩))))
  go_wp2
  exact bodyPost_ret (v := .tuple #[.agg #[.string (nmq (fdq X1).2).1, .int .i64 (tmq r (nmq (fdq X1).2).2).1.1, .int .i64 (tmq r (tmq r (nmq (fdq X1).2).2).2).1.1, .int .i64 (fdq X1).1, .string ⟨#[]⟩], .int .i64 (tmq r (tmq r (nmq (fdq X1).2).2).2).1.2]) (by simp [results, Tryd.results16, go_sem, l0, l1, l2, l3, l4]) rfl ⟨rfl, HF.out⟩
set_option maxHeartbeats 16000000 in
set_option maxRecDepth 1000000 in
theorem event_faden (q : Nat) (r : Int) (w : World) (X : Rr) (h : RP q w w X) (hT : Tb w) (hq : 3 ≠ q) (hX : Sz X) (hs : (nx X 0).1.sy = kFade) (hw : ¬ (tmq r (tmq r (nmq (evA X).2).2).2).2.ws = []) : Calls Tryd.prog 16 #[.pointer (some ⟨q, 0, none⟩), .int .i64 r] w fun e w' => e = .returned (.tuple #[evv (evF r X).1.1, .int .i64 (evF r X).1.2]) ∧ RP q w w' (evF r X).2 := by
  unfold evF
  have hA : evA X = fdq (nx X 0).2 := by unfold evA; rw [if_neg (by rw [hs]; decide), if_pos hs]
  unfold evN
  simp only
  rw [if_neg hw]
  rw [hA] at hw ⊢
  clear hA
  have S1 := hX.nx 0
  have B2 := Bs.start (cs := #[.string ⟨#[]⟩, .int .i64 0, .int .i64 0, .int .i64 0, .string ⟨#[]⟩]) h (t := 34) (by decide) (by decide) (by decide)
  obtain ⟨w1, f1⟩ : ∃ w1, w.alloc (.cells #[.string ⟨#[]⟩, .int .i64 0, .int .i64 0, .int .i64 0, .string ⟨#[]⟩] 34 (0, 0)) = w1 := ⟨_, rfl⟩
  have z1 : w1.heap.size = w.heap.size + 1 := by rw [← f1]; simp
  rw [f1] at B2
  obtain ⟨w2, f2⟩ : ∃ w2, w1.alloc (.cells #[.string ⟨#[]⟩, .int .i64 0, .int .i64 0, .int .i64 0, .string ⟨#[]⟩] 34 (0, 0)) = w2 := ⟨_, rfl⟩
  rw [f2] at B2
  have CN := Hid.mk (next_any q 0 w2 w2 X B2.rp.refl)
  unfold NxP at CN
  generalize hx : nx X 0 = R at *
  obtain ⟨⟨kd, pl, sy⟩, X1⟩ := R
  simp only at CN hs S1 hw ⊢
  have TB : Hid (∀ u Y, RP q w u Y → Tb u) := Hid.mk (fun u Y hu i hi => by
    obtain ⟨_, _, _, _, k⟩ := hu
    obtain ⟨a, b, c, d⟩ := hT i hi
    exact ⟨cell_keep k a (by simpa using hq), cell_keep k b (by simpa using hq), cell_keep k c (by simpa using hq), cell_keep k d (by simpa using hq)⟩)
  have H2 := Hid.mk B2
  have SZ := Hid.mk S1
  have hq9 := hq
  have HW := Hid.mk hw
  clear B2 h hT hx S1 hX hw
  go_enter Tryd.func16, Tryd.ntmps16
  go_wp2_with (fail)
  refine CN.out.mono ?_
  rintro e w3 ⟨rfl, h3⟩
  unfold wv
  obtain ⟨w4, e4, -, k4, b4⟩ := word_new q w3 w3 X1 ⟨kd, pl, sy⟩ h3.refl
  obtain ⟨c0, c1, c2⟩ := word_cells b4
  simp only at c0 c1 c2 e4
  have B4 := Hid.mk ((H2.out.call h3).keep k4)
  clear h3 k4 b4 CN H2
  unfold kFade at hs
  subst hs
  have C5 := Hid.mk (fade_any q w4 w4 X1 B4.out.rp.refl SZ.out)
  go_wp2_with (fail)
  refine C5.out.mono ?_
  rintro e w5 ⟨rfl, h5⟩
  have B5 := Hid.mk (B4.out.call h5)
  clear h5 C5
  obtain ⟨d0, d1, d2, d3, d4⟩ := ev_cells B5.out.l2
  have g0 := fzb B5.out.l2 0
  have g1 := fzb B5.out.l2 1
  have g2 := fzb B5.out.l2 2
  have g3 := fzb B5.out.l2 3
  have g4 := fzb B5.out.l2 4
  obtain ⟨w6, e6⟩ : ∃ w6, w5.setCell ⟨w.heap.size + 1, 3, none⟩ (.int .i64 (fdq X1).1) = w6 := ⟨_, rfl⟩
  have B6 := Hid.mk (B5.out.set 3 (.int .i64 (fdq X1).1))
  rw [e6] at B6
  have C7 := Hid.mk (name_any q w6 w6 (fdq X1).2 B6.out.rp.refl SZ.out.fdq)
  go_wp2_with (fail)
  refine C7.out.mono ?_
  rintro e w7 ⟨rfl, h7⟩
  have B7 := Hid.mk (B6.out.call h7)
  clear h7 C7
  clear d0 d1 d2 d3 d4 g0 g1 g2 g3 g4
  obtain ⟨d0, d1, d2, d3, d4⟩ := ev_cells B7.out.l2
  have g0 := fzb B7.out.l2 0
  have g1 := fzb B7.out.l2 1
  have g2 := fzb B7.out.l2 2
  have g3 := fzb B7.out.l2 3
  have g4 := fzb B7.out.l2 4
  obtain ⟨w8, e8⟩ : ∃ w8, w7.setCell ⟨w.heap.size + 1, 0, none⟩ (.string (nmq (fdq X1).2).1) = w8 := ⟨_, rfl⟩
  have B8 := Hid.mk (B7.out.set 0 (.string (nmq (fdq X1).2).1))
  rw [e8] at B8
  have C9 := Hid.mk (time_any q r w8 w8 (nmq (fdq X1).2).2 B8.out.rp.refl (TB.out w8 _ B8.out.rp) SZ.out.fdq.nmq hq9)
  go_wp2_with (fail)
  refine C9.out.mono ?_
  rintro e w9 ⟨rfl, h9⟩
  have B9 := Hid.mk (B8.out.call h9)
  clear h9 C9
  clear d0 d1 d2 d3 d4 g0 g1 g2 g3 g4
  obtain ⟨d0, d1, d2, d3, d4⟩ := ev_cells B9.out.l2
  have g0 := fzb B9.out.l2 0
  have g1 := fzb B9.out.l2 1
  have g2 := fzb B9.out.l2 2
  have g3 := fzb B9.out.l2 3
  have g4 := fzb B9.out.l2 4
  obtain ⟨w10, e10⟩ : ∃ w10, w9.setCell ⟨w.heap.size + 1, 1, none⟩ (.int .i64 (tmq r (nmq (fdq X1).2).2).1.1) = w10 := ⟨_, rfl⟩
  have B10 := Hid.mk (B9.out.set 1 (.int .i64 (tmq r (nmq (fdq X1).2).2).1.1))
  rw [e10] at B10
  have C11 := Hid.mk (time_any q r w10 w10 (tmq r (nmq (fdq X1).2).2).2 B10.out.rp.refl (TB.out w10 _ B10.out.rp) (SZ.out.fdq.nmq.tmq r) hq9)
  go_wp2_with (fail)
  refine C11.out.mono ?_
  rintro e w11 ⟨rfl, h11⟩
  have B11 := Hid.mk (B10.out.call h11)
  clear h11 C11
  clear d0 d1 d2 d3 d4 g0 g1 g2 g3 g4
  obtain ⟨d0, d1, d2, d3, d4⟩ := ev_cells B11.out.l2
  have g0 := fzb B11.out.l2 0
  have g1 := fzb B11.out.l2 1
  have g2 := fzb B11.out.l2 2
  have g3 := fzb B11.out.l2 3
  have g4 := fzb B11.out.l2 4
  obtain ⟨w12, e12⟩ : ∃ w12, w11.setCell ⟨w.heap.size + 1, 2, none⟩ (.int .i64 (tmq r (tmq r (nmq (fdq X1).2).2).2).1.1) = w12 := ⟨_, rfl⟩
  have B12 := Hid.mk (B11.out.set 2 (.int .i64 (tmq r (tmq r (nmq (fdq X1).2).2).2).1.1))
  rw [e12] at B12
  obtain ⟨wl, cl, evl, rl9, -⟩ := B12.out.rp
  obtain ⟨m0, -, -⟩ := rl9.cells
  obtain ⟨n, en⟩ : ∃ n, (tmq r (tmq r (nmq (fdq X1).2).2).2).2.ws.length = n := ⟨_, rfl⟩
  rw [en] at m0
  have hn : 0 < n := by rw [← en]; exact List.length_pos_iff.2 HW.out
  have hn9 : (0 : Int) < (n : Int) := by omega
  clear rl9 en
  have C13 := Hid.mk (text_any q w12 w12 (tmq r (tmq r (nmq (fdq X1).2).2).2).2 B12.out.rp.refl)
  go_wp2_with (fail)
  refine C13.out.mono ?_
  rintro e w13 ⟨rfl, h13⟩
  have B13 := Hid.mk (B12.out.call h13)
  clear h13 C13
  clear d0 d1 d2 d3 d4 g0 g1 g2 g3 g4
  clear m0 hn hn9
  obtain ⟨d0, d1, d2, d3, d4⟩ := ev_cells B13.out.l2
  have g0 := fzb B13.out.l2 0
  have g1 := fzb B13.out.l2 1
  have g2 := fzb B13.out.l2 2
  have g3 := fzb B13.out.l2 3
  have g4 := fzb B13.out.l2 4
  obtain ⟨w14, e14⟩ : ∃ w14, w13.setCell ⟨w.heap.size + 1, 4, none⟩ (.string (tx (tmq r (tmq r (nmq (fdq X1).2).2).2).2).1) = w14 := ⟨_, rfl⟩
  have B14 := Hid.mk (B13.out.set 4 (.string (tx (tmq r (tmq r (nmq (fdq X1).2).2).2).2).1))
  rw [e14] at B14
  have C15 := Hid.mk (last_any q w14 w14 (tx (tmq r (tmq r (nmq (fdq X1).2).2).2).2).2 B14.out.rp.refl)
  go_wp2_with (fail)
  refine C15.out.mono ?_
  rintro e w15 ⟨rfl, h15⟩
  have B15 := Hid.mk (B14.out.call h15)
  clear h15 C15
  clear d0 d1 d2 d3 d4 g0 g1 g2 g3 g4
  obtain ⟨d0, d1, d2, d3, d4⟩ := ev_cells B15.out.l2
  obtain ⟨l0, l1, l2, l3, l4⟩ := ev_cells B15.out.l1
  have g0 := fzb B15.out.l1 0
  have g1 := fzb B15.out.l1 1
  have g2 := fzb B15.out.l1 2
  have g3 := fzb B15.out.l1 3
  have g4 := fzb B15.out.l1 4
  have HF := Hid.mk (B15.out.out (((((kset w15 w.heap.size 0 (.string (nmq (fdq X1).2).1)).trans (kset _ w.heap.size 1 (.int .i64 (tmq r (nmq (fdq X1).2).2).1.1))).trans (kset _ w.heap.size 2 (.int .i64 (tmq r (tmq r (nmq (fdq X1).2).2).2).1.1))).trans (kset _ w.heap.size 3 (.int .i64 (fdq X1).1))).trans (kset _ w.heap.size 4 (.string (tx (tmq r (tmq r (nmq (fdq X1).2).2).2).2).1))))
  go_wp2
  exact bodyPost_ret (v := .tuple #[.agg #[.string (nmq (fdq X1).2).1, .int .i64 (tmq r (nmq (fdq X1).2).2).1.1, .int .i64 (tmq r (tmq r (nmq (fdq X1).2).2).2).1.1, .int .i64 (fdq X1).1, .string (tx (tmq r (tmq r (nmq (fdq X1).2).2).2).2).1], .int .i64 (tmq r (tmq r (nmq (fdq X1).2).2).2).1.2]) (by simp [results, Tryd.results16, go_sem, l0, l1, l2, l3, l4]) rfl ⟨rfl, HF.out⟩
set_option maxHeartbeats 16000000 in
set_option maxRecDepth 1000000 in
theorem event_no (q : Nat) (r : Int) (w : World) (X : Rr) (h : RP q w w X) (hT : Tb w) (hq : 3 ≠ q) (hX : Sz X) (hs : ¬ (nx X 0).1.sy = kCut ∧ ¬ (nx X 0).1.sy = kFade) (hw : (tmq r (tmq r (nmq (evA X).2).2).2).2.ws = []) : Calls Tryd.prog 16 #[.pointer (some ⟨q, 0, none⟩), .int .i64 r] w fun e w' => e = .returned (.tuple #[evv (evF r X).1.1, .int .i64 (evF r X).1.2]) ∧ RP q w w' (evF r X).2 := by
  unfold evF
  have hA : evA X = ((0 : Int), rf (nx X 0).2 (nx X 0).1.pl 193) := by unfold evA; rw [if_neg hs.1, if_neg hs.2]
  unfold evN
  simp only
  rw [if_pos hw]
  rw [hA] at hw ⊢
  clear hA
  have S1 := hX.nx 0
  have B2 := Bs.start (cs := #[.string ⟨#[]⟩, .int .i64 0, .int .i64 0, .int .i64 0, .string ⟨#[]⟩]) h (t := 34) (by decide) (by decide) (by decide)
  obtain ⟨w1, f1⟩ : ∃ w1, w.alloc (.cells #[.string ⟨#[]⟩, .int .i64 0, .int .i64 0, .int .i64 0, .string ⟨#[]⟩] 34 (0, 0)) = w1 := ⟨_, rfl⟩
  have z1 : w1.heap.size = w.heap.size + 1 := by rw [← f1]; simp
  rw [f1] at B2
  obtain ⟨w2, f2⟩ : ∃ w2, w1.alloc (.cells #[.string ⟨#[]⟩, .int .i64 0, .int .i64 0, .int .i64 0, .string ⟨#[]⟩] 34 (0, 0)) = w2 := ⟨_, rfl⟩
  rw [f2] at B2
  have CN := Hid.mk (next_any q 0 w2 w2 X B2.rp.refl)
  unfold NxP at CN
  generalize hx : nx X 0 = R at *
  obtain ⟨⟨kd, pl, sy⟩, X1⟩ := R
  simp only at CN hs S1 hw ⊢
  have TB : Hid (∀ u Y, RP q w u Y → Tb u) := Hid.mk (fun u Y hu i hi => by
    obtain ⟨_, _, _, _, k⟩ := hu
    obtain ⟨a, b, c, d⟩ := hT i hi
    exact ⟨cell_keep k a (by simpa using hq), cell_keep k b (by simpa using hq), cell_keep k c (by simpa using hq), cell_keep k d (by simpa using hq)⟩)
  have H2 := Hid.mk B2
  have SZ := Hid.mk S1
  have hq9 := hq
  have HW := Hid.mk hw
  clear B2 h hT hx S1 hX hw
  go_enter Tryd.func16, Tryd.ntmps16
  go_wp2_with (fail)
  refine CN.out.mono ?_
  rintro e w3 ⟨rfl, h3⟩
  unfold wv
  obtain ⟨w4, e4, -, k4, b4⟩ := word_new q w3 w3 X1 ⟨kd, pl, sy⟩ h3.refl
  obtain ⟨c0, c1, c2⟩ := word_cells b4
  simp only at c0 c1 c2 e4
  have B4 := Hid.mk ((H2.out.call h3).keep k4)
  clear h3 k4 b4 CN H2
  unfold kCut kFade at hs
  have hn1 := lit_ne2 [99, 117, 116] sy hs.1
  have hn2 := lit_ne2 [102, 97, 100, 101] sy hs.2
  have C5 := Hid.mk (refuse_rp q pl 193 w4 w4 X1 B4.out.rp.refl)
  go_wp2_with (fail)
  refine C5.out.mono ?_
  rintro e w5 ⟨rfl, h5⟩
  have B5 := Hid.mk (B4.out.call h5)
  clear h5 C5
  have C7 := Hid.mk (name_any q w5 w5 (rf X1 pl 193) B5.out.rp.refl (SZ.out.rf pl 193))
  go_wp2_with (fail)
  refine C7.out.mono ?_
  rintro e w7 ⟨rfl, h7⟩
  have B7 := Hid.mk (B5.out.call h7)
  clear h7 C7
  obtain ⟨d0, d1, d2, d3, d4⟩ := ev_cells B7.out.l2
  have g0 := fzb B7.out.l2 0
  have g1 := fzb B7.out.l2 1
  have g2 := fzb B7.out.l2 2
  have g3 := fzb B7.out.l2 3
  have g4 := fzb B7.out.l2 4
  obtain ⟨w8, e8⟩ : ∃ w8, w7.setCell ⟨w.heap.size + 1, 0, none⟩ (.string (nmq (rf X1 pl 193)).1) = w8 := ⟨_, rfl⟩
  have B8 := Hid.mk (B7.out.set 0 (.string (nmq (rf X1 pl 193)).1))
  rw [e8] at B8
  have C9 := Hid.mk (time_any q r w8 w8 (nmq (rf X1 pl 193)).2 B8.out.rp.refl (TB.out w8 _ B8.out.rp) (SZ.out.rf pl 193).nmq hq9)
  go_wp2_with (fail)
  refine C9.out.mono ?_
  rintro e w9 ⟨rfl, h9⟩
  have B9 := Hid.mk (B8.out.call h9)
  clear h9 C9
  clear d0 d1 d2 d3 d4 g0 g1 g2 g3 g4
  obtain ⟨d0, d1, d2, d3, d4⟩ := ev_cells B9.out.l2
  have g0 := fzb B9.out.l2 0
  have g1 := fzb B9.out.l2 1
  have g2 := fzb B9.out.l2 2
  have g3 := fzb B9.out.l2 3
  have g4 := fzb B9.out.l2 4
  obtain ⟨w10, e10⟩ : ∃ w10, w9.setCell ⟨w.heap.size + 1, 1, none⟩ (.int .i64 (tmq r (nmq (rf X1 pl 193)).2).1.1) = w10 := ⟨_, rfl⟩
  have B10 := Hid.mk (B9.out.set 1 (.int .i64 (tmq r (nmq (rf X1 pl 193)).2).1.1))
  rw [e10] at B10
  have C11 := Hid.mk (time_any q r w10 w10 (tmq r (nmq (rf X1 pl 193)).2).2 B10.out.rp.refl (TB.out w10 _ B10.out.rp) ((SZ.out.rf pl 193).nmq.tmq r) hq9)
  go_wp2_with (fail)
  refine C11.out.mono ?_
  rintro e w11 ⟨rfl, h11⟩
  have B11 := Hid.mk (B10.out.call h11)
  clear h11 C11
  clear d0 d1 d2 d3 d4 g0 g1 g2 g3 g4
  obtain ⟨d0, d1, d2, d3, d4⟩ := ev_cells B11.out.l2
  have g0 := fzb B11.out.l2 0
  have g1 := fzb B11.out.l2 1
  have g2 := fzb B11.out.l2 2
  have g3 := fzb B11.out.l2 3
  have g4 := fzb B11.out.l2 4
  obtain ⟨w12, e12⟩ : ∃ w12, w11.setCell ⟨w.heap.size + 1, 2, none⟩ (.int .i64 (tmq r (tmq r (nmq (rf X1 pl 193)).2).2).1.1) = w12 := ⟨_, rfl⟩
  have B12 := Hid.mk (B11.out.set 2 (.int .i64 (tmq r (tmq r (nmq (rf X1 pl 193)).2).2).1.1))
  rw [e12] at B12
  obtain ⟨wl, cl, evl, rl9, -⟩ := B12.out.rp
  obtain ⟨m0, -, -⟩ := rl9.cells
  obtain ⟨n, en⟩ : ∃ n, (tmq r (tmq r (nmq (rf X1 pl 193)).2).2).2.ws.length = n := ⟨_, rfl⟩
  rw [en] at m0
  have hn : n = 0 := by rw [← en, HW.out]; rfl
  subst hn
  clear rl9 en
  have C15 := Hid.mk (last_any q w12 w12 (tmq r (tmq r (nmq (rf X1 pl 193)).2).2).2 B12.out.rp.refl)
  go_wp2_with (fail)
  refine C15.out.mono ?_
  rintro e w15 ⟨rfl, h15⟩
  have B15 := Hid.mk (B12.out.call h15)
  clear h15 C15
  clear d0 d1 d2 d3 d4 g0 g1 g2 g3 g4
  clear m0
  obtain ⟨d0, d1, d2, d3, d4⟩ := ev_cells B15.out.l2
  obtain ⟨l0, l1, l2, l3, l4⟩ := ev_cells B15.out.l1
  have g0 := fzb B15.out.l1 0
  have g1 := fzb B15.out.l1 1
  have g2 := fzb B15.out.l1 2
  have g3 := fzb B15.out.l1 3
  have g4 := fzb B15.out.l1 4
  have HF := Hid.mk (B15.out.out (((((kset w15 w.heap.size 0 (.string (nmq (rf X1 pl 193)).1)).trans (kset _ w.heap.size 1 (.int .i64 (tmq r (nmq (rf X1 pl 193)).2).1.1))).trans (kset _ w.heap.size 2 (.int .i64 (tmq r (tmq r (nmq (rf X1 pl 193)).2).2).1.1))).trans (kset _ w.heap.size 3 (.int .i64 0))).trans (kset _ w.heap.size 4 (.string ⟨#[]⟩))))
  go_wp2
  exact bodyPost_ret (v := .tuple #[.agg #[.string (nmq (rf X1 pl 193)).1, .int .i64 (tmq r (nmq (rf X1 pl 193)).2).1.1, .int .i64 (tmq r (tmq r (nmq (rf X1 pl 193)).2).2).1.1, .int .i64 0, .string ⟨#[]⟩], .int .i64 (tmq r (tmq r (nmq (rf X1 pl 193)).2).2).1.2]) (by simp [results, Tryd.results16, go_sem, l0, l1, l2, l3, l4]) rfl ⟨rfl, HF.out⟩
set_option maxHeartbeats 16000000 in
set_option maxRecDepth 1000000 in
theorem event_non (q : Nat) (r : Int) (w : World) (X : Rr) (h : RP q w w X) (hT : Tb w) (hq : 3 ≠ q) (hX : Sz X) (hs : ¬ (nx X 0).1.sy = kCut ∧ ¬ (nx X 0).1.sy = kFade) (hw : ¬ (tmq r (tmq r (nmq (evA X).2).2).2).2.ws = []) : Calls Tryd.prog 16 #[.pointer (some ⟨q, 0, none⟩), .int .i64 r] w fun e w' => e = .returned (.tuple #[evv (evF r X).1.1, .int .i64 (evF r X).1.2]) ∧ RP q w w' (evF r X).2 := by
  unfold evF
  have hA : evA X = ((0 : Int), rf (nx X 0).2 (nx X 0).1.pl 193) := by unfold evA; rw [if_neg hs.1, if_neg hs.2]
  unfold evN
  simp only
  rw [if_neg hw]
  rw [hA] at hw ⊢
  clear hA
  have S1 := hX.nx 0
  have B2 := Bs.start (cs := #[.string ⟨#[]⟩, .int .i64 0, .int .i64 0, .int .i64 0, .string ⟨#[]⟩]) h (t := 34) (by decide) (by decide) (by decide)
  obtain ⟨w1, f1⟩ : ∃ w1, w.alloc (.cells #[.string ⟨#[]⟩, .int .i64 0, .int .i64 0, .int .i64 0, .string ⟨#[]⟩] 34 (0, 0)) = w1 := ⟨_, rfl⟩
  have z1 : w1.heap.size = w.heap.size + 1 := by rw [← f1]; simp
  rw [f1] at B2
  obtain ⟨w2, f2⟩ : ∃ w2, w1.alloc (.cells #[.string ⟨#[]⟩, .int .i64 0, .int .i64 0, .int .i64 0, .string ⟨#[]⟩] 34 (0, 0)) = w2 := ⟨_, rfl⟩
  rw [f2] at B2
  have CN := Hid.mk (next_any q 0 w2 w2 X B2.rp.refl)
  unfold NxP at CN
  generalize hx : nx X 0 = R at *
  obtain ⟨⟨kd, pl, sy⟩, X1⟩ := R
  simp only at CN hs S1 hw ⊢
  have TB : Hid (∀ u Y, RP q w u Y → Tb u) := Hid.mk (fun u Y hu i hi => by
    obtain ⟨_, _, _, _, k⟩ := hu
    obtain ⟨a, b, c, d⟩ := hT i hi
    exact ⟨cell_keep k a (by simpa using hq), cell_keep k b (by simpa using hq), cell_keep k c (by simpa using hq), cell_keep k d (by simpa using hq)⟩)
  have H2 := Hid.mk B2
  have SZ := Hid.mk S1
  have hq9 := hq
  have HW := Hid.mk hw
  clear B2 h hT hx S1 hX hw
  go_enter Tryd.func16, Tryd.ntmps16
  go_wp2_with (fail)
  refine CN.out.mono ?_
  rintro e w3 ⟨rfl, h3⟩
  unfold wv
  obtain ⟨w4, e4, -, k4, b4⟩ := word_new q w3 w3 X1 ⟨kd, pl, sy⟩ h3.refl
  obtain ⟨c0, c1, c2⟩ := word_cells b4
  simp only at c0 c1 c2 e4
  have B4 := Hid.mk ((H2.out.call h3).keep k4)
  clear h3 k4 b4 CN H2
  unfold kCut kFade at hs
  have hn1 := lit_ne2 [99, 117, 116] sy hs.1
  have hn2 := lit_ne2 [102, 97, 100, 101] sy hs.2
  have C5 := Hid.mk (refuse_rp q pl 193 w4 w4 X1 B4.out.rp.refl)
  go_wp2_with (fail)
  refine C5.out.mono ?_
  rintro e w5 ⟨rfl, h5⟩
  have B5 := Hid.mk (B4.out.call h5)
  clear h5 C5
  have C7 := Hid.mk (name_any q w5 w5 (rf X1 pl 193) B5.out.rp.refl (SZ.out.rf pl 193))
  go_wp2_with (fail)
  refine C7.out.mono ?_
  rintro e w7 ⟨rfl, h7⟩
  have B7 := Hid.mk (B5.out.call h7)
  clear h7 C7
  obtain ⟨d0, d1, d2, d3, d4⟩ := ev_cells B7.out.l2
  have g0 := fzb B7.out.l2 0
  have g1 := fzb B7.out.l2 1
  have g2 := fzb B7.out.l2 2
  have g3 := fzb B7.out.l2 3
  have g4 := fzb B7.out.l2 4
  obtain ⟨w8, e8⟩ : ∃ w8, w7.setCell ⟨w.heap.size + 1, 0, none⟩ (.string (nmq (rf X1 pl 193)).1) = w8 := ⟨_, rfl⟩
  have B8 := Hid.mk (B7.out.set 0 (.string (nmq (rf X1 pl 193)).1))
  rw [e8] at B8
  have C9 := Hid.mk (time_any q r w8 w8 (nmq (rf X1 pl 193)).2 B8.out.rp.refl (TB.out w8 _ B8.out.rp) (SZ.out.rf pl 193).nmq hq9)
  go_wp2_with (fail)
  refine C9.out.mono ?_
  rintro e w9 ⟨rfl, h9⟩
  have B9 := Hid.mk (B8.out.call h9)
  clear h9 C9
  clear d0 d1 d2 d3 d4 g0 g1 g2 g3 g4
  obtain ⟨d0, d1, d2, d3, d4⟩ := ev_cells B9.out.l2
  have g0 := fzb B9.out.l2 0
  have g1 := fzb B9.out.l2 1
  have g2 := fzb B9.out.l2 2
  have g3 := fzb B9.out.l2 3
  have g4 := fzb B9.out.l2 4
  obtain ⟨w10, e10⟩ : ∃ w10, w9.setCell ⟨w.heap.size + 1, 1, none⟩ (.int .i64 (tmq r (nmq (rf X1 pl 193)).2).1.1) = w10 := ⟨_, rfl⟩
  have B10 := Hid.mk (B9.out.set 1 (.int .i64 (tmq r (nmq (rf X1 pl 193)).2).1.1))
  rw [e10] at B10
  have C11 := Hid.mk (time_any q r w10 w10 (tmq r (nmq (rf X1 pl 193)).2).2 B10.out.rp.refl (TB.out w10 _ B10.out.rp) ((SZ.out.rf pl 193).nmq.tmq r) hq9)
  go_wp2_with (fail)
  refine C11.out.mono ?_
  rintro e w11 ⟨rfl, h11⟩
  have B11 := Hid.mk (B10.out.call h11)
  clear h11 C11
  clear d0 d1 d2 d3 d4 g0 g1 g2 g3 g4
  obtain ⟨d0, d1, d2, d3, d4⟩ := ev_cells B11.out.l2
  have g0 := fzb B11.out.l2 0
  have g1 := fzb B11.out.l2 1
  have g2 := fzb B11.out.l2 2
  have g3 := fzb B11.out.l2 3
  have g4 := fzb B11.out.l2 4
  obtain ⟨w12, e12⟩ : ∃ w12, w11.setCell ⟨w.heap.size + 1, 2, none⟩ (.int .i64 (tmq r (tmq r (nmq (rf X1 pl 193)).2).2).1.1) = w12 := ⟨_, rfl⟩
  have B12 := Hid.mk (B11.out.set 2 (.int .i64 (tmq r (tmq r (nmq (rf X1 pl 193)).2).2).1.1))
  rw [e12] at B12
  obtain ⟨wl, cl, evl, rl9, -⟩ := B12.out.rp
  obtain ⟨m0, -, -⟩ := rl9.cells
  obtain ⟨n, en⟩ : ∃ n, (tmq r (tmq r (nmq (rf X1 pl 193)).2).2).2.ws.length = n := ⟨_, rfl⟩
  rw [en] at m0
  have hn : 0 < n := by rw [← en]; exact List.length_pos_iff.2 HW.out
  have hn9 : (0 : Int) < (n : Int) := by omega
  clear rl9 en
  have C13 := Hid.mk (text_any q w12 w12 (tmq r (tmq r (nmq (rf X1 pl 193)).2).2).2 B12.out.rp.refl)
  go_wp2_with (fail)
  refine C13.out.mono ?_
  rintro e w13 ⟨rfl, h13⟩
  have B13 := Hid.mk (B12.out.call h13)
  clear h13 C13
  clear d0 d1 d2 d3 d4 g0 g1 g2 g3 g4
  clear m0 hn hn9
  obtain ⟨d0, d1, d2, d3, d4⟩ := ev_cells B13.out.l2
  have g0 := fzb B13.out.l2 0
  have g1 := fzb B13.out.l2 1
  have g2 := fzb B13.out.l2 2
  have g3 := fzb B13.out.l2 3
  have g4 := fzb B13.out.l2 4
  obtain ⟨w14, e14⟩ : ∃ w14, w13.setCell ⟨w.heap.size + 1, 4, none⟩ (.string (tx (tmq r (tmq r (nmq (rf X1 pl 193)).2).2).2).1) = w14 := ⟨_, rfl⟩
  have B14 := Hid.mk (B13.out.set 4 (.string (tx (tmq r (tmq r (nmq (rf X1 pl 193)).2).2).2).1))
  rw [e14] at B14
  have C15 := Hid.mk (last_any q w14 w14 (tx (tmq r (tmq r (nmq (rf X1 pl 193)).2).2).2).2 B14.out.rp.refl)
  go_wp2_with (fail)
  refine C15.out.mono ?_
  rintro e w15 ⟨rfl, h15⟩
  have B15 := Hid.mk (B14.out.call h15)
  clear h15 C15
  clear d0 d1 d2 d3 d4 g0 g1 g2 g3 g4
  obtain ⟨d0, d1, d2, d3, d4⟩ := ev_cells B15.out.l2
  obtain ⟨l0, l1, l2, l3, l4⟩ := ev_cells B15.out.l1
  have g0 := fzb B15.out.l1 0
  have g1 := fzb B15.out.l1 1
  have g2 := fzb B15.out.l1 2
  have g3 := fzb B15.out.l1 3
  have g4 := fzb B15.out.l1 4
  have HF := Hid.mk (B15.out.out (((((kset w15 w.heap.size 0 (.string (nmq (rf X1 pl 193)).1)).trans (kset _ w.heap.size 1 (.int .i64 (tmq r (nmq (rf X1 pl 193)).2).1.1))).trans (kset _ w.heap.size 2 (.int .i64 (tmq r (tmq r (nmq (rf X1 pl 193)).2).2).1.1))).trans (kset _ w.heap.size 3 (.int .i64 0))).trans (kset _ w.heap.size 4 (.string (tx (tmq r (tmq r (nmq (rf X1 pl 193)).2).2).2).1))))
  go_wp2
  exact bodyPost_ret (v := .tuple #[.agg #[.string (nmq (rf X1 pl 193)).1, .int .i64 (tmq r (nmq (rf X1 pl 193)).2).1.1, .int .i64 (tmq r (tmq r (nmq (rf X1 pl 193)).2).2).1.1, .int .i64 0, .string (tx (tmq r (tmq r (nmq (rf X1 pl 193)).2).2).2).1], .int .i64 (tmq r (tmq r (nmq (rf X1 pl 193)).2).2).1.2]) (by simp [results, Tryd.results16, go_sem, l0, l1, l2, l3, l4]) rfl ⟨rfl, HF.out⟩

theorem event_any (q : Nat) (r : Int) (w : World) (X : Rr) (h : RP q w w X) (hT : Tb w) (hq : 3 ≠ q) (hX : Sz X) : Calls Tryd.prog 16 #[.pointer (some ⟨q, 0, none⟩), .int .i64 r] w fun e w' => e = .returned (.tuple #[evv (evF r X).1.1, .int .i64 (evF r X).1.2]) ∧ RP q w w' (evF r X).2 := by
  by_cases hw : (tmq r (tmq r (nmq (evA X).2).2).2).2.ws = []
  · by_cases h1 : (nx X 0).1.sy = kCut
    · exact event_cut q r w X h hT hq hX h1 hw
    · by_cases h2 : (nx X 0).1.sy = kFade
      · exact event_fade q r w X h hT hq hX h2 hw
      · exact event_no q r w X h hT hq hX ⟨h1, h2⟩ hw
  · by_cases h1 : (nx X 0).1.sy = kCut
    · exact event_cutn q r w X h hT hq hX h1 hw
    · by_cases h2 : (nx X 0).1.sy = kFade
      · exact event_faden q r w X h hT hq hX h2 hw
      · exact event_non q r w X h hT hq hX ⟨h1, h2⟩ hw
end Go.Proofs.YtknkjhfemgiiaaaDoor
