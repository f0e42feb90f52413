import Derived.Test.YtknkjhfemgiiaaaDoorTj
namespace Go.Proofs.YtknkjhfemgiiaaaDoor
open Go.RowKit Go.Lib

/-- A block of another type, new to w0, is written. -/
theorem RP.put {q T : Nat} {w0 w w' : World} {X : Rr} {cs : Array Value} {t : TypeId} (h : RP q w0 w X) (hT : w.heap[T]? = some (.cells cs t (0, 0))) (h1 : t ≠ 58) (h2 : t ≠ 56) (h3 : t ≠ 48) (hn : w0.heap.size ≤ T) (hk : Kept [T] w w') : RP q w0 w' X := by
  obtain ⟨a, c, ev, r, k⟩ := h
  refine ⟨a, c, ev, ⟨hk.heap r.bx (fun hm => ?_), r.wd.kept hk hT h2, r.lc, r.cm, r.ev.kept hk hT h3⟩, k.step hk (fun x hx => by simp at hx; omega)⟩
  have := r.bx
  simp at hm; subst hm; rw [hT] at this; simp at this; exact h1 this.2
def Sz (X : Rr) : Prop := ∀ x ∈ X.ws, x.sy.size ≤ 100000
theorem rf_ws (X : Rr) (p E : Int) : (rf X p E).ws = X.ws := by unfold rf; split <;> rfl
theorem Sz.rf {X : Rr} (h : Sz X) (p E : Int) : Sz (rf X p E) := by unfold Sz; rw [rf_ws]; exact h
theorem Sz.nx {X : Rr} (h : Sz X) (k : Int) : Sz (nx X k).2 := by
  obtain ⟨ws, en, er⟩ := X
  cases ws with
  | nil => exact h.rf _ _
  | cons x t =>
    have ht : Sz ⟨t, en, er⟩ := fun y hy => h y (by simp at hy ⊢; exact .inr hy)
    simp only [Go.Proofs.YtknkjhfemgiiaaaDoor.nx]
    split
    · exact ht
    · exact ht.rf _ _
theorem Sz.tx {X : Rr} (h : Sz X) : Sz (tx X).2 := by
  unfold Go.Proofs.YtknkjhfemgiiaaaDoor.tx; simp only; split
  · exact (h.nx 1).rf _ _
  · exact h.nx 1
theorem Sz.nmq {X : Rr} (h : Sz X) : Sz (nmq X).2 := by
  unfold Go.Proofs.YtknkjhfemgiiaaaDoor.nmq; simp only; split
  · exact h.nx 0
  · exact (h.nx 0).rf _ _
theorem Sz.fdq {X : Rr} (h : Sz X) : Sz (fdq X).2 := by
  unfold Go.Proofs.YtknkjhfemgiiaaaDoor.fdq; simp only; split
  · exact h.nx 0
  · exact (h.nx 0).rf _ _
theorem Sz.tmq {X : Rr} (h : Sz X) (r : Int) : Sz (tmq r X).2 := by
  unfold Go.Proofs.YtknkjhfemgiiaaaDoor.tmq; simp only; split
  · exact h.nx 0
  · exact (h.nx 0).rf _ _
def kList : ByteArray := ⟨#[108, 105, 115, 116]⟩
def lsA (X : Rr) : Rr := if (nx X 0).1.sy = kList then (nx X 0).2 else rf (nx X 0).2 (nx X 0).1.pl 193
/-- The line `list`. -/
def lsF (X : Rr) : (ByteArray × Int) × Rr := (((tx (rtq (lsA X)).2).1, (rtq (lsA X)).1), lsq (tx (rtq (lsA X)).2).2)
theorem cut_cells {w : World} {B : Nat} {a b c : Value} (h : w.heap[B]? = some (.cells #[a, b, c] 26 (0, 0))) : w.cell? ⟨B, 0, none⟩ = some a ∧ w.cell? ⟨B, 1, none⟩ = some b ∧ w.cell? ⟨B, 2, none⟩ = some c := by
  refine ⟨?_, ?_, ?_⟩ <;> simp [World.cell?, h]
theorem fzb {w : World} {B : Nat} {cs : Array Value} {t : TypeId} (h : w.heap[B]? = some (.cells cs t (0, 0))) (i : Nat) : w.frozen? ⟨B, i, none⟩ = false := frozen_of_row w B i _ _ h
theorem kset (w : World) (B i : Nat) (v : Value) : Kept [B] w (w.setCell ⟨B, i, none⟩ v) := (Kept.refl _ _).setCell (.inl (by simp)) _
/-- A call's two structs under way: what is answered, and what is filled. -/
structure Bs (q : Nat) (w wk : World) (X : Rr) (t : TypeId) (c0 cs : Array Value) : Prop where
  rp : RP q w wk X
  l1 : wk.heap[w.heap.size]? = some (.cells c0 t (0, 0))
  l2 : wk.heap[w.heap.size + 1]? = some (.cells cs t (0, 0))
  t1 : t ≠ 58
  t2 : t ≠ 56
  t3 : t ≠ 48
theorem Bs.start {q : Nat} {w : World} {X : Rr} {t : TypeId} {cs : Array Value} (h : RP q w w X) (t1 : t ≠ 58) (t2 : t ≠ 56) (t3 : t ≠ 48) : Bs q w ((w.alloc (.cells cs t (0, 0))).alloc (.cells cs t (0, 0))) X t cs cs := by
  have b2 := heap_alloc_new (w.alloc (.cells cs t (0, 0))) (.cells cs t (0, 0))
  rw [World.size_alloc] at b2
  exact ⟨(h.keep (alloc_kept _ _)).keep (alloc_kept _ _), (alloc_kept _ _).heap (heap_alloc_new _ _) (by simp), b2, t1, t2, t3⟩
theorem Bs.call {q : Nat} {w wk w' : World} {X Y : Rr} {t : TypeId} {c0 cs : Array Value} (h : Bs q w wk X t c0 cs) (h' : RP q wk w' Y) : Bs q w w' Y t c0 cs :=
  ⟨h.rp.trans h', h.rp.stay h' h.l1 h.t1, h.rp.stay h' h.l2 h.t1, h.t1, h.t2, h.t3⟩
theorem Bs.keep {q : Nat} {w wk w' : World} {X : Rr} {t : TypeId} {c0 cs : Array Value} (h : Bs q w wk X t c0 cs) (k : Kept [] wk w') : Bs q w w' X t c0 cs :=
  ⟨h.rp.keep k, k.heap h.l1 (by simp), k.heap h.l2 (by simp), h.t1, h.t2, h.t3⟩
theorem Bs.set {q : Nat} {w wk : World} {X : Rr} {t : TypeId} {c0 cs : Array Value} (h : Bs q w wk X t c0 cs) (i : Nat) (v : Value) : Bs q w (wk.setCell ⟨w.heap.size + 1, i, none⟩ v) X t c0 (cs.setIfInBounds i v) := by
  have ks := kset wk (w.heap.size + 1) i v
  exact ⟨h.rp.put h.l2 h.t1 h.t2 h.t3 (by omega) ks, ks.heap h.l1 (by simp), heap_setCell_at h.l2, h.t1, h.t2, h.t3⟩
theorem Bs.out {q : Nat} {w wk w' : World} {X : Rr} {t : TypeId} {c0 cs : Array Value} (h : Bs q w wk X t c0 cs) (k : Kept [w.heap.size] wk w') : RP q w w' X := h.rp.put h.l1 h.t1 h.t2 h.t3 (Nat.le_refl _) k
-- generated
theorem lit_ne2 (l : List UInt8) (s : ByteArray) (h : ¬ s = (⟨l.toArray⟩ : ByteArray)) : (s.toList == l) = false := by
  rw [ByteArray.toList_eq, Bool.eq_false_iff]
  intro he
  have he2 : s.data.toList = l := by simpa using he
  obtain ⟨⟨t⟩⟩ := s
  simp at he2
  exact h (by rw [he2])
set_option maxHeartbeats 8000000 in
set_option maxRecDepth 1000000 in
theorem list_a (q : Nat) (w : World) (X : Rr) (h : RP q w w X) (hT : Wt w) (hq : 0 ≠ q) (hs : (nx X 0).1.sy = kList) : Calls Tryd.prog 15 #[.pointer (some ⟨q, 0, none⟩)] w fun e w' => e = .returned (.agg #[.string (lsF X).1.1, .int .i64 (lsF X).1.2, .slice none 0 0]) ∧ RP q w w' (lsF X).2 := by
  unfold lsF
  have hA : lsA X = (nx X 0).2 := by unfold lsA; rw [if_pos hs]
  rw [hA]
  clear hA
  have B2 := Bs.start (cs := #[.string ⟨#[]⟩, .int .i64 0, .slice none 0 0]) h (t := 26) (by decide) (by decide) (by decide)
  obtain ⟨w1, f1⟩ : ∃ w1, w.alloc (.cells #[.string ⟨#[]⟩, .int .i64 0, .slice none 0 0] 26 (0, 0)) = w1 := ⟨_, rfl⟩
  have z1 : w1.heap.size = w.heap.size + 1 := by rw [← f1]; simp
  rw [f1] at B2
  obtain ⟨w2, f2⟩ : ∃ w2, w1.alloc (.cells #[.string ⟨#[]⟩, .int .i64 0, .slice none 0 0] 26 (0, 0)) = w2 := ⟨_, rfl⟩
  rw [f2] at B2
  have CN := Hid.mk (next_any q 0 w2 w2 X B2.rp.refl)
  unfold NxP at CN
  generalize hx : nx X 0 = R at *
  obtain ⟨⟨kd, pl, sy⟩, X1⟩ := R
  simp only at CN hs ⊢
  have TB : Hid (∀ u Y, RP q w u Y → Wt u) := Hid.mk (fun u Y hu i hi => by obtain ⟨_, _, _, _, k⟩ := hu; exact cell_keep k (hT i hi) (by simpa using hq))
  have H2 := Hid.mk B2
  have hq9 := hq
  clear B2 h hT hx
  go_enter Tryd.func15, Tryd.ntmps15
  go_wp2_with (fail)
  refine CN.out.mono ?_
  rintro e w3 ⟨rfl, h3⟩
  unfold wv
  obtain ⟨w4, e4, -, k4, b4⟩ := word_new q w3 w3 X1 ⟨kd, pl, sy⟩ h3.refl
  obtain ⟨c0, c1, c2⟩ := word_cells b4
  simp only at c0 c1 c2 e4
  have B4 := Hid.mk ((H2.out.call h3).keep k4)
  clear h3 k4 b4 CN H2
  unfold kList at hs
  subst hs
  have C6 := Hid.mk (rate_any q w4 w4 X1 B4.out.rp.refl (TB.out w4 _ B4.out.rp) hq9)
  go_wp2_with (fail)
  refine C6.out.mono ?_
  rintro e w6 ⟨rfl, h6⟩
  have B6 := Hid.mk (B4.out.call h6)
  clear h6 C6
  obtain ⟨d0, d1, d2⟩ := cut_cells B6.out.l2
  have g0 := fzb B6.out.l2 0
  have g1 := fzb B6.out.l2 1
  obtain ⟨w7, e7⟩ : ∃ w7, w6.setCell ⟨w.heap.size + 1, 1, none⟩ (.int .i64 (rtq X1).1) = w7 := ⟨_, rfl⟩
  have B7 := Hid.mk (B6.out.set 1 (.int .i64 (rtq X1).1))
  rw [e7] at B7
  have C8 := Hid.mk (text_any q w7 w7 (rtq X1).2 B7.out.rp.refl)
  go_wp2_with (fail)
  refine C8.out.mono ?_
  rintro e w8 ⟨rfl, h8⟩
  have B8 := Hid.mk (B7.out.call h8)
  clear h8 C8
  clear d0 d1 d2 g0 g1
  obtain ⟨d0, d1, d2⟩ := cut_cells B8.out.l2
  have g0 := fzb B8.out.l2 0
  obtain ⟨w9, e9⟩ : ∃ w9, w8.setCell ⟨w.heap.size + 1, 0, none⟩ (.string (tx (rtq X1).2).1) = w9 := ⟨_, rfl⟩
  have B9 := Hid.mk (B8.out.set 0 (.string (tx (rtq X1).2).1))
  rw [e9] at B9
  have C10 := Hid.mk (last_any q w9 w9 (tx (rtq X1).2).2 B9.out.rp.refl)
  go_wp2_with (fail)
  refine C10.out.mono ?_
  rintro e w10 ⟨rfl, h10⟩
  have B10 := Hid.mk (B9.out.call h10)
  clear h10 C10
  clear d0 d1 d2 g0
  obtain ⟨d0, d1, d2⟩ := cut_cells B10.out.l2
  obtain ⟨l0, l1, l2⟩ := cut_cells B10.out.l1
  have g0 := fzb B10.out.l1 0
  have g1 := fzb B10.out.l1 1
  have g2 := fzb B10.out.l1 2
  have HF := Hid.mk (B10.out.out (((kset w10 w.heap.size 0 (.string (tx (rtq X1).2).1)).trans (kset _ w.heap.size 1 (.int .i64 (rtq X1).1))).trans (kset _ w.heap.size 2 (.slice none 0 0))))
  go_wp2
  exact bodyPost_ret (v := .agg #[.string (tx (rtq X1).2).1, .int .i64 (rtq X1).1, .slice none 0 0]) (by simp [results, Tryd.results15, go_sem, l0, l1, l2]) rfl ⟨rfl, HF.out⟩
set_option maxHeartbeats 8000000 in
set_option maxRecDepth 1000000 in
theorem list_b (q : Nat) (w : World) (X : Rr) (h : RP q w w X) (hT : Wt w) (hq : 0 ≠ q) (hs : ¬ (nx X 0).1.sy = kList) : Calls Tryd.prog 15 #[.pointer (some ⟨q, 0, none⟩)] w fun e w' => e = .returned (.agg #[.string (lsF X).1.1, .int .i64 (lsF X).1.2, .slice none 0 0]) ∧ RP q w w' (lsF X).2 := by
  unfold lsF
  have hA : lsA X = rf (nx X 0).2 (nx X 0).1.pl 193 := by unfold lsA; rw [if_neg hs]
  rw [hA]
  clear hA
  have B2 := Bs.start (cs := #[.string ⟨#[]⟩, .int .i64 0, .slice none 0 0]) h (t := 26) (by decide) (by decide) (by decide)
  obtain ⟨w1, f1⟩ : ∃ w1, w.alloc (.cells #[.string ⟨#[]⟩, .int .i64 0, .slice none 0 0] 26 (0, 0)) = w1 := ⟨_, rfl⟩
  have z1 : w1.heap.size = w.heap.size + 1 := by rw [← f1]; simp
  rw [f1] at B2
  obtain ⟨w2, f2⟩ : ∃ w2, w1.alloc (.cells #[.string ⟨#[]⟩, .int .i64 0, .slice none 0 0] 26 (0, 0)) = w2 := ⟨_, rfl⟩
  rw [f2] at B2
  have CN := Hid.mk (next_any q 0 w2 w2 X B2.rp.refl)
  unfold NxP at CN
  generalize hx : nx X 0 = R at *
  obtain ⟨⟨kd, pl, sy⟩, X1⟩ := R
  simp only at CN hs ⊢
  have TB : Hid (∀ u Y, RP q w u Y → Wt u) := Hid.mk (fun u Y hu i hi => by obtain ⟨_, _, _, _, k⟩ := hu; exact cell_keep k (hT i hi) (by simpa using hq))
  have H2 := Hid.mk B2
  have hq9 := hq
  clear B2 h hT hx
  go_enter Tryd.func15, Tryd.ntmps15
  go_wp2_with (fail)
  refine CN.out.mono ?_
  rintro e w3 ⟨rfl, h3⟩
  unfold wv
  obtain ⟨w4, e4, -, k4, b4⟩ := word_new q w3 w3 X1 ⟨kd, pl, sy⟩ h3.refl
  obtain ⟨c0, c1, c2⟩ := word_cells b4
  simp only at c0 c1 c2 e4
  have B4 := Hid.mk ((H2.out.call h3).keep k4)
  clear h3 k4 b4 CN H2
  unfold kList at hs
  have hne := lit_ne2 [108, 105, 115, 116] sy hs
  have C5 := Hid.mk (refuse_rp q pl 193 w4 w4 X1 B4.out.rp.refl)
  go_wp2_with (fail)
  refine C5.out.mono ?_
  rintro e w5 ⟨rfl, h5⟩
  have B5 := Hid.mk (B4.out.call h5)
  clear h5 C5
  have C6 := Hid.mk (rate_any q w5 w5 (rf X1 pl 193) B5.out.rp.refl (TB.out w5 _ B5.out.rp) hq9)
  go_wp2_with (fail)
  refine C6.out.mono ?_
  rintro e w6 ⟨rfl, h6⟩
  have B6 := Hid.mk (B5.out.call h6)
  clear h6 C6
  obtain ⟨d0, d1, d2⟩ := cut_cells B6.out.l2
  have g0 := fzb B6.out.l2 0
  have g1 := fzb B6.out.l2 1
  obtain ⟨w7, e7⟩ : ∃ w7, w6.setCell ⟨w.heap.size + 1, 1, none⟩ (.int .i64 (rtq (rf X1 pl 193)).1) = w7 := ⟨_, rfl⟩
  have B7 := Hid.mk (B6.out.set 1 (.int .i64 (rtq (rf X1 pl 193)).1))
  rw [e7] at B7
  have C8 := Hid.mk (text_any q w7 w7 (rtq (rf X1 pl 193)).2 B7.out.rp.refl)
  go_wp2_with (fail)
  refine C8.out.mono ?_
  rintro e w8 ⟨rfl, h8⟩
  have B8 := Hid.mk (B7.out.call h8)
  clear h8 C8
  clear d0 d1 d2 g0 g1
  obtain ⟨d0, d1, d2⟩ := cut_cells B8.out.l2
  have g0 := fzb B8.out.l2 0
  obtain ⟨w9, e9⟩ : ∃ w9, w8.setCell ⟨w.heap.size + 1, 0, none⟩ (.string (tx (rtq (rf X1 pl 193)).2).1) = w9 := ⟨_, rfl⟩
  have B9 := Hid.mk (B8.out.set 0 (.string (tx (rtq (rf X1 pl 193)).2).1))
  rw [e9] at B9
  have C10 := Hid.mk (last_any q w9 w9 (tx (rtq (rf X1 pl 193)).2).2 B9.out.rp.refl)
  go_wp2_with (fail)
  refine C10.out.mono ?_
  rintro e w10 ⟨rfl, h10⟩
  have B10 := Hid.mk (B9.out.call h10)
  clear h10 C10
  clear d0 d1 d2 g0
  obtain ⟨d0, d1, d2⟩ := cut_cells B10.out.l2
  obtain ⟨l0, l1, l2⟩ := cut_cells B10.out.l1
  have g0 := fzb B10.out.l1 0
  have g1 := fzb B10.out.l1 1
  have g2 := fzb B10.out.l1 2
  have HF := Hid.mk (B10.out.out (((kset w10 w.heap.size 0 (.string (tx (rtq (rf X1 pl 193)).2).1)).trans (kset _ w.heap.size 1 (.int .i64 (rtq (rf X1 pl 193)).1))).trans (kset _ w.heap.size 2 (.slice none 0 0))))
  go_wp2
  exact bodyPost_ret (v := .agg #[.string (tx (rtq (rf X1 pl 193)).2).1, .int .i64 (rtq (rf X1 pl 193)).1, .slice none 0 0]) (by simp [results, Tryd.results15, go_sem, l0, l1, l2]) rfl ⟨rfl, HF.out⟩

theorem list_any (q : Nat) (w : World) (X : Rr) (h : RP q w w X) (hT : Wt w) (hq : 0 ≠ q) : Calls Tryd.prog 15 #[.pointer (some ⟨q, 0, none⟩)] w fun e w' => e = .returned (.agg #[.string (lsF X).1.1, .int .i64 (lsF X).1.2, .slice none 0 0]) ∧ RP q w w' (lsF X).2 := by
  by_cases hs : (nx X 0).1.sy = kList
  · exact list_a q w X h hT hq hs
  · exact list_b q w X h hT hq hs
end Go.Proofs.YtknkjhfemgiiaaaDoor
