import Derived.Test.YtknkjhfemgiiaaaDoorSh
import Derived.Test.YtknkjhfemgiiaaaDoorTl
import Derived.Test.YtknkjhfemgiiaaaDoorA6
namespace Go.Proofs.YtknkjhfemgiiaaaDoor
open Go.RowKit Go.Lib

/-- The tables of unicode/utf8. -/
def Ut (w : World) : Prop := Lib.Utf8Tabs 4 5 w
theorem Ut.keepq {w w' : World} {l : List Nat} (h : Ut w) (hk : Kept l w w') (h1 : 4 ∉ l) (h2 : 5 ∉ l) : Ut w' :=
  ⟨fun c hc => cell_keep hk (h.1 c hc) h1, fun i hi => ⟨cell_keep hk (h.2 i hi).1 h2, cell_keep hk (h.2 i hi).2 h2⟩⟩
theorem Ut.keep {w w' : World} (h : Ut w) (hk : Kept [] w w') : Ut w' := h.keepq hk (by simp) (by simp)
theorem valid_any (s : ByteArray) (w : World) (hs : s.size ≤ maxLen) (hT : Ut w) : Calls Tryd.prog 60 #[.string s] w fun e w' => e = .returned (.bool (Lib.validD s.data.toList)) ∧ Kept [] w w' :=
  (Any.utf8_ValidString Tryd.lays196 s w (by unfold maxLen at hs; omega) hT).mono fun e w' ⟨h1, h2⟩ => ⟨h1, Kept.of_below h2⟩
def ntE (s : ByteArray) : Int := if 100 < s.size then 191 else if Lib.validD s.data.toList = true then 0 else 192
set_option maxHeartbeats 4000000 in
theorem checkNote_any (s : ByteArray) (w : World) (hs : s.size ≤ maxLen) (hT : Ut w) : Calls Tryd.prog 42 #[.string s] w fun e w' => e = .returned (.int .i64 (ntE s)) ∧ Kept [] w w' := by
  have CV := Hid.mk (fun u hu => valid_any s u hs hu)
  unfold ntE
  by_cases hl : 100 < s.size
  · rw [if_pos hl]
    have hl2 : (100 : Int) < (s.size : Int) := by omega
    clear hl hs hT
    go_enter Tryd.func42, Tryd.ntmps42
    go_wp2
    go_ret
    exact ⟨rfl, Kept.refl _ _⟩
  · rw [if_neg hl]
    have hl2 : ¬ (100 : Int) < (s.size : Int) := by omega
    generalize Lib.validD s.data.toList = b at *
    have CV2 := Hid.mk (CV.out w hT)
    clear hl hs hT CV
    cases b with
    | true =>
      simp only [if_true]
      go_enter Tryd.func42, Tryd.ntmps42
      go_wp2_with (go_at_call 60; refine CV2.out.mono ?_; rintro e w' ⟨rfl, kk⟩)
      go_ret
      exact ⟨rfl, kk⟩
    | false =>
      simp only [Bool.false_eq_true, if_false]
      go_enter Tryd.func42, Tryd.ntmps42
      go_wp2_with (go_at_call 60; refine CV2.out.mono ?_; rintro e w' ⟨rfl, kk⟩)
      go_ret
      exact ⟨rfl, kk⟩
theorem frames_any (x : Evt) (w : World) (h0 : -4611686018427387904 ≤ x.inn) (h1 : x.inn ≤ 4611686018427387903) (h2 : -4611686018427387904 ≤ x.out) (h3 : x.out ≤ 4611686018427387903) : Calls Tryd.prog 12 #[evv x] w fun e w' => e = .returned (.int .i64 (x.out - x.inn)) ∧ Kept [] w w' := by
  obtain ⟨reel, inn, out, fade, note⟩ := x
  simp only at h0 h1 h2 h3
  have wk : wrap64 (out - inn) = out - inn := w64_in (by omega) (by omega)
  unfold evv
  go_enter Tryd.func12, Tryd.ntmps12
  go_wp2
  go_ret
  exact ⟨rfl, alloc_kept _ _⟩
/-- Events that are read. -/
def EvR (w : World) (g o : Nat) (l : List Evt) : Prop := ∀ (j : Nat) (x : Evt), l[j]? = some x → w.cell? ⟨g, o + j * 5, none⟩ = some (.string x.reel) ∧ w.cell? ⟨g, o + j * 5 + 1, none⟩ = some (.int .i64 x.inn) ∧ w.cell? ⟨g, o + j * 5 + 2, none⟩ = some (.int .i64 x.out) ∧ w.cell? ⟨g, o + j * 5 + 3, none⟩ = some (.int .i64 x.fade) ∧ w.cell? ⟨g, o + j * 5 + 4, none⟩ = some (.string x.note)
theorem EvR.kept {w w' : World} {g o : Nat} {l : List Evt} {k : List Nat} (h : EvR w g o l) (hk : Kept k w w') (hg : g ∉ k) : EvR w' g o l := fun j x hx => by
  obtain ⟨a, b, c, d, e⟩ := h j x hx
  exact ⟨cell_keep hk a hg, cell_keep hk b hg, cell_keep hk c hg, cell_keep hk d hg, cell_keep hk e hg⟩
theorem EvR.keep {w w' : World} {g o : Nat} {l : List Evt} (h : EvR w g o l) (hk : Kept [] w w') : EvR w' g o l := h.kept hk (by simp)
/-- A list of events as a value. -/
def clv (t : ByteArray) (r : Int) (a : Option Addr) (n c : Nat) : Value := .agg #[.string t, .int .i64 r, .slice a n c]
/-- Its numbers are those of a time of day. -/
structure Ebd (x : Evt) : Prop where
  i0 : 0 ≤ x.inn
  i1 : x.inn < x.out
  o1 : x.out ≤ 6000000
  f0 : 0 ≤ x.fade
  f1 : x.fade ≤ 100
set_option maxHeartbeats 4000000 in
set_option maxRecDepth 1000000 in
theorem leftAhead_first (t : ByteArray) (r : Int) (a : Option Addr) (n c : Nat) (w : World) : Calls Tryd.prog 41 #[clv t r a n c, .int .i64 0] w fun e w' => e = .returned (.int .i64 0) ∧ Kept [] w w' := by
  unfold clv
  go_enter Tryd.func41, Tryd.ntmps41
  go_wp2
  go_ret
  exact ⟨rfl, alloc_kept _ _⟩
set_option maxHeartbeats 4000000 in
set_option maxRecDepth 1000000 in
theorem leftAhead_next (t : ByteArray) (r : Int) (g o c j : Nat) (l : List Evt) (y : Evt) (w : World) (hR : EvR w g o l) (hy : l[j]? = some y) (hb : Ebd y) (hn : l.length ≤ 100000) : Calls Tryd.prog 41 #[clv t r (some ⟨g, o, none⟩) l.length c, .int .i64 ((j : Int) + 1)] w fun e w' => e = .returned (.int .i64 (y.out - y.inn - y.fade)) ∧ Kept [] w w' := by
  have hj : j < l.length := (List.getElem?_eq_some_iff.1 hy).1
  obtain ⟨n, en⟩ : ∃ n, l.length = n := ⟨_, rfl⟩
  rw [en] at hj hn ⊢
  obtain ⟨w1, e1⟩ : ∃ w1, w.alloc (.cells #[.string t, .int .i64 r, .slice (some ⟨g, o, none⟩) n c] 26 (0, 0)) = w1 := ⟨_, rfl⟩
  have k1 : Kept [] w w1 := by rw [← e1]; exact alloc_kept _ _
  have b1 := heap_alloc_new w (.cells #[.string t, .int .i64 r, .slice (some ⟨g, o, none⟩) n c] 26 (0, 0))
  rw [e1] at b1
  obtain ⟨x0, x1, x2⟩ := cut_cells b1
  obtain ⟨y0, y1, y2, y3, y4⟩ := (hR.keep k1) j y hy
  have ffm := Hid.mk (fun u => frames_any y u (by have := hb.i0; omega) (by have := hb.i1; have := hb.o1; omega) (by have := hb.i0; have := hb.i1; omega) (by have := hb.o1; omega))
  have HB := Hid.mk hb
  obtain ⟨reel, inn, out, fade, note⟩ := y
  simp only at y0 y1 y2 y3 y4
  have q1 : wrap64 ((j : Int) + 1 - 1) = (j : Int) := by rw [show (j : Int) + 1 - 1 = (j : Int) from by omega]; exact w64_in (by omega) (by omega)
  have q2 : (j : Int) + 1 - 1 = (j : Int) := by omega
  have q3 : ¬ (j : Int) + 1 = 0 := by omega
  have hji : (j : Int) < (n : Int) := by omega
  unfold clv
  have K1 := Hid.mk k1
  clear hR hb hy b1 k1 en
  obtain ⟨w2, e2⟩ : ∃ w2, w1.alloc (.cells #[.string reel, .int .i64 inn, .int .i64 out, .int .i64 fade, .string note] 34 (0, 0)) = w2 := ⟨_, rfl⟩
  have k2 : Kept [] w1 w2 := by rw [← e2]; exact alloc_kept _ _
  have b2 := heap_alloc_new w1 (.cells #[.string reel, .int .i64 inn, .int .i64 out, .int .i64 fade, .string note] 34 (0, 0))
  rw [e2] at b2
  obtain ⟨z0, z1, z2, z3, z4⟩ := ev_cells b2
  have r0 : ∀ p : KW w2, p.u.cell? ⟨w1.heap.size, 0, none⟩ = some (.string reel) := fun p => cell_keep p.h z0 (by simp)
  have r1 : ∀ p : KW w2, p.u.cell? ⟨w1.heap.size, 1, none⟩ = some (.int .i64 inn) := fun p => cell_keep p.h z1 (by simp)
  have r2 : ∀ p : KW w2, p.u.cell? ⟨w1.heap.size, 2, none⟩ = some (.int .i64 out) := fun p => cell_keep p.h z2 (by simp)
  have r3 : ∀ p : KW w2, p.u.cell? ⟨w1.heap.size, 3, none⟩ = some (.int .i64 fade) := fun p => cell_keep p.h z3 (by simp)
  have r4 : ∀ p : KW w2, p.u.cell? ⟨w1.heap.size, 4, none⟩ = some (.string note) := fun p => cell_keep p.h z4 (by simp)
  have C1 : Hid (∀ p : KW w2, Calls Tryd.prog 12 #[.agg #[.string reel, .int .i64 inn, .int .i64 out, .int .i64 fade, .string note]] p.u fun e w' => e = .returned (.int .i64 (out - inn)) ∧ ∃ p' : KW w2, w' = p'.u) := Hid.mk fun p => (ffm.out p.u).mono fun r w' ⟨h1, h2⟩ => ⟨h1, ⟨w', p.h.trans h2⟩, rfl⟩
  have NE : Nonempty (KW w2) := ⟨⟨w2, Kept.refl _ _⟩⟩
  have K2 := Hid.mk (K1.out.trans k2)
  have hb0 := HB.out.i0
  have hb1 := HB.out.i1
  have hb2 := HB.out.o1
  have hb3 := HB.out.f0
  have hb4 := HB.out.f1
  simp only at hb0 hb1 hb2 hb3 hb4
  have v1 : wrap64 (out - inn - fade) = out - inn - fade := w64_in (by omega) (by omega)
  have v2 : IntKind.i64.wrap (out - inn - fade) = out - inn - fade := wrap_i (by omega) (by omega)
  clear hb0 hb1 hb2 hb3 hb4 z0 z1 z2 z3 z4 b2 k2 ffm
  go_enter Tryd.func41, Tryd.ntmps41
  go_wp2_with (fail)
  refine wp_region_kept (by kernel_rfl) (by kernel_rfl) ?_
  repeat (go_big_quiet_step ((go_at_call 12; exact C1.out _)))
  refine wpQuiet_nil ?_
  rintro _ ⟨p, rfl⟩
  go_wp2
  go_ret
  exact ⟨rfl, K2.out.trans p.h⟩
end Go.Proofs.YtknkjhfemgiiaaaDoor
