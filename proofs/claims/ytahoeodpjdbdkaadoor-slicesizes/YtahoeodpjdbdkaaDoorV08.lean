import Derived.Test.YtahoeodpjdbdkaaDoorV07
import Derived.Handy
namespace Go.Proofs.YtahoeodpjdbdkaaDoor
open Go.RowKit

theorem cE_zero {T d : Int} {W : Nat} {f : Nat → Int} {s : Wk} (h : xk T d W s = 0) : cE T d W f s = (rnl f (nA T W s.b s.t) d s.t (rom W s.t), shr T d (xs T d W s * (f (s.t + rnl f (nA T W s.b s.t) d s.t (rom W s.t)) - nA T W s.b s.t))) := by unfold cE; rw [if_pos h]
theorem cE_else {T d : Int} {W : Nat} {f : Nat → Int} {s : Wk} (h : xk T d W s ≠ 0) : cE T d W f s = (0, shr T d (xs T d W s * (f s.t - xp T d W s))) := by unfold cE; rw [if_neg h]

theorem it_cdr {T d : Int} {W n : Nat} {f : Nat → Int} {s s' : Wk} {x x' : Nat × Nat} (h : It T d W n (cdr T d W f) s x s' x') : s.t < n ∧ s' = itr T d W s (cE T d W f s) ∧ x' = bit T d W s (cE T d W f s) x := by
  obtain ⟨h0, ⟨hk, m, x1, hm, ⟨hr, hx⟩, h1⟩ | ⟨hk, q, ⟨hq, hx⟩, hs⟩⟩ := h
  · rw [cE_zero hk]
    rw [← hr]
    unfold itr bit
    simp only [if_pos hk]
    rcases h1 with ⟨h1, h2, h3⟩ | ⟨h1, q, ⟨hq, hx2⟩, hs⟩
    · rw [if_pos h1, if_pos h1, h3]; exact ⟨h0, h2, hx⟩
    · rw [if_neg h1, if_neg h1]
      have hq : q = shr T d (xs T d W s * (f (s.t + m) - nA T W s.b s.t)) := hq
      rw [← hq, ← hx]; exact ⟨h0, hs, hx2⟩
  · rw [cE_else hk]
    unfold itr bit
    simp only [if_neg hk]
    rw [← hq]; exact ⟨h0, hs, hx⟩

theorem rch_cdr {T d : Int} {W n : Nat} {f : Nat → Int} {s0 s : Wk} {x : Nat × Nat} (h : Rch T d W n (cdr T d W f) s0 (1, 8) s x) :
    ∃ j, s = stp T d W (cE T d W f) s0 j ∧ x = wrt T d W (cE T d W f) s0 j ∧ ∀ i, i < j → (stp T d W (cE T d W f) s0 i).t < n := by
  induction h with
  | refl => exact ⟨0, rfl, rfl, fun i hi => by omega⟩
  | tail h1 h2 ih =>
    obtain ⟨j, rfl, rfl, hj⟩ := ih
    obtain ⟨a, b, c⟩ := it_cdr h2
    refine ⟨j + 1, b, c, fun i hi => ?_⟩
    by_cases e : i = j
    · subst e; exact a
    · exact hj i (by omega)

theorem rw_few (r m room : Nat) : rw_ r m room ≤ m + 13 := by
  have h1 := cnt_le r m
  have h2 := J_le (rm r m)
  unfold rw_
  split
  · omega
  · split <;> omega
theorem bto_len {T d : Int} (G : Gd T d) (s : Wk) (k : Int) (least : Nat) (q : Int) (x : Nat × Nat) : (bto T d s k least q x).2 ≤ x.2 + 40 := by
  have := gw_le (fld q - least) (po s.L k) (wde T d) (po_le _ _) (by have := wde_in G; omega)
  show x.2 + _ ≤ _; omega
theorem bit_len {T d : Int} (G : Gd T d) {W : Nat} (s : Wk) (c : Nat × Int) (x : Nat × Nat) (hW : 1 ≤ W) : (bit T d W s c x).2 + 54 * s.t ≤ x.2 + 54 * (itr T d W s c).t := by
  have hr := rom_pos (t := s.t) hW
  unfold bit itr
  split
  · have h1 := rw_few s.r c.1 (rom W s.t)
    split
    · show x.2 + rw_ s.r c.1 (rom W s.t) + 54 * s.t ≤ x.2 + 54 * (s.t + c.1); omega
    · have h2 := bto_len G (gor T W s c.1) 0 1 c.2 (btr W s c.1 x)
      have h3 : (btr W s c.1 x).2 = x.2 + rw_ s.r c.1 (rom W s.t) := rfl
      show _ ≤ x.2 + 54 * (s.t + c.1 + 1); omega
  · have h2 := bto_len G s (xk T d W s) 0 c.2 x
    show _ ≤ x.2 + 54 * (s.t + 1); omega
theorem wrt_len {T d : Int} (G : Gd T d) {W : Nat} (c : Wk → Nat × Int) (s0 : Wk) (hW : 1 ≤ W) (j : Nat) : (wrt T d W c s0 j).2 ≤ 8 + 54 * (stp T d W c s0 j).t := by
  induction j with
  | zero => show 8 ≤ 8 + _; omega
  | succ j ih =>
    have := bit_len G (stp T d W c s0 j) (c (stp T d W c s0 j)) (wrt T d W c s0 j) hW
    show (bit _ _ _ _ _ _).2 ≤ 8 + 54 * (itr _ _ _ _ _).t
    omega

set_option maxHeartbeats 1000000 in
/-- A coder's two functions do what is wanted. -/
theorem chnd (w0 : World) (B P X G O : Nat) (T d D : Int) (W H n sb so sc : Nat) (f : Nat → Int) (hG : Gd T d) (hn : n ≤ 4194304) (hW : 1 ≤ W) (hW2 : W ≤ 4096) (hWH : n = W * H) (hf : ∀ i, 0 ≤ f i ∧ f i ≤ T) (s0 : Wk) :
    Hnd B P X G 65 T d D W n (cext sb so n sc d O) 44 45 (cdr T d W f) (Cm w0 B P X G O T d D W n sb so sc f) (fun _ _ => False) (Rch T d W n (cdr T d W f) s0 (1, 8)) := by
  have hT := hG.t0
  have hf2 : ∀ i, 0 ≤ f i ∧ f i ≤ 4095 := fun i => by have := hf i; omega
  refine ⟨fun w s x h => h.wm, fun w w' s s' x h hk hm => h.step hk hm, ?_, ?_⟩
  · intro w s x h hin ht hk hR
    have ha := nA_in hG hin hW
    have hr := rom_pos (t := s.t) hW
    have hr2 := rom_in (H := H) hW (show s.t < W * H by omega)
    obtain ⟨j, hs, hx, _⟩ := rch_cdr hR
    have hl := wrt_len hG (cE T d W f) s0 hW j
    rw [← hs, ← hx] at hl
    refine (crun_any w0 B P X G O T d D W n sb so sc f w s x h (nA T W s.b s.t) (rom W s.t) ha.1 (by omega) hr.1 (by omega) (by omega) hn hf2 (by omega)).mono ?_
    rintro e w' ⟨m, rfl, hm, hc, h98⟩
    exact .inl ⟨m, _, rfl, by rw [hm]; exact rnl_le _ _ _ _ _, ⟨hm, rfl⟩, hc, h98⟩
  · intro w s x k g p least h hin ht hP
    rcases hP with ⟨rfl, rfl, rfl, rfl, hk, hR⟩ | ⟨rfl, rfl, s1, x1, m, hm, hm2, ⟨hr, hx1⟩, hs, rfl, rfl, hk, hin1, ht1, hR⟩
    · obtain ⟨j, hs, hx, _⟩ := rch_cdr hR
      have hl := wrt_len hG (cE T d W f) s0 hW j
      rw [← hs, ← hx] at hl
      have hq := cE_q hG (f := f) hin hW hf
      rw [cE_else hk] at hq
      have hp := xp_in hG hin hW
      have hrg := rg_pos T d hG
      have hql : -5000 ≤ shr T d (xs T d W s * (f s.t - xp T d W s)) ∧ shr T d (xs T d W s * (f s.t - xp T d W s)) ≤ 5000 := by unfold fld at hq; dsimp only at hq; split at hq <;> omega
      refine (cone_any w0 B P X G O T d D W n sb so sc f w s x h hG _ _ _ 0 (xs_one ..) hp.1 (by omega) ht hf2 _ rfl hql.1 hql.2 (by omega) (lt_wde hG _ (by simpa using hq)) (by omega)).mono ?_
      rintro e w' ⟨rfl, hc, h98⟩
      exact .inl ⟨_, _, rfl, hql.1, hql.2, ⟨rfl, rfl⟩, hc, h98⟩
    · obtain ⟨j, hs', hx, _⟩ := rch_cdr hR
      have hl := wrt_len hG (cE T d W f) s0 hW j
      rw [← hs', ← hx] at hl
      have hq := cE_q hG (f := f) hin1 hW hf
      have hq1 := cE_run hG (f := f) hin1 hW hf hk
      rw [cE_zero hk, ← hr] at hq hq1
      have hq1 := hq1 (by show m < _; omega)
      have hp := nA_in hG hin1 hW
      have hrg := rg_pos T d hG
      have hst : s.t = s1.t + m := by rw [hs]; rfl
      rw [← hst] at hq hq1
      have hql : -5000 ≤ shr T d (xs T d W s1 * (f s.t - nA T W s1.b s1.t)) ∧ shr T d (xs T d W s1 * (f s.t - nA T W s1.b s1.t)) ≤ 5000 := by unfold fld at hq; dsimp only at hq; split at hq <;> omega
      have hw := rw_few s1.r m (rom W s1.t)
      have hr2 := rom_pos (t := s1.t) hW
      have hx2 : x.2 = x1.2 + rw_ s1.r m (rom W s1.t) := by rw [hx1]; rfl
      dsimp only at hq hq1
      refine (cone_any w0 B P X G O T d D W n sb so sc f w s x h hG _ _ _ 1 (xs_one ..) hp.1 (by omega) ht hf2 _ rfl hql.1 hql.2 hq1 (lt_wde hG _ (by omega)) (by omega)).mono ?_
      rintro e w' ⟨rfl, hc, h98⟩
      exact .inl ⟨_, _, rfl, hql.1, hql.2, ⟨rfl, rfl⟩, hc, h98⟩
end Go.Proofs.YtahoeodpjdbdkaaDoor

namespace Go.Proofs.YtahoeodpjdbdkaaDoor
open Go.RowKit

set_option maxHeartbeats 4000000 in
theorem unlearnt_any (R : Int) (w : World) (r0 : 0 ≤ R) (r1 : R ≤ 4096) : Calls Tryd.prog 30 #[.int .i64 R] w fun e w' => e = .returned (.agg #[.int .i64 (max ((R + 32) / 64) 2), .int .i64 0, .int .i64 0, .int .i64 1]) ∧ Kept [] w w' := by
  by_cases h : (R + 32) / 64 < 2
  · rw [show max ((R + 32) / 64) 2 = 2 by omega]
    go_enter Tryd.func30, Tryd.ntmps30
    go_wp2
    go_returns
    exact ⟨rfl, (Kept.refl _ _).alloc _⟩
  · rw [show max ((R + 32) / 64) 2 = (R + 32) / 64 by omega]
    go_enter Tryd.func30, Tryd.ntmps30
    go_wp2
    go_returns
    exact ⟨rfl, (Kept.refl _ _).alloc _⟩

set_option maxHeartbeats 4000000 in
theorem edges_any (D T d : Int) (w : World) (hD : D = 10 ∧ T = 1023 ∨ D = 12 ∧ T = 4095) (d0 : 0 ≤ d) (d1 : d ≤ 63) : Calls Tryd.prog 29 #[.int .i64 D, .int .i64 d] w fun e w' => e = .returned (.agg #[.int .i64 (e1 T d), .int .i64 (e2 T d), .int .i64 (e3 T d)]) ∧ Kept [] w w' := by
  rcases hD with ⟨rfl, rfl⟩ | ⟨rfl, rfl⟩
  · simp only [e1, e2, e3, if_true]
    go_enter Tryd.func29, Tryd.ntmps29
    go_wp2
    go_returns
    exact ⟨rfl, (Kept.refl _ _).alloc _⟩
  · simp only [e1, e2, e3]
    go_enter Tryd.func29, Tryd.ntmps29
    go_wp2
    go_returns
    exact ⟨rfl, (Kept.refl _ _).alloc _⟩

/-- A new model's cells. -/
abbrev z67 : Array Value := (List.replicate 1467 (Value.int .i64 0)).toArray
theorem zero67e : Tryd.t75.zero = some (.agg z67) := by kernel_rfl
theorem zero67 (w : World) : (zeroValue 75).run Tryd.prog w = .ok (.agg z67) w := by
  unfold zeroValue
  simp only [Sem.run_bind, Tryd.typeInfo75, Result.andThen_ok, zero67e]
  rfl
theorem build67 (Z : Array Value) (hz : ∀ w, (zeroValue 75).run Tryd.prog w = .ok (.agg Z) w) (hs : Z.size = 1467) (a b c x y z : Int) (w : World) :
    (Instr.build 75 #[(0, .int .i64 a), (1, .int .i64 b), (2, .int .i64 c), (4, .agg #[.int .i64 x, .int .i64 y, .int .i64 z])]).run Tryd.prog w = .ok (.agg ((((((Z.setIfInBounds 0 (.int .i64 a)).setIfInBounds 1 (.int .i64 b)).setIfInBounds 2 (.int .i64 c)).setIfInBounds 4 (.int .i64 x)).setIfInBounds 5 (.int .i64 y)).setIfInBounds 6 (.int .i64 z))) w := by
  have hne : Z ≠ #[] := by rintro rfl; simp at hs
  unfold Instr.build
  simp [hne, hz, Tryd.runUnderlying75, Instr.fill, hs, Value.cells, Tryd.sizeOf73, Tryd.sizeOf69, Tryd.sizeOf3]

/-- A model's cells while it is made: k contexts stand. -/
structure Arr (cs : Array Value) (k : Nat) (x0 x1 x2 x3 x4 x5 x6 A : Int) : Prop where
  size : cs.size = 1467
  h0 : cs[0]? = some (.int .i64 x0)
  h1 : cs[1]? = some (.int .i64 x1)
  h2 : cs[2]? = some (.int .i64 x2)
  h3 : cs[3]? = some (.int .i64 x3)
  h4 : cs[4]? = some (.int .i64 x4)
  h5 : cs[5]? = some (.int .i64 x5)
  h6 : cs[6]? = some (.int .i64 x6)
  c0 : ∀ j, j < k → cs[7 + j * 4]? = some (.int .i64 A)
  c1 : ∀ j, j < k → cs[7 + j * 4 + 1]? = some (.int .i64 0)
  c2 : ∀ j, j < k → cs[7 + j * 4 + 2]? = some (.int .i64 0)
  c3 : ∀ j, j < k → cs[7 + j * 4 + 3]? = some (.int .i64 1)
/-- Four cells are set. -/
abbrev st4 (cs : Array Value) (o : Nat) (A : Int) : Array Value := (((cs.setIfInBounds o (.int .i64 A)).setIfInBounds (o + 1) (.int .i64 0)).setIfInBounds (o + 2) (.int .i64 0)).setIfInBounds (o + 3) (.int .i64 1)
theorem st4_out (cs : Array Value) (o i : Nat) (A : Int) (h : i < o ∨ o + 4 ≤ i) : (st4 cs o A)[i]? = cs[i]? := by
  unfold st4
  rw [Array.getElem?_setIfInBounds_ne (by omega), Array.getElem?_setIfInBounds_ne (by omega), Array.getElem?_setIfInBounds_ne (by omega), Array.getElem?_setIfInBounds_ne (by omega)]
theorem st4_0 (cs : Array Value) (o : Nat) (A : Int) (h : o + 3 < cs.size) : (st4 cs o A)[o]? = some (.int .i64 A) := by
  unfold st4
  rw [Array.getElem?_setIfInBounds_ne (by omega), Array.getElem?_setIfInBounds_ne (by omega), Array.getElem?_setIfInBounds_ne (by omega), Array.getElem?_setIfInBounds_self_of_lt (by omega)]
theorem st4_1 (cs : Array Value) (o : Nat) (A : Int) (h : o + 3 < cs.size) : (st4 cs o A)[o + 1]? = some (.int .i64 0) := by
  unfold st4
  rw [Array.getElem?_setIfInBounds_ne (by omega), Array.getElem?_setIfInBounds_ne (by omega), Array.getElem?_setIfInBounds_self_of_lt (by simp; omega)]
theorem st4_2 (cs : Array Value) (o : Nat) (A : Int) (h : o + 3 < cs.size) : (st4 cs o A)[o + 2]? = some (.int .i64 0) := by
  unfold st4
  rw [Array.getElem?_setIfInBounds_ne (by omega), Array.getElem?_setIfInBounds_self_of_lt (by simp; omega)]
theorem st4_3 (cs : Array Value) (o : Nat) (A : Int) (h : o + 3 < cs.size) : (st4 cs o A)[o + 3]? = some (.int .i64 1) := by
  unfold st4
  rw [Array.getElem?_setIfInBounds_self_of_lt (by simp; omega)]
theorem Arr.next {cs : Array Value} {k : Nat} {x0 x1 x2 x3 x4 x5 x6 A : Int} (h : Arr cs k x0 x1 x2 x3 x4 x5 x6 A) (hk : k < 365) : Arr (st4 cs (7 + k * 4) A) (k + 1) x0 x1 x2 x3 x4 x5 x6 A := by
  have hl : 7 + k * 4 + 3 < cs.size := by rw [h.size]; omega
  refine ⟨by simp [st4, h.size], by rw [st4_out _ _ _ _ (by omega)]; exact h.h0, by rw [st4_out _ _ _ _ (by omega)]; exact h.h1, by rw [st4_out _ _ _ _ (by omega)]; exact h.h2, by rw [st4_out _ _ _ _ (by omega)]; exact h.h3, by rw [st4_out _ _ _ _ (by omega)]; exact h.h4, by rw [st4_out _ _ _ _ (by omega)]; exact h.h5, by rw [st4_out _ _ _ _ (by omega)]; exact h.h6, ?_, ?_, ?_, ?_⟩
  · intro j hj
    by_cases e : j = k
    · subst e; exact st4_0 _ _ _ hl
    · rw [st4_out _ _ _ _ (by omega)]; exact h.c0 j (by omega)
  · intro j hj
    by_cases e : j = k
    · subst e; exact st4_1 _ _ _ hl
    · rw [st4_out _ _ _ _ (by omega)]; exact h.c1 j (by omega)
  · intro j hj
    by_cases e : j = k
    · subst e; exact st4_2 _ _ _ hl
    · rw [st4_out _ _ _ _ (by omega)]; exact h.c2 j (by omega)
  · intro j hj
    by_cases e : j = k
    · subst e; exact st4_3 _ _ _ hl
    · rw [st4_out _ _ _ _ (by omega)]; exact h.c3 j (by omega)
theorem heap_st4 {w : World} {P o : Nat} {cs : Array Value} {A : Int} (h : w.heap[P]? = some (.cells cs 75 (0, 0))) :
    ((((w.setCell ⟨P, o, none⟩ (.int .i64 A)).setCell ⟨P, o + 1, none⟩ (.int .i64 0)).setCell ⟨P, o + 2, none⟩ (.int .i64 0)).setCell ⟨P, o + 3, none⟩ (.int .i64 1)).heap[P]? = some (.cells (st4 cs o A) 75 (0, 0)) :=
  heap_setCell_at (heap_setCell_at (heap_setCell_at (heap_setCell_at h)))
theorem Arr.md {w : World} {P : Nat} {cs : Array Value} {T d : Int} (h : Arr cs 365 T d (2 * d + 1) (rg T d) (e1 T d) (e2 T d) (e3 T d) (max ((rg T d + 32) / 64) 2)) (hb : w.heap[P]? = some (.cells cs 75 (0, 0))) (G : Gd T d) : Md w P T d (fun _ => sx0 T d) := by
  have e := cell_of_row w P
  refine ⟨G, ⟨?_, ?_, ?_, ?_, ?_, ?_, ?_⟩, ⟨cs, hb, h.size⟩, ?_, fun _ => sx0_fit T d G⟩
  · rw [cell_of_row _ _ _ _ _ _ hb]; exact h.h0
  · rw [cell_of_row _ _ _ _ _ _ hb]; exact h.h1
  · rw [cell_of_row _ _ _ _ _ _ hb]; exact h.h2
  · rw [cell_of_row _ _ _ _ _ _ hb]; exact h.h3
  · rw [cell_of_row _ _ _ _ _ _ hb]; exact h.h4
  · rw [cell_of_row _ _ _ _ _ _ hb]; exact h.h5
  · rw [cell_of_row _ _ _ _ _ _ hb]; exact h.h6
  · intro k hk
    refine ⟨⟨cs, hb, by rw [h.size]; omega⟩, ?_, ?_, ?_, ?_⟩
    · rw [cell_of_row _ _ _ _ _ _ hb]; exact h.c0 k hk
    · rw [cell_of_row _ _ _ _ _ _ hb]; exact h.c1 k hk
    · rw [cell_of_row _ _ _ _ _ _ hb]; exact h.c2 k hk
    · rw [cell_of_row _ _ _ _ _ _ hb]; exact h.c3 k hk
theorem cell_some {w : World} {P i : Nat} {cs : Array Value} (hb : w.heap[P]? = some (.cells cs 75 (0, 0))) (h : i < cs.size) : w.cell? ⟨P, i, none⟩ = some cs[i] := by
  rw [cell_of_row _ _ _ _ _ _ hb]; simp [h]

end Go.Proofs.YtahoeodpjdbdkaaDoor

namespace Go.Proofs.YtahoeodpjdbdkaaDoor
open Go.RowKit

set_option maxHeartbeats 8000000 in
set_option maxRecDepth 1000000 in
theorem new1023 (d : Int) (w : World) (d0 : 0 ≤ d) (d1 : d ≤ 63) : Calls Tryd.prog 19 #[.int .i64 10, .int .i64 d] w fun e w' => ∃ P, e = .returned (.tuple #[.pointer (some ⟨P, 0, none⟩), .int .i64 0]) ∧ Md w' P 1023 d (fun _ => sx0 1023 d) ∧ w.heap.size ≤ P ∧ Kept [] w w' := by
  have E := Hid.mk (fun w => edges_any 10 1023 d w (by omega) d0 d1)
  have hs : z67.size = 1467 := by simp
  have hz : ∀ w, (zeroValue 75).run Tryd.prog w = .ok (.agg z67) w := zero67
  have hv : Hid (∀ i, i < 1467 → z67[i]? = some (.int .i64 0)) := Hid.mk (fun i hi => by simp [hi])
  have hne : ¬ z67 = #[] := by intro h; rw [h] at hs; simp at hs
  generalize z67 = Z at *
  have q1 : IntKind.i64.wrap (2 * d) = 2 * d := wrap_i (by omega) (by omega)
  have q2 : IntKind.i64.wrap (2 * d + 1) = 2 * d + 1 := wrap_i (by omega) (by omega)
  have q3 : IntKind.i64.wrap 1024 = 1024 := wrap_i (by omega) (by omega)
  have q4 : IntKind.i64.wrap 1023 = 1023 := wrap_i (by omega) (by omega)
  have q5 : IntKind.i64.wrap (1024 - 1) = 1023 := wrap_i (by omega) (by omega)
  have G : Gd 1023 d := ⟨by omega, d0, d1⟩
  have hR := rg_pos 1023 d G
  have HR : Hid (Hid (rg 1023 d = (1023 + 2 * d) / (2 * d + 1) + 1)) := Hid.mk (Hid.mk rfl)
  have q6 : IntKind.i64.wrap (1023 + 2 * d) = 1023 + 2 * d := wrap_i (by omega) (by omega)
  have q7 : IntKind.i64.wrap ((1023 + 2 * d).tdiv (2 * d + 1)) = rg 1023 d - 1 := by
    rw [Int.tdiv_eq_ediv_of_nonneg (by omega)]
    have := HR.out.out
    rw [show (1023 + 2 * d) / (2 * d + 1) = rg 1023 d - 1 by omega]
    exact wrap_i (by omega) (by omega)
  have q8 : IntKind.i64.wrap (rg 1023 d) = rg 1023 d := wrap_i (by omega) (by omega)
  have q9 : 2 * d + 1 ≠ 0 := by omega
  have HS : Hid (sx0 1023 d = ⟨max ((rg 1023 d + 32) / 64) 2, 0, 0, 1⟩) := Hid.mk rfl
  have U := Hid.mk (fun w => unlearnt_any (rg 1023 d) w (by omega) (by omega))
  have HG := Hid.mk G
  have HM : Hid (∀ w P cs, Arr cs 365 1023 d (2 * d + 1) (rg 1023 d) (e1 1023 d) (e2 1023 d) (e3 1023 d) (max ((rg 1023 d + 32) / 64) 2) → w.heap[P]? = some (.cells cs 75 (0, 0)) → Md w P 1023 d (fun _ => sx0 1023 d)) := Hid.mk (fun w P cs h hb => h.md hb G)
  rw [HS.out] at HM
  generalize rg 1023 d = R at hR q7 q8 HS U HM
  generalize e1 1023 d = a1 at *
  generalize e2 1023 d = a2 at *
  generalize e3 1023 d = a3 at *
  rw [HS.out]
  generalize max ((R + 32) / 64) 2 = A at *
  clear G HR HS
  go_enter Tryd.func19, Tryd.ntmps19
  go_wp2
  go_region_with (go_at_call 29; refine (E.out _).mono ?_; rintro e w1 ⟨rfl, hk1⟩)
  obtain ⟨C, hC⟩ : ∃ C, C = (((((Z.setIfInBounds 0 (.int .i64 1023)).setIfInBounds 1 (.int .i64 d)).setIfInBounds 2 (.int .i64 (2 * d + 1))).setIfInBounds 4 (.int .i64 a1)).setIfInBounds 5 (.int .i64 a2)).setIfInBounds 6 (.int .i64 a3) := ⟨_, rfl⟩
  rw [← hC]
  have hCs : C.size = 1467 := by rw [hC]; simp [hs]
  have HC := Hid.mk hC
  clear hC
  obtain ⟨w2, hw2, k2, hb2⟩ : ∃ w2, w1.alloc (.cells C 75 (0, 0)) = w2 ∧ Kept [] w1 w2 ∧ w2.heap[w1.heap.size]? = some (.cells C 75 (0, 0)) := ⟨_, rfl, alloc_kept _ _, heap_alloc_new _ _⟩
  rw [hw2]
  clear hw2
  obtain ⟨P, hP⟩ : ∃ P, P = w1.heap.size := ⟨_, rfl⟩
  rw [← hP] at hb2 ⊢
  have HP := Hid.mk hP
  clear hP
  have z3 := hv.out 3 (by omega)
  simp [hs] at z3
  have HA : Hid (Arr (C.setIfInBounds 3 (.int .i64 R)) 0 1023 d (2 * d + 1) R a1 a2 a3 A) := Hid.mk (by
    rw [HC.out]
    refine ⟨by simp [hs], ?_, ?_, ?_, ?_, ?_, ?_, ?_, ?_, ?_, ?_, ?_⟩
    all_goals first | (intro j hj; omega) | simp [hs])
  have f3 := frozen_of_row w2 P 3 C 75 hb2
  have c0 : w2.cell? ⟨P, 0, none⟩ = some (.int .i64 1023) := by rw [cell_of_row _ _ _ _ _ _ hb2, HC.out]; simp [hs]
  have c2 : w2.cell? ⟨P, 2, none⟩ = some (.int .i64 (2 * d + 1)) := by rw [cell_of_row _ _ _ _ _ _ hb2, HC.out]; simp [hs]
  have c3 : w2.cell? ⟨P, 3, none⟩ = some (.int .i64 0) := by rw [cell_of_row _ _ _ _ _ _ hb2, HC.out]; simp [hs, z3]
  have HK : Hid (Kept [] w w2) := Hid.mk (hk1.undrew.trans k2)
  have HL : Hid (w.heap.size ≤ P) := Hid.mk (by rw [HP.out]; exact hk1.size)
  go_simp
  go_wp2
  go_region_law (fail)
  all_goals (obtain ⟨w4, hw4, HB4, HK4⟩ : ∃ w4, (w2.setCell ⟨P, 3, none⟩ (.int .i64 R)).drew = w4 ∧ Hid (w4.heap[P]? = some (.cells (C.setIfInBounds 3 (.int .i64 R)) 75 (0, 0))) ∧ Hid (Kept [] w w4) := ⟨_, rfl, Hid.mk (heap_setCell_at (w := w2) hb2), Hid.mk (HK.out.setCell (p := ⟨P, 3, none⟩) (.inr HL.out) _).drew⟩)
  all_goals (rw [hw4]; clear hw4 hb2 f3 c0 c2 c3 q1 q2 q3 q4 q5 q6 q7 q9 z3 hz hne hs hCs HC)
  all_goals
    go_wp2
    go_loopw [48] (fun i wr => ∃ k : Nat, k ≤ 365 ∧ i = .int .i64 (k : Int) ∧ ∃ cs, wr.heap[P]? = some (.cells cs 75 (0, 0)) ∧ Arr cs k 1023 d (2 * d + 1) R a1 a2 a3 A ∧ Kept [] w wr) (fun i _ => 365 - (intOf i).toNat)
    case atStart => exact ⟨0, by omega, rfl, _, HB4.out, HA.out, HK4.out⟩
    case round =>
      obtain ⟨k, hk, rfl, cs, hb, ha, hkw⟩ := hrel
      have HBk := Hid.mk hb
      have HAk := Hid.mk ha
      have HKk := Hid.mk hkw
      by_cases hlt : k < 365
      · have ix : (k : Int) < 365 := by omega
        have r3 : wr.cell? ⟨P, 3, none⟩ = some (.int .i64 R) := by rw [cell_of_row _ _ _ _ _ _ hb]; exact ha.h3
        have HZ : Hid (7 + k * 4 + 3 < cs.size) := Hid.mk (by rw [ha.size]; omega)
        clear hb ha hkw
        go_wp2
        go_region_with (go_at_call 30; refine (U.out _).mono ?_; rintro e w5 ⟨rfl, hk5⟩; have hb5 := Hid.mk (hk5.undrew.heap HBk.out (by simp)); have y0 := cell_some (i := 7 + k * 4) hb5.out (by have := HZ.out; omega); have y1 := cell_some (i := 7 + k * 4 + 1) hb5.out (by have := HZ.out; omega); have y2 := cell_some (i := 7 + k * 4 + 2) hb5.out (by have := HZ.out; omega); have y3 := cell_some (i := 7 + k * 4 + 3) hb5.out HZ.out; have f0 := frozen_of_row w5 P (7 + k * 4) cs 75 hb5.out; have f1 := frozen_of_row w5 P (7 + k * 4 + 1) cs 75 hb5.out; have f2 := frozen_of_row w5 P (7 + k * 4 + 2) cs 75 hb5.out; have f3 := frozen_of_row w5 P (7 + k * 4 + 3) cs 75 hb5.out)
        all_goals (obtain ⟨w6, hw6, HB6, HK6⟩ : ∃ w6, (((w5.setCell ⟨P, 7 + k * 4, none⟩ (.int .i64 A)).setCell ⟨P, 7 + k * 4 + 1, none⟩ (.int .i64 0)).setCell ⟨P, 7 + k * 4 + 2, none⟩ (.int .i64 0)).setCell ⟨P, 7 + k * 4 + 3, none⟩ (.int .i64 1) = w6 ∧ Hid (w6.heap[P]? = some (.cells (st4 cs (7 + k * 4) A) 75 (0, 0))) ∧ Hid (Kept [] w w6) :=
          ⟨_, rfl, Hid.mk (heap_st4 hb5.out), Hid.mk (((((HKk.out.trans hk5.undrew).setCell (p := ⟨P, 7 + k * 4, none⟩) (.inr HL.out) _).setCell (p := ⟨P, 7 + k * 4 + 1, none⟩) (.inr HL.out) _).setCell (p := ⟨P, 7 + k * 4 + 2, none⟩) (.inr HL.out) _).setCell (p := ⟨P, 7 + k * 4 + 3, none⟩) (.inr HL.out) _)⟩)
        all_goals (rw [hw6]; clear hw6 y0 y1 y2 y3 f0 f1 f2 f3; go_wp2; go_roundw)
        case rel => exact ⟨k + 1, by omega, by go_num, _, HB6.out, HAk.out.next hlt, HK6.out⟩
        case measure => simp [intOf]; omega
      · obtain rfl : k = 365 := by omega
        clear hb ha hkw
        go_wp2
        go_ret2
        exact ⟨P, rfl, HM.out _ _ _ HAk.out HBk.out, HL.out, HKk.out⟩

end Go.Proofs.YtahoeodpjdbdkaaDoor

namespace Go.Proofs.YtahoeodpjdbdkaaDoor
open Go.RowKit

set_option maxHeartbeats 8000000 in
set_option maxRecDepth 1000000 in
theorem new4095 (d : Int) (w : World) (d0 : 0 ≤ d) (d1 : d ≤ 63) : Calls Tryd.prog 19 #[.int .i64 12, .int .i64 d] w fun e w' => ∃ P, e = .returned (.tuple #[.pointer (some ⟨P, 0, none⟩), .int .i64 0]) ∧ Md w' P 4095 d (fun _ => sx0 4095 d) ∧ w.heap.size ≤ P ∧ Kept [] w w' := by
  have E := Hid.mk (fun w => edges_any 12 4095 d w (by omega) d0 d1)
  have hs : z67.size = 1467 := by simp
  have hz : ∀ w, (zeroValue 75).run Tryd.prog w = .ok (.agg z67) w := zero67
  have hv : Hid (∀ i, i < 1467 → z67[i]? = some (.int .i64 0)) := Hid.mk (fun i hi => by simp [hi])
  have hne : ¬ z67 = #[] := by intro h; rw [h] at hs; simp at hs
  generalize z67 = Z at *
  have q1 : IntKind.i64.wrap (2 * d) = 2 * d := wrap_i (by omega) (by omega)
  have q2 : IntKind.i64.wrap (2 * d + 1) = 2 * d + 1 := wrap_i (by omega) (by omega)
  have q3 : IntKind.i64.wrap 4096 = 4096 := wrap_i (by omega) (by omega)
  have q4 : IntKind.i64.wrap 4095 = 4095 := wrap_i (by omega) (by omega)
  have q5 : IntKind.i64.wrap (4096 - 1) = 4095 := wrap_i (by omega) (by omega)
  have G : Gd 4095 d := ⟨by omega, d0, d1⟩
  have hR := rg_pos 4095 d G
  have HR : Hid (Hid (rg 4095 d = (4095 + 2 * d) / (2 * d + 1) + 1)) := Hid.mk (Hid.mk rfl)
  have q6 : IntKind.i64.wrap (4095 + 2 * d) = 4095 + 2 * d := wrap_i (by omega) (by omega)
  have q7 : IntKind.i64.wrap ((4095 + 2 * d).tdiv (2 * d + 1)) = rg 4095 d - 1 := by
    rw [Int.tdiv_eq_ediv_of_nonneg (by omega)]
    have := HR.out.out
    rw [show (4095 + 2 * d) / (2 * d + 1) = rg 4095 d - 1 by omega]
    exact wrap_i (by omega) (by omega)
  have q8 : IntKind.i64.wrap (rg 4095 d) = rg 4095 d := wrap_i (by omega) (by omega)
  have q9 : 2 * d + 1 ≠ 0 := by omega
  have HS : Hid (sx0 4095 d = ⟨max ((rg 4095 d + 32) / 64) 2, 0, 0, 1⟩) := Hid.mk rfl
  have U := Hid.mk (fun w => unlearnt_any (rg 4095 d) w (by omega) (by omega))
  have HG := Hid.mk G
  have HM : Hid (∀ w P cs, Arr cs 365 4095 d (2 * d + 1) (rg 4095 d) (e1 4095 d) (e2 4095 d) (e3 4095 d) (max ((rg 4095 d + 32) / 64) 2) → w.heap[P]? = some (.cells cs 75 (0, 0)) → Md w P 4095 d (fun _ => sx0 4095 d)) := Hid.mk (fun w P cs h hb => h.md hb G)
  rw [HS.out] at HM
  generalize rg 4095 d = R at hR q7 q8 HS U HM
  generalize e1 4095 d = a1 at *
  generalize e2 4095 d = a2 at *
  generalize e3 4095 d = a3 at *
  rw [HS.out]
  generalize max ((R + 32) / 64) 2 = A at *
  clear G HR HS
  go_enter Tryd.func19, Tryd.ntmps19
  go_wp2
  go_region_with (go_at_call 29; refine (E.out _).mono ?_; rintro e w1 ⟨rfl, hk1⟩)
  obtain ⟨C, hC⟩ : ∃ C, C = (((((Z.setIfInBounds 0 (.int .i64 4095)).setIfInBounds 1 (.int .i64 d)).setIfInBounds 2 (.int .i64 (2 * d + 1))).setIfInBounds 4 (.int .i64 a1)).setIfInBounds 5 (.int .i64 a2)).setIfInBounds 6 (.int .i64 a3) := ⟨_, rfl⟩
  rw [← hC]
  have hCs : C.size = 1467 := by rw [hC]; simp [hs]
  have HC := Hid.mk hC
  clear hC
  obtain ⟨w2, hw2, k2, hb2⟩ : ∃ w2, w1.alloc (.cells C 75 (0, 0)) = w2 ∧ Kept [] w1 w2 ∧ w2.heap[w1.heap.size]? = some (.cells C 75 (0, 0)) := ⟨_, rfl, alloc_kept _ _, heap_alloc_new _ _⟩
  rw [hw2]
  clear hw2
  obtain ⟨P, hP⟩ : ∃ P, P = w1.heap.size := ⟨_, rfl⟩
  rw [← hP] at hb2 ⊢
  have HP := Hid.mk hP
  clear hP
  have z3 := hv.out 3 (by omega)
  simp [hs] at z3
  have HA : Hid (Arr (C.setIfInBounds 3 (.int .i64 R)) 0 4095 d (2 * d + 1) R a1 a2 a3 A) := Hid.mk (by
    rw [HC.out]
    refine ⟨by simp [hs], ?_, ?_, ?_, ?_, ?_, ?_, ?_, ?_, ?_, ?_, ?_⟩
    all_goals first | (intro j hj; omega) | simp [hs])
  have f3 := frozen_of_row w2 P 3 C 75 hb2
  have c0 : w2.cell? ⟨P, 0, none⟩ = some (.int .i64 4095) := by rw [cell_of_row _ _ _ _ _ _ hb2, HC.out]; simp [hs]
  have c2 : w2.cell? ⟨P, 2, none⟩ = some (.int .i64 (2 * d + 1)) := by rw [cell_of_row _ _ _ _ _ _ hb2, HC.out]; simp [hs]
  have c3 : w2.cell? ⟨P, 3, none⟩ = some (.int .i64 0) := by rw [cell_of_row _ _ _ _ _ _ hb2, HC.out]; simp [hs, z3]
  have HK : Hid (Kept [] w w2) := Hid.mk (hk1.undrew.trans k2)
  have HL : Hid (w.heap.size ≤ P) := Hid.mk (by rw [HP.out]; exact hk1.size)
  go_simp
  go_wp2
  go_region_law (fail)
  all_goals (obtain ⟨w4, hw4, HB4, HK4⟩ : ∃ w4, (w2.setCell ⟨P, 3, none⟩ (.int .i64 R)).drew = w4 ∧ Hid (w4.heap[P]? = some (.cells (C.setIfInBounds 3 (.int .i64 R)) 75 (0, 0))) ∧ Hid (Kept [] w w4) := ⟨_, rfl, Hid.mk (heap_setCell_at (w := w2) hb2), Hid.mk (HK.out.setCell (p := ⟨P, 3, none⟩) (.inr HL.out) _).drew⟩)
  all_goals (rw [hw4]; clear hw4 hb2 f3 c0 c2 c3 q1 q2 q3 q4 q5 q6 q7 q9 z3 hz hne hs hCs HC)
  all_goals
    go_wp2
    go_loopw [48] (fun i wr => ∃ k : Nat, k ≤ 365 ∧ i = .int .i64 (k : Int) ∧ ∃ cs, wr.heap[P]? = some (.cells cs 75 (0, 0)) ∧ Arr cs k 4095 d (2 * d + 1) R a1 a2 a3 A ∧ Kept [] w wr) (fun i _ => 365 - (intOf i).toNat)
    case atStart => exact ⟨0, by omega, rfl, _, HB4.out, HA.out, HK4.out⟩
    case round =>
      obtain ⟨k, hk, rfl, cs, hb, ha, hkw⟩ := hrel
      have HBk := Hid.mk hb
      have HAk := Hid.mk ha
      have HKk := Hid.mk hkw
      by_cases hlt : k < 365
      · have ix : (k : Int) < 365 := by omega
        have r3 : wr.cell? ⟨P, 3, none⟩ = some (.int .i64 R) := by rw [cell_of_row _ _ _ _ _ _ hb]; exact ha.h3
        have HZ : Hid (7 + k * 4 + 3 < cs.size) := Hid.mk (by rw [ha.size]; omega)
        clear hb ha hkw
        go_wp2
        go_region_with (go_at_call 30; refine (U.out _).mono ?_; rintro e w5 ⟨rfl, hk5⟩; have hb5 := Hid.mk (hk5.undrew.heap HBk.out (by simp)); have y0 := cell_some (i := 7 + k * 4) hb5.out (by have := HZ.out; omega); have y1 := cell_some (i := 7 + k * 4 + 1) hb5.out (by have := HZ.out; omega); have y2 := cell_some (i := 7 + k * 4 + 2) hb5.out (by have := HZ.out; omega); have y3 := cell_some (i := 7 + k * 4 + 3) hb5.out HZ.out; have f0 := frozen_of_row w5 P (7 + k * 4) cs 75 hb5.out; have f1 := frozen_of_row w5 P (7 + k * 4 + 1) cs 75 hb5.out; have f2 := frozen_of_row w5 P (7 + k * 4 + 2) cs 75 hb5.out; have f3 := frozen_of_row w5 P (7 + k * 4 + 3) cs 75 hb5.out)
        all_goals (obtain ⟨w6, hw6, HB6, HK6⟩ : ∃ w6, (((w5.setCell ⟨P, 7 + k * 4, none⟩ (.int .i64 A)).setCell ⟨P, 7 + k * 4 + 1, none⟩ (.int .i64 0)).setCell ⟨P, 7 + k * 4 + 2, none⟩ (.int .i64 0)).setCell ⟨P, 7 + k * 4 + 3, none⟩ (.int .i64 1) = w6 ∧ Hid (w6.heap[P]? = some (.cells (st4 cs (7 + k * 4) A) 75 (0, 0))) ∧ Hid (Kept [] w w6) :=
          ⟨_, rfl, Hid.mk (heap_st4 hb5.out), Hid.mk (((((HKk.out.trans hk5.undrew).setCell (p := ⟨P, 7 + k * 4, none⟩) (.inr HL.out) _).setCell (p := ⟨P, 7 + k * 4 + 1, none⟩) (.inr HL.out) _).setCell (p := ⟨P, 7 + k * 4 + 2, none⟩) (.inr HL.out) _).setCell (p := ⟨P, 7 + k * 4 + 3, none⟩) (.inr HL.out) _)⟩)
        all_goals (rw [hw6]; clear hw6 y0 y1 y2 y3 f0 f1 f2 f3; go_wp2; go_roundw)
        case rel => exact ⟨k + 1, by omega, by go_num, _, HB6.out, HAk.out.next hlt, HK6.out⟩
        case measure => simp [intOf]; omega
      · obtain rfl : k = 365 := by omega
        clear hb ha hkw
        go_wp2
        go_ret2
        exact ⟨P, rfl, HM.out _ _ _ HAk.out HBk.out, HL.out, HKk.out⟩

end Go.Proofs.YtahoeodpjdbdkaaDoor

namespace Go.Proofs.YtahoeodpjdbdkaaDoor
open Go.RowKit

theorem Tryd.info41 : (Tryd.prog.info? 41).map (fun i => (i.zero, i.size, i.bytes)) = some (some (.int .u16 0), 1, 2) := by kernel_rfl

/-- Making a list of samples, as an equation. -/
theorem make_smp (r : Nat) (m : Int) (hm : m = (r : Int)) (hr : r ≤ 1000000000) : ∃ mkW : World → World, (∀ w, Sem.run Tryd.prog (Instr.makeSlice 27 (.int .i64 m) (.int .i64 m)) w = .ok (.slice (some ⟨w.heap.size, 0, none⟩) r r) (mkW w)) ∧ ∀ w, (mkW w).heap[w.heap.size]? = some (.cells (List.replicate r (.int .u16 0)).toArray 41 (0, 0)) ∧ Kept [] w (mkW w) := by
  subst hm
  obtain ⟨j0, gi, gz0, gz1, gz2⟩ := info_parts Tryd.info41
  have h : ∀ w : World, ∃ w', Sem.run Tryd.prog (Instr.makeSlice 27 (.int .i64 (r : Int)) (.int .i64 (r : Int))) w = .ok (.slice (some ⟨w.heap.size, 0, none⟩) r r) w' ∧ w'.heap[w.heap.size]? = some (.cells (List.replicate r (.int .u16 0)).toArray 41 (0, 0)) ∧ Kept [] w w' := fun w => by
    obtain ⟨w', hrun, r1, r2⟩ := run_make_full (P := Tryd.prog) w 0 27 41 j0 (.int .u16 0) 1 Tryd.underlying27 gi gz0 gz1 .i64 .i64 r (by rw [gz2]; omega) (by unfold maxLen; omega) (by omega)
    have hr3 := row_heap r1 rfl
    rw [show (madeCells (Value.int .u16 0).cells (r * 1)).toList = List.replicate r (.int .u16 0) by rw [Nat.mul_one]; exact toList_madeCells_one _ _] at hr3
    exact ⟨w', hrun, hr3, (Kept.of_grown r2).mono (by simp)⟩
  obtain ⟨mkW, hm⟩ := Classical.axiomOfChoice h
  exact ⟨mkW, fun w => (hm w).1, fun w => (hm w).2⟩

theorem six_new (w : World) (l : List Value) (t : Nat) : ∃ w1, w.alloc (.cells l.toArray t (0, 0)) = w1 ∧ Kept [] w w1 ∧ w1.heap[w.heap.size]? = some (.cells l.toArray t (0, 0)) :=
  ⟨_, rfl, alloc_kept _ _, heap_alloc_new _ _⟩

theorem six_cells {w : World} {Q t : Nat} {a b c d e f : Value} (h : w.heap[Q]? = some (.cells [a, b, c, d, e, f].toArray t (0, 0))) : (w.cell? ⟨Q, 0, none⟩ = some a ∧ w.cell? ⟨Q, 1, none⟩ = some b ∧ w.cell? ⟨Q, 2, none⟩ = some c ∧ w.cell? ⟨Q, 3, none⟩ = some d ∧ w.cell? ⟨Q, 4, none⟩ = some e ∧ w.cell? ⟨Q, 5, none⟩ = some f) ∧ (w.frozen? ⟨Q, 0, none⟩ = false ∧ w.frozen? ⟨Q, 1, none⟩ = false ∧ w.frozen? ⟨Q, 2, none⟩ = false ∧ w.frozen? ⟨Q, 3, none⟩ = false ∧ w.frozen? ⟨Q, 4, none⟩ = false ∧ w.frozen? ⟨Q, 5, none⟩ = false) := by
  refine ⟨⟨?_, ?_, ?_, ?_, ?_, ?_⟩, ⟨?_, ?_, ?_, ?_, ?_, ?_⟩⟩ <;> simp [World.cell?, World.frozen?, h]

/-- The zero of a walk lies at Q. -/
abbrev z52 : List Value := [.int .i64 0, .int .i64 0, .pointer none, .pointer none, .slice none 0 0, .int .i64 0]

theorem nw_end {w wX : World} {Q W n X G P : Nat} {D : Int} (hk : Kept [] w wX) (hQl : w.heap.size ≤ Q) (hQ : wX.heap[Q]? = some (.cells z52.toArray 52 (0, 0))) (hX : CoderAt wX X 0) (hG : wX.heap[G]? = some (.cells (List.replicate n (.int .u16 0)).toArray 41 (0, 0))) (a : Value) (ha : a = .int .i64 (W : Int)) (b : Value) (hb : b = .int .i64 D) :
    ∃ wY, wY = ((((((wX.setCell ⟨Q, 0, none⟩ a).setCell ⟨Q, 1, none⟩ b).setCell ⟨Q, 2, none⟩ (.pointer (some ⟨P, 0, none⟩))).setCell ⟨Q, 3, none⟩ (.pointer (some ⟨X, 0, none⟩))).setCell ⟨Q, 4, none⟩ (.slice (some ⟨G, 0, none⟩) n n)).setCell ⟨Q, 5, none⟩ (.int .i64 0)) ∧
      wY.heap[Q]? = some (.cells (wc W D P X G n 0 []).toArray 52 (0, 0)) ∧ CoderAt wY X 0 ∧ wY.heap[G]? = some (.cells (List.replicate n (.int .u16 0)).toArray 41 (0, 0)) ∧ Kept [] w wY := by
  subst ha hb
  have k : Kept [Q] wX ((((((wX.setCell ⟨Q, 0, none⟩ (.int .i64 (W : Int))).setCell ⟨Q, 1, none⟩ (.int .i64 D)).setCell ⟨Q, 2, none⟩ (.pointer (some ⟨P, 0, none⟩))).setCell ⟨Q, 3, none⟩ (.pointer (some ⟨X, 0, none⟩))).setCell ⟨Q, 4, none⟩ (.slice (some ⟨G, 0, none⟩) n n)).setCell ⟨Q, 5, none⟩ (.int .i64 0)) :=
    ((((((Kept.refl [Q] wX).setCell (p := ⟨Q, 0, none⟩) (by simp) _).setCell (p := ⟨Q, 1, none⟩) (by simp) _).setCell (p := ⟨Q, 2, none⟩) (by simp) _).setCell (p := ⟨Q, 3, none⟩) (by simp) _).setCell (p := ⟨Q, 4, none⟩) (by simp) _).setCell (p := ⟨Q, 5, none⟩) (by simp) _
  refine ⟨_, rfl, ?_, hX.kept k (by simp; exact ne_ty hX.1 hQ (by decide)), k.heap hG (by simp; exact ne_ty hG hQ (by decide)), hk.step k (by simp; exact hQl)⟩
  rw [heap_setCell_at (heap_setCell_at (heap_setCell_at (heap_setCell_at (heap_setCell_at (heap_setCell_at hQ)))))]
  simp [wc, z52]

set_option maxHeartbeats 4000000 in
set_option maxRecDepth 1000000 in
theorem newWalk_any (P W h n : Nat) (D : Int) (w : World) (h1 : W ≤ 4096) (h2 : h ≤ 4096) (hn : W * h = n) :
    Calls Tryd.prog 21 #[.pointer (some ⟨P, 0, none⟩), .int .i64 (W : Int), .int .i64 (h : Int), .int .i64 D] w fun e w' => ∃ X G, e = .returned (.agg (wc W D P X G n 0 []).toArray) ∧ CoderAt w' X 0 ∧ w'.heap[G]? = some (.cells (List.replicate n (.int .u16 0)).toArray 41 (0, 0)) ∧ w.heap.size ≤ X ∧ w.heap.size ≤ G ∧ Kept [] w w' := by
  have hb : W * h ≤ 4096 * 4096 := Nat.mul_le_mul h1 h2
  have hcast : (W : Int) * h = (n : Int) := by rw [← hn]; simp
  have hwr : IntKind.i64.wrap ((W : Int) * h) = (n : Int) := by rw [hcast]; exact wrap_i (by omega) (by omega)
  obtain ⟨mkW, hmk, hmw⟩ := make_smp n (n : Int) rfl (by omega)
  have HMW := Hid.mk hmw
  have hmc : ∀ (u : World) (p o : Nat), p < u.heap.size → (mkW u).cell? ⟨p, o, none⟩ = u.cell? ⟨p, o, none⟩ := fun u p o hp => World.cell?_of_block (a := ⟨p, o, none⟩) ((hmw u).2.block p hp (by simp))
  have hmf : ∀ (u : World) (p o : Nat), p < u.heap.size → (mkW u).frozen? ⟨p, o, none⟩ = u.frozen? ⟨p, o, none⟩ := fun u p o hp => by
    have := (hmw u).2.block p hp (by simp)
    unfold World.frozen?
    simp only [this]
  obtain ⟨w1, hw1, k1, b1⟩ := six_new w z52 52
  obtain ⟨Q, hQ⟩ : ∃ Q, w.heap.size = Q := ⟨_, rfl⟩
  rw [hQ] at b1
  have C := Hid.mk (fun W' (hk : Kept [] w1 W') => (newRuns_any W').mono (R' := fun e w' => ∃ X : Nat, e = .returned (.pointer (some ⟨X, 0, none⟩)) ∧ Hid (X = W'.heap.size ∧ CoderAt w' X 0 ∧ Kept [] W' w' ∧ w'.heap[Q]? = some (.cells z52.toArray 52 (0, 0))) ∧ Q < w'.heap.size ∧ (w'.cell? ⟨Q, 0, none⟩ = some (.int .i64 0) ∧ w'.cell? ⟨Q, 1, none⟩ = some (.int .i64 0) ∧ w'.cell? ⟨Q, 2, none⟩ = some (.pointer none) ∧ w'.cell? ⟨Q, 3, none⟩ = some (.pointer none) ∧ w'.cell? ⟨Q, 4, none⟩ = some (.slice none 0 0) ∧ w'.cell? ⟨Q, 5, none⟩ = some (.int .i64 0)) ∧ (w'.frozen? ⟨Q, 0, none⟩ = false ∧ w'.frozen? ⟨Q, 1, none⟩ = false ∧ w'.frozen? ⟨Q, 2, none⟩ = false ∧ w'.frozen? ⟨Q, 3, none⟩ = false ∧ w'.frozen? ⟨Q, 4, none⟩ = false ∧ w'.frozen? ⟨Q, 5, none⟩ = false)) (by
    rintro e w' ⟨rfl, rfl⟩
    have hb' := (hk.trans (alloc_kept W' (.cells #[.int .i64 0] 92))).heap b1 (by simp)
    obtain ⟨x, y⟩ := six_cells hb'
    exact ⟨_, rfl, Hid.mk ⟨rfl, newRuns_at W', alloc_kept _ _, hb'⟩, lt_of_block hb', x, y⟩))
  have KM := Hid.mk ((Kept.refl [] w1).drew.trans (hmw w1.drew).2)
  have K1 := Hid.mk k1
  have B1 := Hid.mk b1
  have hlt := lt_of_block b1
  clear hmw b1 k1 hb hn hcast
  go_enter Tryd.func21, Tryd.ntmps21
  go_wp2
  go_region_with (first | (go_at_call 32; refine (C.out _ (by first | with_reducible exact (Kept.refl _ _).drew | exact KM.out)).mono ?_; rintro e w2 ⟨X, rfl, R2, hl2, ⟨y0, y1, y2, y3, y4, y5⟩, ⟨f0, f1, f2, f3, f4, f5⟩⟩))
  all_goals
    first
      | (obtain ⟨e1, hX, k2, b2⟩ := R2.out
         obtain ⟨g1, g2⟩ := HMW.out w1.drew
         have KX : Kept [] w w2 := K1.out.trans (KM.out.trans k2)
         have hl1 : w.heap.size ≤ w1.heap.size := K1.out.size
         have hX2 : w.heap.size ≤ X := by rw [e1]; exact (K1.out.trans KM.out).size
         obtain ⟨wY, eY, cY, xY, gY, kY⟩ := nw_end (Q := Q) (W := W) (n := n) (X := X) (G := w1.heap.size) (P := P) (D := D) KX (by omega) b2 hX (k2.heap g1 (by simp)) _ rfl _ rfl
         rw [← eY]
         clear eY y0 y1 y2 y3 y4 y5 f0 f1 f2 f3 f4 f5 C hmc hmf hmk
         go_wp2
         obtain ⟨⟨y0, y1, y2, y3, y4, y5⟩, -⟩ := six_cells cY
         refine bodyPost_ret (v := .agg (wc W D P X w1.heap.size n 0 []).toArray) (by simp [results, Tryd.results21, go_sem, y0, y1, y2, y3, y4, y5]) rfl ⟨X, w1.heap.size, rfl, xY, gY, hX2, hl1, kY⟩)
      | (obtain ⟨e1, hX, k2, b2⟩ := R2.out
         obtain ⟨g1, g2⟩ := HMW.out w2
         have KX : Kept [] w (mkW w2) := (K1.out.trans (k2.undrew)).trans g2
         have hl2 : w.heap.size ≤ w2.heap.size := (K1.out.trans (k2.undrew)).size
         have hX2 : w.heap.size ≤ X := by rw [e1]; exact K1.out.size
         obtain ⟨wY, eY, cY, xY, gY, kY⟩ := nw_end (Q := Q) (W := W) (n := n) (X := X) (G := w2.heap.size) (P := P) (D := D) KX (by omega) (g2.heap b2 (by simp)) (hX.kept g2 (by simp)) g1 _ rfl _ rfl
         rw [← eY]
         clear eY y0 y1 y2 y3 y4 y5 f0 f1 f2 f3 f4 f5 C hmc hmf hmk
         go_wp2
         obtain ⟨⟨y0, y1, y2, y3, y4, y5⟩, -⟩ := six_cells cY
         refine bodyPost_ret (v := .agg (wc W D P X w2.heap.size n 0 []).toArray) (by simp [results, Tryd.results21, go_sem, y0, y1, y2, y3, y4, y5]) rfl ⟨X, w2.heap.size, rfl, xY, gY, hX2, hl2, kY⟩)
end Go.Proofs.YtahoeodpjdbdkaaDoor

namespace Go.Proofs.YtahoeodpjdbdkaaDoor
open Go.RowKit

set_option maxHeartbeats 4000000 in
set_option maxRecDepth 1000000 in
theorem newCoder_any (sb so n sc P X G W : Nat) (d D : Int) (w : World) :
    Calls Tryd.prog 25 #[.slice (some ⟨sb, so, none⟩) n sc, .int .i64 d, .agg (wc W D P X G n 0 []).toArray] w fun e w' => ∃ B O, e = .returned (.pointer (some ⟨B, 0, none⟩)) ∧ w'.heap[B]? = some (.cells (wc W D P X G n 0 (cext sb so n sc d O)).toArray 65 (0, 0)) ∧ WriterAt w' O (.slice none 0 0) 0 0 ∧ w.heap.size ≤ B ∧ w.heap.size ≤ O ∧ Kept [] w w' := by
  obtain ⟨w1, hw1, k1, b1⟩ := six_new w (wc W D P X G n 0 []) 52
  obtain ⟨Q, hQ⟩ : ∃ Q, w.heap.size = Q := ⟨_, rfl⟩
  rw [hQ] at b1
  obtain ⟨⟨y0, y1, y2, y3, y4, y5⟩, -⟩ := six_cells b1
  have C := Hid.mk (fun W' (hk : Kept [] w1 W') => (newWriter_any W').mono (R' := fun e w' => ∃ O : Nat, e = .returned (.pointer (some ⟨O, 0, none⟩)) ∧ Hid (O = W'.heap.size ∧ WriterAt w' O (.slice none 0 0) 0 0 ∧ Kept [] W' w') ∧ w'.cell? ⟨Q, 0, none⟩ = some (.int .i64 (W : Int)) ∧ w'.cell? ⟨Q, 1, none⟩ = some (.int .i64 D) ∧ w'.cell? ⟨Q, 2, none⟩ = some (.pointer (some ⟨P, 0, none⟩)) ∧ w'.cell? ⟨Q, 3, none⟩ = some (.pointer (some ⟨X, 0, none⟩)) ∧ w'.cell? ⟨Q, 4, none⟩ = some (.slice (some ⟨G, 0, none⟩) n n) ∧ w'.cell? ⟨Q, 5, none⟩ = some (.int .i64 0)) (by
    rintro e w' ⟨rfl, rfl⟩
    have hb' := (hk.trans (alloc_kept W' (.cells #[.slice none 0 0, .int .u64 0, .int .i64 0] 107))).heap b1 (by simp)
    obtain ⟨x, y⟩ := six_cells hb'
    exact ⟨_, rfl, Hid.mk ⟨rfl, newWriter_at W', alloc_kept _ _⟩, x⟩))
  have K1 := Hid.mk k1
  have hlt := lt_of_block b1
  replace hw1 : w.alloc (.cells #[.int .i64 (W : Int), .int .i64 D, .pointer (some ⟨P, 0, none⟩), .pointer (some ⟨X, 0, none⟩), .slice (some ⟨G, 0, none⟩) n n, .int .i64 0] 52 (0, 0)) = w1 := hw1
  clear b1 k1
  go_enter Tryd.func25, Tryd.ntmps25
  go_wp2
  go_region_with (first | (go_at_call 42; refine (C.out _ (by with_reducible exact (Kept.refl _ _).drew)).mono ?_; rintro e w2 ⟨O, rfl, R2, t0, t1, t2, t3, t4, t5⟩))
  all_goals
    clear C t0 t1 t2 t3 t4 t5 y0 y1 y2 y3 y4 y5
    go_wp2
    go_ret
    obtain ⟨e1, hX, k2⟩ := R2.out
    have k3 := alloc_kept w2 (.cells (wc W D P X G n 0 (cext sb so n sc d O)).toArray 65)
    refine ⟨w2.heap.size, O, rfl, heap_alloc_new w2 (.cells (wc W D P X G n 0 (cext sb so n sc d O)).toArray 65), hX.kept k3 (by simp) (by simp), (K1.out.trans k2.undrew).size, by rw [e1]; exact K1.out.size, (K1.out.trans k2.undrew).trans k3⟩

/-- How a walk begins. -/
def wk0 (T d : Int) : Wk := ⟨fun _ => sx0 T d, 0, fun _ => 0, 0⟩
theorem wk0_in {T d : Int} (G : Gd T d) : (wk0 T d).In T := ⟨fun _ => sx0_fit T d G, by show 0 ≤ 22; omega, fun i hi => by have : i < 0 := hi; omega⟩

/-- What a coder has laid down: the rounds are j. -/
structure Enc (T d : Int) (W n : Nat) (f : Nat → Int) (j : Nat) : Prop where
  all : ∀ i, i < j → (stp T d W (cE T d W f) (wk0 T d) i).t < n
  fin : (stp T d W (cE T d W f) (wk0 T d) j).t = n

theorem put8 (O : Nat) (w : World) (hw : WriterAt w O (.slice none 0 0) 0 0) :
    Calls Tryd.prog 43 #[.pointer (some ⟨O, 0, none⟩), .int .u32 1, .int .i64 8] w fun e w' => e = .returned (.int .i64 0) ∧ ∃ V', WriterAt w' O V' 1 8 ∧ Kept [O] w w' ∧ Lies w (.slice none 0 0) V' := by
  refine (put_any O (.slice none 0 0) 0 0 1 8 w hw (by omega) (by omega) (by omega) (by decide) (by omega)).mono ?_
  rintro e w' ⟨rfl, V', h1, h2, h3⟩
  exact ⟨rfl, V', h1, h2, h3⟩

set_option maxHeartbeats 4000000 in
set_option maxRecDepth 1000000 in
theorem write_any (w0 : World) (B P X G O : Nat) (T d D : Int) (W H n sb so sc : Nat) (f : Nat → Int) (w : World) (hG : Gd T d) (hD : Dp D T) (hn : n ≤ 4194304) (hW : 1 ≤ W) (hW2 : W ≤ 4096) (hWH : n = W * H) (hf : ∀ i, 0 ≤ f i ∧ f i ≤ T)
    (h : Cm w0 B P X G O T d D W n sb so sc f w (wk0 T d) (0, 0)) (hwr : WriterAt w O (.slice none 0 0) 0 0) :
    Calls Tryd.prog 26 #[.pointer (some ⟨B, 0, none⟩)] w fun e w' => ∃ j g, Enc T d W n f j ∧ Cm w0 B P X G O T d D W n sb so sc f w' (stp T d W (cE T d W f) (wk0 T d) j) (wrt T d W (cE T d W f) (wk0 T d) j) ∧ w0.heap.size ≤ g ∧
      e = .returned (.slice (some ⟨g, 0, none⟩) (((wrt T d W (cE T d W f) (wk0 T d) j).2 + 7) / 8) (((wrt T d W (cE T d W f) (wk0 T d) j).2 + 7) / 8)) ∧
      w'.heap[g]? = some (.cells ((big (((wrt T d W (cE T d W f) (wk0 T d) j).2 + 7) / 8) ((wrt T d W (cE T d W f) (wk0 T d) j).1 * 2 ^ (8 * (((wrt T d W (cE T d W f) (wk0 T d) j).2 + 7) / 8) - (wrt T d W (cE T d W f) (wk0 T d) j).2))).map byt).toArray 5 (0, 0)) := by
  have C0 := Hid.mk (put8 O w hwr)
  obtain ⟨e6, e7, e8⟩ := ext_cells h.wm
  have HC := Hid.mk h
  have hmf : ∀ (fn : Fn) (first cap : Array Value) (w : World), (Instr.makeFunc fn first cap).run Tryd.prog w = .ok (.func fn first cap) w := fun _ _ _ _ => rfl
  clear h
  go_enter Tryd.func26, Tryd.ntmps26
  go_wp2_with (go_at_call 43; refine C0.out.mono ?_; rintro e w1 ⟨rfl, V1, hw1, k1, l1⟩)
  have h1 : Cm w0 B P X G O T d D W n sb so sc f w1 (wk0 T d) (1, 8) := by
    have h := HC.out
    obtain ⟨cs, hr, hl, hc⟩ := h.wm.row
    obtain ⟨ps, hp, _⟩ := h.wm.md.blk
    have hlo := h.lo
    refine ⟨h.wm.keep k1 ⟨?_, ?_, ?_, ?_⟩, ⟨V1, hw1, ?_⟩, h.keep.step k1 (fun y hy => by right; simp at hy; omega), h.smp, h.tab, h.lo⟩
    · simp; exact ne_ty h.wm.blk hwr.1 (by decide)
    · simp; exact ne_ty hp hwr.1 (by decide)
    · simp; exact ne_ty h.wm.co.1 hwr.1 (by decide)
    · simp; exact ne_ty hr hwr.1 (by decide)
    · intro g hg
      rcases l1 with h' | ⟨g', hg', hl'⟩
      · rw [h'] at hg; simp [Value.ownBlock] at hg
      · rw [hg'] at hg; simp at hg; subst hg
        have := h.keep.size; omega
  have HC1 := Hid.mk h1
  clear hw1 k1 l1 h1 e6 e7 e8 C0 hwr
  refine (through44 B P X G 65 T d D W H n (cext sb so n sc d O) (cdr T d W f) (Cm w0 B P X G O T d D W n sb so sc f) (fun _ _ => False) hD hG hn hW hW2 hWH (wk0 T d) (1, 8) (chnd w0 B P X G O T d D W H n sb so sc f hG hn hW hW2 hWH hf (wk0 T d)) w1 HC1.out (wk0_in hG) (by show 0 ≤ n; omega)).mono ?_
  rintro e w2 (⟨rfl, s2, x2, hR, ht, -, h2⟩ | ⟨pc, s2, x2, -, -, -, -, hF⟩)
  · obtain ⟨j, rfl, rfl, hj⟩ := rch_cdr hR
    have hl := wrt_len hG (cE T d W f) (wk0 T d) hW j
    rw [ht] at hl
    obtain ⟨e6, e7, e8⟩ := ext_cells h2.wm
    obtain ⟨V, hwr, hV⟩ := h2.wr
    have C3 := Hid.mk (bytes_any O V _ _ w2 hwr (by have : (2 : Nat) ^ 50 = 1125899906842624 := by decide
                                                    omega))
    have HE : Hid (Enc T d W n f j) := Hid.mk ⟨hj, ht⟩
    have H2 := Hid.mk h2
    clear hR ht h2 hj hl hwr hV hmf HC HC1
    obtain ⟨xx, hxx⟩ : ∃ xx, wrt T d W (cE T d W f) (wk0 T d) j = xx := ⟨_, rfl⟩
    obtain ⟨ss, hss⟩ : ∃ ss, stp T d W (cE T d W f) (wk0 T d) j = ss := ⟨_, rfl⟩
    rw [hxx] at C3 H2
    rw [hss] at H2
    have Hx := Hid.mk hxx
    have Hs := Hid.mk hss
    clear hxx hss
    go_wp2_with (go_at_call 46; refine C3.out.mono ?_; rintro e w3 ⟨rfl, hb, k3⟩)
    go_ret
    refine ⟨j, w2.heap.size, HE.out, ?_, H2.out.keep.size, ?_, ?_⟩
    · rw [Hx.out, Hs.out]; exact H2.out.kp k3
    · rw [Hx.out]; rfl
    · rw [Hx.out]; exact hb
  · exact hF.elim
end Go.Proofs.YtahoeodpjdbdkaaDoor
