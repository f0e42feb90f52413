import Derived.Test.YtahoeodpjdbdkabDoorSj
import Derived.Test.YtahoeodpjdbdkabDoormB4Z
namespace Go.Proofs.YtahoeodpjdbdkabDoor
open Go.RowKit

theorem Tryd.info39 : (Tryd.prog.info? 39).map (fun i => (i.zero, i.size, i.bytes)) = some (some (.int .u16 0), 1, 2) := by kernel_rfl

/-- Making a list of samples, as an equation. -/
theorem make_smp (r : Nat) (m : Int) (hm : m = (r : Int)) (hr : r ≤ 1000000000) : ∃ mkW : World → World, (∀ w, Sem.run Tryd.prog (Instr.makeSlice 22 (.int .i64 m) (.int .i64 m)) w = .ok (.slice (some ⟨w.heap.size, 0, none⟩) r r) (mkW w)) ∧ ∀ w, (mkW w).heap[w.heap.size]? = some (.cells (List.replicate r (.int .u16 0)).toArray 39 (0, 0)) ∧ Kept [] w (mkW w) := by
  subst hm
  obtain ⟨j0, gi, gz0, gz1, gz2⟩ := info_parts Tryd.info39
  have h : ∀ w : World, ∃ w', Sem.run Tryd.prog (Instr.makeSlice 22 (.int .i64 (r : Int)) (.int .i64 (r : Int))) w = .ok (.slice (some ⟨w.heap.size, 0, none⟩) r r) w' ∧ w'.heap[w.heap.size]? = some (.cells (List.replicate r (.int .u16 0)).toArray 39 (0, 0)) ∧ Kept [] w w' := fun w => by
    obtain ⟨w', hrun, r1, r2⟩ := run_make_full (P := Tryd.prog) w 0 22 39 j0 (.int .u16 0) 1 Tryd.underlying22 gi gz0 gz1 .i64 .i64 r (by rw [gz2]; omega) (by unfold maxLen; omega) (by omega)
    have hr3 := row_heap r1 rfl
    rw [show (madeCells (Value.int .u16 0).cells (r * 1)).toList = List.replicate r (.int .u16 0) by rw [Nat.mul_one]; exact toList_madeCells_one _ _] at hr3
    exact ⟨w', hrun, hr3, (Kept.of_grown r2).mono (by simp)⟩
  obtain ⟨mkW, hm⟩ := Classical.axiomOfChoice h
  exact ⟨mkW, fun w => (hm w).1, fun w => (hm w).2⟩

theorem six_new (w : World) (l : List Value) (t : Nat) : ∃ w1, w.alloc (.cells l.toArray t (0, 0)) = w1 ∧ Kept [] w w1 ∧ w1.heap[w.heap.size]? = some (.cells l.toArray t (0, 0)) :=
  ⟨_, rfl, alloc_kept _ _, heap_alloc_new _ _⟩

theorem six_cells {w : World} {Q t : Nat} {a b c d e f : Value} (h : w.heap[Q]? = some (.cells [a, b, c, d, e, f].toArray t (0, 0))) : (w.cell? ⟨Q, 0, none⟩ = some a ∧ w.cell? ⟨Q, 1, none⟩ = some b ∧ w.cell? ⟨Q, 2, none⟩ = some c ∧ w.cell? ⟨Q, 3, none⟩ = some d ∧ w.cell? ⟨Q, 4, none⟩ = some e ∧ w.cell? ⟨Q, 5, none⟩ = some f) ∧ (w.frozen? ⟨Q, 0, none⟩ = false ∧ w.frozen? ⟨Q, 1, none⟩ = false ∧ w.frozen? ⟨Q, 2, none⟩ = false ∧ w.frozen? ⟨Q, 3, none⟩ = false ∧ w.frozen? ⟨Q, 4, none⟩ = false ∧ w.frozen? ⟨Q, 5, none⟩ = false) := by
  refine ⟨⟨?_, ?_, ?_, ?_, ?_, ?_⟩, ⟨?_, ?_, ?_, ?_, ?_, ?_⟩⟩ <;> simp [World.cell?, World.frozen?, h]

/-- The zero of a walk lies at Q. -/
abbrev z52 : List Value := [.int .i64 0, .int .i64 0, .pointer none, .pointer none, .slice none 0 0, .int .i64 0]

theorem nw_end {w wX : World} {Q W n X G P : Nat} {D : Int} (hk : Kept [] w wX) (hQl : w.heap.size ≤ Q) (hQ : wX.heap[Q]? = some (.cells z52.toArray 56 (0, 0))) (hX : CoderAt wX X 0) (hG : wX.heap[G]? = some (.cells (List.replicate n (.int .u16 0)).toArray 39 (0, 0))) (a : Value) (ha : a = .int .i64 (W : Int)) (b : Value) (hb : b = .int .i64 D) :
    ∃ wY, wY = ((((((wX.setCell ⟨Q, 0, none⟩ a).setCell ⟨Q, 1, none⟩ b).setCell ⟨Q, 2, none⟩ (.pointer (some ⟨P, 0, none⟩))).setCell ⟨Q, 3, none⟩ (.pointer (some ⟨X, 0, none⟩))).setCell ⟨Q, 4, none⟩ (.slice (some ⟨G, 0, none⟩) n n)).setCell ⟨Q, 5, none⟩ (.int .i64 0)) ∧
      wY.heap[Q]? = some (.cells (wc W D P X G n 0 []).toArray 56 (0, 0)) ∧ CoderAt wY X 0 ∧ wY.heap[G]? = some (.cells (List.replicate n (.int .u16 0)).toArray 39 (0, 0)) ∧ Kept [] w wY := by
  subst ha hb
  have k : Kept [Q] wX ((((((wX.setCell ⟨Q, 0, none⟩ (.int .i64 (W : Int))).setCell ⟨Q, 1, none⟩ (.int .i64 D)).setCell ⟨Q, 2, none⟩ (.pointer (some ⟨P, 0, none⟩))).setCell ⟨Q, 3, none⟩ (.pointer (some ⟨X, 0, none⟩))).setCell ⟨Q, 4, none⟩ (.slice (some ⟨G, 0, none⟩) n n)).setCell ⟨Q, 5, none⟩ (.int .i64 0)) :=
    ((((((Kept.refl [Q] wX).setCell (p := ⟨Q, 0, none⟩) (by simp) _).setCell (p := ⟨Q, 1, none⟩) (by simp) _).setCell (p := ⟨Q, 2, none⟩) (by simp) _).setCell (p := ⟨Q, 3, none⟩) (by simp) _).setCell (p := ⟨Q, 4, none⟩) (by simp) _).setCell (p := ⟨Q, 5, none⟩) (by simp) _
  refine ⟨_, rfl, ?_, hX.kept k (by simp; exact ne_ty hX.1 hQ (by decide)), k.heap hG (by simp; exact ne_ty hG hQ (by decide)), hk.step k (by simp; exact hQl)⟩
  rw [heap_setCell_at (heap_setCell_at (heap_setCell_at (heap_setCell_at (heap_setCell_at (heap_setCell_at hQ)))))]
  simp [wc, z52]

set_option maxHeartbeats 4000000 in
set_option maxRecDepth 1000000 in
theorem newWalk_any (P W h n : Nat) (D : Int) (w : World) (h1 : W ≤ 4096) (h2 : h ≤ 4096) (hn : W * h = n) :
    Calls Tryd.prog 19 #[.pointer (some ⟨P, 0, none⟩), .int .i64 (W : Int), .int .i64 (h : Int), .int .i64 D] w fun e w' => ∃ X G, e = .returned (.agg (wc W D P X G n 0 []).toArray) ∧ CoderAt w' X 0 ∧ w'.heap[G]? = some (.cells (List.replicate n (.int .u16 0)).toArray 39 (0, 0)) ∧ w.heap.size ≤ X ∧ w.heap.size ≤ G ∧ Kept [] w w' := by
  have hb : W * h ≤ 4096 * 4096 := Nat.mul_le_mul h1 h2
  have hcast : (W : Int) * h = (n : Int) := by rw [← hn]; simp
  have hwr : IntKind.i64.wrap ((W : Int) * h) = (n : Int) := by rw [hcast]; exact wrap_i (by omega) (by omega)
  obtain ⟨mkW, hmk, hmw⟩ := make_smp n (n : Int) rfl (by omega)
  have HMW := Hid.mk hmw
  have hmc : ∀ (u : World) (p o : Nat), p < u.heap.size → (mkW u).cell? ⟨p, o, none⟩ = u.cell? ⟨p, o, none⟩ := fun u p o hp => World.cell?_of_block (a := ⟨p, o, none⟩) ((hmw u).2.block p hp (by simp))
  have hmf : ∀ (u : World) (p o : Nat), p < u.heap.size → (mkW u).frozen? ⟨p, o, none⟩ = u.frozen? ⟨p, o, none⟩ := fun u p o hp => by
    have := (hmw u).2.block p hp (by simp)
    unfold World.frozen?
    simp only [this]
  obtain ⟨w1, hw1, k1, b1⟩ := six_new w z52 56
  obtain ⟨Q, hQ⟩ : ∃ Q, w.heap.size = Q := ⟨_, rfl⟩
  rw [hQ] at b1
  have C := Hid.mk (fun W' (hk : Kept [] w1 W') => (newRuns_any W').mono (R' := fun e w' => ∃ X : Nat, e = .returned (.pointer (some ⟨X, 0, none⟩)) ∧ Hid (X = W'.heap.size ∧ CoderAt w' X 0 ∧ Kept [] W' w' ∧ w'.heap[Q]? = some (.cells z52.toArray 56 (0, 0))) ∧ Q < w'.heap.size ∧ (w'.cell? ⟨Q, 0, none⟩ = some (.int .i64 0) ∧ w'.cell? ⟨Q, 1, none⟩ = some (.int .i64 0) ∧ w'.cell? ⟨Q, 2, none⟩ = some (.pointer none) ∧ w'.cell? ⟨Q, 3, none⟩ = some (.pointer none) ∧ w'.cell? ⟨Q, 4, none⟩ = some (.slice none 0 0) ∧ w'.cell? ⟨Q, 5, none⟩ = some (.int .i64 0)) ∧ (w'.frozen? ⟨Q, 0, none⟩ = false ∧ w'.frozen? ⟨Q, 1, none⟩ = false ∧ w'.frozen? ⟨Q, 2, none⟩ = false ∧ w'.frozen? ⟨Q, 3, none⟩ = false ∧ w'.frozen? ⟨Q, 4, none⟩ = false ∧ w'.frozen? ⟨Q, 5, none⟩ = false)) (by
    rintro e w' ⟨rfl, rfl⟩
    have hb' := (hk.trans (alloc_kept W' (.cells #[.int .i64 0] 97))).heap b1 (by simp)
    obtain ⟨x, y⟩ := six_cells hb'
    exact ⟨_, rfl, Hid.mk ⟨rfl, newRuns_at W', alloc_kept _ _, hb'⟩, lt_of_block hb', x, y⟩))
  have KM := Hid.mk ((Kept.refl [] w1).drew.trans (hmw w1.drew).2)
  have K1 := Hid.mk k1
  have B1 := Hid.mk b1
  have hlt := lt_of_block b1
  clear hmw b1 k1 hb hn hcast
  go_enter Tryd.func19, Tryd.ntmps19
  go_wp2
  go_region_with (first | (go_at_call 31; refine (C.out _ (by first | with_reducible exact (Kept.refl _ _).drew | exact KM.out)).mono ?_; rintro e w2 ⟨X, rfl, R2, hl2, ⟨y0, y1, y2, y3, y4, y5⟩, ⟨f0, f1, f2, f3, f4, f5⟩⟩))
  all_goals
    first
      | (obtain ⟨e1, hX, k2, b2⟩ := R2.out
         obtain ⟨g1, g2⟩ := HMW.out w1.drew
         have KX : Kept [] w w2 := K1.out.trans (KM.out.trans k2)
         have hl1 : w.heap.size ≤ w1.heap.size := K1.out.size
         have hX2 : w.heap.size ≤ X := by rw [e1]; exact (K1.out.trans KM.out).size
         obtain ⟨wY, eY, cY, xY, gY, kY⟩ := nw_end (Q := Q) (W := W) (n := n) (X := X) (G := w1.heap.size) (P := P) (D := D) KX (by omega) b2 hX (k2.heap g1 (by simp)) _ rfl _ rfl
         rw [← eY]
         clear eY y0 y1 y2 y3 y4 y5 f0 f1 f2 f3 f4 f5 C hmc hmf hmk
         go_wp2
         obtain ⟨⟨y0, y1, y2, y3, y4, y5⟩, -⟩ := six_cells cY
         refine bodyPost_ret (v := .agg (wc W D P X w1.heap.size n 0 []).toArray) (by simp [results, Tryd.results19, go_sem, y0, y1, y2, y3, y4, y5]) rfl ⟨X, w1.heap.size, rfl, xY, gY, hX2, hl1, kY⟩)
      | (obtain ⟨e1, hX, k2, b2⟩ := R2.out
         obtain ⟨g1, g2⟩ := HMW.out w2
         have KX : Kept [] w (mkW w2) := (K1.out.trans (k2.undrew)).trans g2
         have hl2 : w.heap.size ≤ w2.heap.size := (K1.out.trans (k2.undrew)).size
         have hX2 : w.heap.size ≤ X := by rw [e1]; exact K1.out.size
         obtain ⟨wY, eY, cY, xY, gY, kY⟩ := nw_end (Q := Q) (W := W) (n := n) (X := X) (G := w2.heap.size) (P := P) (D := D) KX (by omega) (g2.heap b2 (by simp)) (hX.kept g2 (by simp)) g1 _ rfl _ rfl
         rw [← eY]
         clear eY y0 y1 y2 y3 y4 y5 f0 f1 f2 f3 f4 f5 C hmc hmf hmk
         go_wp2
         obtain ⟨⟨y0, y1, y2, y3, y4, y5⟩, -⟩ := six_cells cY
         refine bodyPost_ret (v := .agg (wc W D P X w2.heap.size n 0 []).toArray) (by simp [results, Tryd.results19, go_sem, y0, y1, y2, y3, y4, y5]) rfl ⟨X, w2.heap.size, rfl, xY, gY, hX2, hl2, kY⟩)
end Go.Proofs.YtahoeodpjdbdkabDoor

namespace Go.Proofs.YtahoeodpjdbdkabDoor
open Go.RowKit

set_option maxHeartbeats 4000000 in
set_option maxRecDepth 1000000 in
theorem newCoder_any (sb so n sc P X G W : Nat) (d D : Int) (w : World) :
    Calls Tryd.prog 23 #[.slice (some ⟨sb, so, none⟩) n sc, .int .i64 d, .agg (wc W D P X G n 0 []).toArray] w fun e w' => ∃ B O, e = .returned (.pointer (some ⟨B, 0, none⟩)) ∧ w'.heap[B]? = some (.cells (wc W D P X G n 0 (cext sb so n sc d O)).toArray 71 (0, 0)) ∧ WriterAt w' O (.slice none 0 0) 0 0 ∧ w.heap.size ≤ B ∧ w.heap.size ≤ O ∧ Kept [] w w' := by
  obtain ⟨w1, hw1, k1, b1⟩ := six_new w (wc W D P X G n 0 []) 56
  obtain ⟨Q, hQ⟩ : ∃ Q, w.heap.size = Q := ⟨_, rfl⟩
  rw [hQ] at b1
  obtain ⟨⟨y0, y1, y2, y3, y4, y5⟩, -⟩ := six_cells b1
  have C := Hid.mk (fun W' (hk : Kept [] w1 W') => (newWriter_any W').mono (R' := fun e w' => ∃ O : Nat, e = .returned (.pointer (some ⟨O, 0, none⟩)) ∧ Hid (O = W'.heap.size ∧ WriterAt w' O (.slice none 0 0) 0 0 ∧ Kept [] W' w') ∧ w'.cell? ⟨Q, 0, none⟩ = some (.int .i64 (W : Int)) ∧ w'.cell? ⟨Q, 1, none⟩ = some (.int .i64 D) ∧ w'.cell? ⟨Q, 2, none⟩ = some (.pointer (some ⟨P, 0, none⟩)) ∧ w'.cell? ⟨Q, 3, none⟩ = some (.pointer (some ⟨X, 0, none⟩)) ∧ w'.cell? ⟨Q, 4, none⟩ = some (.slice (some ⟨G, 0, none⟩) n n) ∧ w'.cell? ⟨Q, 5, none⟩ = some (.int .i64 0)) (by
    rintro e w' ⟨rfl, rfl⟩
    have hb' := (hk.trans (alloc_kept W' (.cells #[.slice none 0 0, .int .u64 0, .int .i64 0] 112))).heap b1 (by simp)
    obtain ⟨x, y⟩ := six_cells hb'
    exact ⟨_, rfl, Hid.mk ⟨rfl, newWriter_at W', alloc_kept _ _⟩, x⟩))
  have K1 := Hid.mk k1
  have hlt := lt_of_block b1
  replace hw1 : w.alloc (.cells #[.int .i64 (W : Int), .int .i64 D, .pointer (some ⟨P, 0, none⟩), .pointer (some ⟨X, 0, none⟩), .slice (some ⟨G, 0, none⟩) n n, .int .i64 0] 56 (0, 0)) = w1 := hw1
  clear b1 k1
  go_enter Tryd.func23, Tryd.ntmps23
  go_wp2
  go_region_with (first | (go_at_call 41; refine (C.out _ (by with_reducible exact (Kept.refl _ _).drew)).mono ?_; rintro e w2 ⟨O, rfl, R2, t0, t1, t2, t3, t4, t5⟩))
  all_goals
    clear C t0 t1 t2 t3 t4 t5 y0 y1 y2 y3 y4 y5
    go_wp2
    go_ret
    obtain ⟨e1, hX, k2⟩ := R2.out
    have k3 := alloc_kept w2 (.cells (wc W D P X G n 0 (cext sb so n sc d O)).toArray 71)
    refine ⟨w2.heap.size, O, rfl, heap_alloc_new w2 (.cells (wc W D P X G n 0 (cext sb so n sc d O)).toArray 71), hX.kept k3 (by simp) (by simp), (K1.out.trans k2.undrew).size, by rw [e1]; exact K1.out.size, (K1.out.trans k2.undrew).trans k3⟩

/-- How a walk begins. -/
def wk0 (T d : Int) : Wk := ⟨fun _ => sx0 T d, 0, fun _ => 0, 0⟩
theorem wk0_in {T d : Int} (G : Gd T d) : (wk0 T d).In T := ⟨fun _ => sx0_fit T d G, by show 0 ≤ 22; omega, fun i hi => by have : i < 0 := hi; omega⟩

/-- What a coder has laid down: the rounds are j. -/
structure Enc (T d : Int) (W n : Nat) (f : Nat → Int) (j : Nat) : Prop where
  all : ∀ i, i < j → (stp T d W (cE T d W f) (wk0 T d) i).t < n
  fin : (stp T d W (cE T d W f) (wk0 T d) j).t = n

theorem put8 (O : Nat) (w : World) (hw : WriterAt w O (.slice none 0 0) 0 0) :
    Calls Tryd.prog 42 #[.pointer (some ⟨O, 0, none⟩), .int .u32 1, .int .i64 8] w fun e w' => e = .returned (.int .i64 0) ∧ ∃ V', WriterAt w' O V' 1 8 ∧ Kept [O] w w' ∧ Lies w (.slice none 0 0) V' := by
  refine (put_any O (.slice none 0 0) 0 0 1 8 w hw (by omega) (by omega) (by omega) (by decide) (by omega)).mono ?_
  rintro e w' ⟨rfl, V', h1, h2, h3⟩
  exact ⟨rfl, V', h1, h2, h3⟩

set_option maxHeartbeats 4000000 in
set_option maxRecDepth 1000000 in
theorem write_any (w0 : World) (B P X G O : Nat) (T d D : Int) (W H n sb so sc : Nat) (f : Nat → Int) (w : World) (hG : Gd T d) (hD : Dp D T) (hn : n ≤ 4194304) (hW : 1 ≤ W) (hW2 : W ≤ 4096) (hWH : n = W * H) (hf : ∀ i, 0 ≤ f i ∧ f i ≤ T)
    (h : Cm w0 B P X G O T d D W n sb so sc f w (wk0 T d) (0, 0)) (hwr : WriterAt w O (.slice none 0 0) 0 0) :
    Calls Tryd.prog 24 #[.pointer (some ⟨B, 0, none⟩)] w fun e w' => ∃ j g, Enc T d W n f j ∧ Cm w0 B P X G O T d D W n sb so sc f w' (stp T d W (cE T d W f) (wk0 T d) j) (wrt T d W (cE T d W f) (wk0 T d) j) ∧ w0.heap.size ≤ g ∧
      e = .returned (.slice (some ⟨g, 0, none⟩) (((wrt T d W (cE T d W f) (wk0 T d) j).2 + 7) / 8) (((wrt T d W (cE T d W f) (wk0 T d) j).2 + 7) / 8)) ∧
      w'.heap[g]? = some (.cells ((big (((wrt T d W (cE T d W f) (wk0 T d) j).2 + 7) / 8) ((wrt T d W (cE T d W f) (wk0 T d) j).1 * 2 ^ (8 * (((wrt T d W (cE T d W f) (wk0 T d) j).2 + 7) / 8) - (wrt T d W (cE T d W f) (wk0 T d) j).2))).map byt).toArray 5 (0, 0)) := by
  have C0 := Hid.mk (put8 O w hwr)
  obtain ⟨e6, e7, e8⟩ := ext_cells h.wm
  have HC := Hid.mk h
  have hmf : ∀ (fn : Fn) (first cap : Array Value) (w : World), (Instr.makeFunc fn first cap).run Tryd.prog w = .ok (.func fn first cap) w := fun _ _ _ _ => rfl
  clear h
  go_enter Tryd.func24, Tryd.ntmps24
  go_wp2_with (go_at_call 42; refine C0.out.mono ?_; rintro e w1 ⟨rfl, V1, hw1, k1, l1⟩)
  have h1 : Cm w0 B P X G O T d D W n sb so sc f w1 (wk0 T d) (1, 8) := by
    have h := HC.out
    obtain ⟨cs, hr, hl, hc⟩ := h.wm.row
    obtain ⟨ps, hp, _⟩ := h.wm.md.blk
    have hlo := h.lo
    refine ⟨h.wm.keep k1 ⟨?_, ?_, ?_, ?_⟩, ⟨V1, hw1, ?_⟩, h.keep.step k1 (fun y hy => by right; simp at hy; omega), h.smp, h.tab, h.lo⟩
    · simp; exact ne_ty h.wm.blk hwr.1 (by decide)
    · simp; exact ne_ty hp hwr.1 (by decide)
    · simp; exact ne_ty h.wm.co.1 hwr.1 (by decide)
    · simp; exact ne_ty hr hwr.1 (by decide)
    · intro g hg
      rcases l1 with h' | ⟨g', hg', hl'⟩
      · rw [h'] at hg; simp [Value.ownBlock] at hg
      · rw [hg'] at hg; simp at hg; subst hg
        have := h.keep.size; omega
  have HC1 := Hid.mk h1
  clear hw1 k1 l1 h1 e6 e7 e8 C0 hwr
  refine (through44 B P X G 71 T d D W H n (cext sb so n sc d O) (cdr T d W f) (Cm w0 B P X G O T d D W n sb so sc f) (fun _ _ => False) hD hG hn hW hW2 hWH (wk0 T d) (1, 8) (chnd w0 B P X G O T d D W H n sb so sc f hG hn hW hW2 hWH hf (wk0 T d)) w1 HC1.out (wk0_in hG) (by show 0 ≤ n; omega)).mono ?_
  rintro e w2 (⟨rfl, s2, x2, hR, ht, -, h2⟩ | ⟨pc, s2, x2, -, -, -, -, hF⟩)
  · obtain ⟨j, rfl, rfl, hj⟩ := rch_cdr hR
    have hl := wrt_len hG (cE T d W f) (wk0 T d) hW j
    rw [ht] at hl
    obtain ⟨e6, e7, e8⟩ := ext_cells h2.wm
    obtain ⟨V, hwr, hV⟩ := h2.wr
    have C3 := Hid.mk (bytes_any O V _ _ w2 hwr (by have : (2 : Nat) ^ 50 = 1125899906842624 := by decide
                                                    omega))
    have HE : Hid (Enc T d W n f j) := Hid.mk ⟨hj, ht⟩
    have H2 := Hid.mk h2
    clear hR ht h2 hj hl hwr hV hmf HC HC1
    obtain ⟨xx, hxx⟩ : ∃ xx, wrt T d W (cE T d W f) (wk0 T d) j = xx := ⟨_, rfl⟩
    obtain ⟨ss, hss⟩ : ∃ ss, stp T d W (cE T d W f) (wk0 T d) j = ss := ⟨_, rfl⟩
    rw [hxx] at C3 H2
    rw [hss] at H2
    have Hx := Hid.mk hxx
    have Hs := Hid.mk hss
    clear hxx hss
    go_wp2_with (go_at_call 45; refine C3.out.mono ?_; rintro e w3 ⟨rfl, hb, k3⟩)
    go_ret
    refine ⟨j, w2.heap.size, HE.out, ?_, H2.out.keep.size, ?_, ?_⟩
    · rw [Hx.out, Hs.out]; exact H2.out.kp k3
    · rw [Hx.out]; rfl
    · rw [Hx.out]; exact hb
  · exact hF.elim
end Go.Proofs.YtahoeodpjdbdkabDoor
