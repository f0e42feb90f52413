import Derived.Test.YthhegomjipbdbaaGreatDoorSiZ
import Derived.Test.YthhegomjipbdbaaGreatDoormB3Z
import Derived.Test.YthhegomjipbdbaaGreatDoorSdZ
namespace Go.Proofs.YthhegomjipbdbaaGreatDoor
open Go.RowKit

theorem Tryz.info93 : (Tryz.prog.info? 93).map (fun i => (i.zero, i.size, i.bytes)) = some (some (.int .u16 0), 1, 2) := by kernel_rfl

/-- Making a list of samples, as an equation. -/
theorem make_smp (r : Nat) (m : Int) (hm : m = (r : Int)) (hr : r ≤ 1000000000) : ∃ mkW : World → World, (∀ w, Sem.run Tryz.prog (Instr.makeSlice 94 (.int .i64 m) (.int .i64 m)) w = .ok (.slice (some ⟨w.heap.size, 0, none⟩) r r) (mkW w)) ∧ ∀ w, (mkW w).heap[w.heap.size]? = some (.cells (List.replicate r (.int .u16 0)).toArray 93 (0, 0)) ∧ Kept [] w (mkW w) := by
  subst hm
  obtain ⟨j0, gi, gz0, gz1, gz2⟩ := info_parts Tryz.info93
  have h : ∀ w : World, ∃ w', Sem.run Tryz.prog (Instr.makeSlice 94 (.int .i64 (r : Int)) (.int .i64 (r : Int))) w = .ok (.slice (some ⟨w.heap.size, 0, none⟩) r r) w' ∧ w'.heap[w.heap.size]? = some (.cells (List.replicate r (.int .u16 0)).toArray 93 (0, 0)) ∧ Kept [] w w' := fun w => by
    obtain ⟨w', hrun, r1, r2⟩ := run_make_full (P := Tryz.prog) w 0 94 93 j0 (.int .u16 0) 1 Tryz.underlying94 gi gz0 gz1 .i64 .i64 r (by rw [gz2]; omega) (by unfold maxLen; omega) (by omega)
    have hr3 := row_heap r1 rfl
    rw [show (madeCells (Value.int .u16 0).cells (r * 1)).toList = List.replicate r (.int .u16 0) by rw [Nat.mul_one]; exact toList_madeCells_one _ _] at hr3
    exact ⟨w', hrun, hr3, (Kept.of_grown r2).mono (by simp)⟩
  obtain ⟨mkW, hm⟩ := Classical.axiomOfChoice h
  exact ⟨mkW, fun w => (hm w).1, fun w => (hm w).2⟩

theorem six_new (w : World) (l : List Value) (t : Nat) : ∃ w1, w.alloc (.cells l.toArray t (0, 0)) = w1 ∧ Kept [] w w1 ∧ w1.heap[w.heap.size]? = some (.cells l.toArray t (0, 0)) :=
  ⟨_, rfl, alloc_kept _ _, heap_alloc_new _ _⟩

theorem six_cells {w : World} {Q t : Nat} {a b c d e f : Value} (h : w.heap[Q]? = some (.cells [a, b, c, d, e, f].toArray t (0, 0))) : (w.cell? ⟨Q, 0, none⟩ = some a ∧ w.cell? ⟨Q, 1, none⟩ = some b ∧ w.cell? ⟨Q, 2, none⟩ = some c ∧ w.cell? ⟨Q, 3, none⟩ = some d ∧ w.cell? ⟨Q, 4, none⟩ = some e ∧ w.cell? ⟨Q, 5, none⟩ = some f) ∧ (w.frozen? ⟨Q, 0, none⟩ = false ∧ w.frozen? ⟨Q, 1, none⟩ = false ∧ w.frozen? ⟨Q, 2, none⟩ = false ∧ w.frozen? ⟨Q, 3, none⟩ = false ∧ w.frozen? ⟨Q, 4, none⟩ = false ∧ w.frozen? ⟨Q, 5, none⟩ = false) := by
  refine ⟨⟨?_, ?_, ?_, ?_, ?_, ?_⟩, ⟨?_, ?_, ?_, ?_, ?_, ?_⟩⟩ <;> simp [World.cell?, World.frozen?, h]

/-- The zero of a walk lies at Q. -/
abbrev z52 : List Value := [.int .i64 0, .int .i64 0, .pointer none, .pointer none, .slice none 0 0, .int .i64 0]

theorem nw_end {w wX : World} {Q W n X G P : Nat} {D : Int} (hk : Kept [] w wX) (hQl : w.heap.size ≤ Q) (hQ : wX.heap[Q]? = some (.cells z52.toArray 169 (0, 0))) (hX : CoderAt wX X 0) (hG : wX.heap[G]? = some (.cells (List.replicate n (.int .u16 0)).toArray 93 (0, 0))) (a : Value) (ha : a = .int .i64 (W : Int)) (b : Value) (hb : b = .int .i64 D) :
    ∃ wY, wY = ((((((wX.setCell ⟨Q, 0, none⟩ a).setCell ⟨Q, 1, none⟩ b).setCell ⟨Q, 2, none⟩ (.pointer (some ⟨P, 0, none⟩))).setCell ⟨Q, 3, none⟩ (.pointer (some ⟨X, 0, none⟩))).setCell ⟨Q, 4, none⟩ (.slice (some ⟨G, 0, none⟩) n n)).setCell ⟨Q, 5, none⟩ (.int .i64 0)) ∧
      wY.heap[Q]? = some (.cells (wc W D P X G n 0 []).toArray 169 (0, 0)) ∧ CoderAt wY X 0 ∧ wY.heap[G]? = some (.cells (List.replicate n (.int .u16 0)).toArray 93 (0, 0)) ∧ Kept [] w wY := by
  subst ha hb
  have k : Kept [Q] wX ((((((wX.setCell ⟨Q, 0, none⟩ (.int .i64 (W : Int))).setCell ⟨Q, 1, none⟩ (.int .i64 D)).setCell ⟨Q, 2, none⟩ (.pointer (some ⟨P, 0, none⟩))).setCell ⟨Q, 3, none⟩ (.pointer (some ⟨X, 0, none⟩))).setCell ⟨Q, 4, none⟩ (.slice (some ⟨G, 0, none⟩) n n)).setCell ⟨Q, 5, none⟩ (.int .i64 0)) :=
    ((((((Kept.refl [Q] wX).setCell (p := ⟨Q, 0, none⟩) (by simp) _).setCell (p := ⟨Q, 1, none⟩) (by simp) _).setCell (p := ⟨Q, 2, none⟩) (by simp) _).setCell (p := ⟨Q, 3, none⟩) (by simp) _).setCell (p := ⟨Q, 4, none⟩) (by simp) _).setCell (p := ⟨Q, 5, none⟩) (by simp) _
  refine ⟨_, rfl, ?_, hX.kept k (by simp; exact ne_ty hX.1 hQ (by decide)), k.heap hG (by simp; exact ne_ty hG hQ (by decide)), hk.step k (by simp; exact hQl)⟩
  rw [heap_setCell_at (heap_setCell_at (heap_setCell_at (heap_setCell_at (heap_setCell_at (heap_setCell_at hQ)))))]
  simp [wc, z52]

set_option maxHeartbeats 4000000 in
set_option maxRecDepth 1000000 in
theorem newWalk_any (P W h n : Nat) (D : Int) (w : World) (h1 : W ≤ 4096) (h2 : h ≤ 4096) (hn : W * h = n) :
    Calls Tryz.prog 110 #[.pointer (some ⟨P, 0, none⟩), .int .i64 (W : Int), .int .i64 (h : Int), .int .i64 D] w fun e w' => ∃ X G, e = .returned (.agg (wc W D P X G n 0 []).toArray) ∧ CoderAt w' X 0 ∧ w'.heap[G]? = some (.cells (List.replicate n (.int .u16 0)).toArray 93 (0, 0)) ∧ w.heap.size ≤ X ∧ w.heap.size ≤ G ∧ Kept [] w w' := by
  have hb : W * h ≤ 4096 * 4096 := Nat.mul_le_mul h1 h2
  have hcast : (W : Int) * h = (n : Int) := by rw [← hn]; simp
  have hwr : IntKind.i64.wrap ((W : Int) * h) = (n : Int) := by rw [hcast]; exact wrap_i (by omega) (by omega)
  obtain ⟨mkW, hmk, hmw⟩ := make_smp n (n : Int) rfl (by omega)
  have HMW := Hid.mk hmw
  have hmc : ∀ (u : World) (p o : Nat), p < u.heap.size → (mkW u).cell? ⟨p, o, none⟩ = u.cell? ⟨p, o, none⟩ := fun u p o hp => World.cell?_of_block (a := ⟨p, o, none⟩) ((hmw u).2.block p hp (by simp))
  have hmf : ∀ (u : World) (p o : Nat), p < u.heap.size → (mkW u).frozen? ⟨p, o, none⟩ = u.frozen? ⟨p, o, none⟩ := fun u p o hp => by
    have := (hmw u).2.block p hp (by simp)
    unfold World.frozen?
    simp only [this]
  obtain ⟨w1, hw1, k1, b1⟩ := six_new w z52 169
  obtain ⟨Q, hQ⟩ : ∃ Q, w.heap.size = Q := ⟨_, rfl⟩
  rw [hQ] at b1
  have C := Hid.mk (fun W' (hk : Kept [] w1 W') => (newRuns_any W').mono (R' := fun e w' => ∃ X : Nat, e = .returned (.pointer (some ⟨X, 0, none⟩)) ∧ Hid (X = W'.heap.size ∧ CoderAt w' X 0 ∧ Kept [] W' w' ∧ w'.heap[Q]? = some (.cells z52.toArray 169 (0, 0))) ∧ Q < w'.heap.size ∧ (w'.cell? ⟨Q, 0, none⟩ = some (.int .i64 0) ∧ w'.cell? ⟨Q, 1, none⟩ = some (.int .i64 0) ∧ w'.cell? ⟨Q, 2, none⟩ = some (.pointer none) ∧ w'.cell? ⟨Q, 3, none⟩ = some (.pointer none) ∧ w'.cell? ⟨Q, 4, none⟩ = some (.slice none 0 0) ∧ w'.cell? ⟨Q, 5, none⟩ = some (.int .i64 0)) ∧ (w'.frozen? ⟨Q, 0, none⟩ = false ∧ w'.frozen? ⟨Q, 1, none⟩ = false ∧ w'.frozen? ⟨Q, 2, none⟩ = false ∧ w'.frozen? ⟨Q, 3, none⟩ = false ∧ w'.frozen? ⟨Q, 4, none⟩ = false ∧ w'.frozen? ⟨Q, 5, none⟩ = false)) (by
    rintro e w' ⟨rfl, rfl⟩
    have hb' := (hk.trans (alloc_kept W' (.cells #[.int .i64 0] 215))).heap b1 (by simp)
    obtain ⟨x, y⟩ := six_cells hb'
    exact ⟨_, rfl, Hid.mk ⟨rfl, newRuns_at W', alloc_kept _ _, hb'⟩, lt_of_block hb', x, y⟩))
  have KM := Hid.mk ((Kept.refl [] w1).drew.trans (hmw w1.drew).2)
  have K1 := Hid.mk k1
  have B1 := Hid.mk b1
  have hlt := lt_of_block b1
  clear hmw b1 k1 hb hn hcast
  go_enter Tryz.func110, Tryz.ntmps110
  go_wp2
  go_region_with (first | (go_at_call 130; refine (C.out _ (by first | with_reducible exact (Kept.refl _ _).drew | exact KM.out)).mono ?_; rintro e w2 ⟨X, rfl, R2, hl2, ⟨y0, y1, y2, y3, y4, y5⟩, ⟨f0, f1, f2, f3, f4, f5⟩⟩))
  all_goals
    first
      | (obtain ⟨e1, hX, k2, b2⟩ := R2.out
         obtain ⟨g1, g2⟩ := HMW.out w1.drew
         have KX : Kept [] w w2 := K1.out.trans (KM.out.trans k2)
         have hl1 : w.heap.size ≤ w1.heap.size := K1.out.size
         have hX2 : w.heap.size ≤ X := by rw [e1]; exact (K1.out.trans KM.out).size
         obtain ⟨wY, eY, cY, xY, gY, kY⟩ := nw_end (Q := Q) (W := W) (n := n) (X := X) (G := w1.heap.size) (P := P) (D := D) KX (by omega) b2 hX (k2.heap g1 (by simp)) _ rfl _ rfl
         rw [← eY]
         clear eY y0 y1 y2 y3 y4 y5 f0 f1 f2 f3 f4 f5 C hmc hmf hmk
         go_wp2
         obtain ⟨⟨y0, y1, y2, y3, y4, y5⟩, -⟩ := six_cells cY
         refine bodyPost_ret (v := .agg (wc W D P X w1.heap.size n 0 []).toArray) (by simp [results, Tryz.results110, go_sem, y0, y1, y2, y3, y4, y5]) rfl ⟨X, w1.heap.size, rfl, xY, gY, hX2, hl1, kY⟩)
      | (obtain ⟨e1, hX, k2, b2⟩ := R2.out
         obtain ⟨g1, g2⟩ := HMW.out w2
         have KX : Kept [] w (mkW w2) := (K1.out.trans (k2.undrew)).trans g2
         have hl2 : w.heap.size ≤ w2.heap.size := (K1.out.trans (k2.undrew)).size
         have hX2 : w.heap.size ≤ X := by rw [e1]; exact K1.out.size
         obtain ⟨wY, eY, cY, xY, gY, kY⟩ := nw_end (Q := Q) (W := W) (n := n) (X := X) (G := w2.heap.size) (P := P) (D := D) KX (by omega) (g2.heap b2 (by simp)) (hX.kept g2 (by simp)) g1 _ rfl _ rfl
         rw [← eY]
         clear eY y0 y1 y2 y3 y4 y5 f0 f1 f2 f3 f4 f5 C hmc hmf hmk
         go_wp2
         obtain ⟨⟨y0, y1, y2, y3, y4, y5⟩, -⟩ := six_cells cY
         refine bodyPost_ret (v := .agg (wc W D P X w2.heap.size n 0 []).toArray) (by simp [results, Tryz.results110, go_sem, y0, y1, y2, y3, y4, y5]) rfl ⟨X, w2.heap.size, rfl, xY, gY, hX2, hl2, kY⟩)
end Go.Proofs.YthhegomjipbdbaaGreatDoor

namespace Go.Proofs.YthhegomjipbdbaaGreatDoor
open Go.RowKit

set_option maxHeartbeats 4000000 in
set_option maxRecDepth 1000000 in
theorem newCoder_any (sb so n sc P X G W : Nat) (d D : Int) (w : World) :
    Calls Tryz.prog 109 #[.slice (some ⟨sb, so, none⟩) n sc, .int .i64 d, .agg (wc W D P X G n 0 []).toArray] w fun e w' => ∃ B O, e = .returned (.pointer (some ⟨B, 0, none⟩)) ∧ w'.heap[B]? = some (.cells (wc W D P X G n 0 (cext sb so n sc d O)).toArray 173 (0, 0)) ∧ WriterAt w' O (.slice none 0 0) 0 0 ∧ w.heap.size ≤ B ∧ w.heap.size ≤ O ∧ Kept [] w w' := by
  obtain ⟨w1, hw1, k1, b1⟩ := six_new w (wc W D P X G n 0 []) 169
  obtain ⟨Q, hQ⟩ : ∃ Q, w.heap.size = Q := ⟨_, rfl⟩
  rw [hQ] at b1
  obtain ⟨⟨y0, y1, y2, y3, y4, y5⟩, -⟩ := six_cells b1
  have C := Hid.mk (fun W' (hk : Kept [] w1 W') => (newWriter_any W').mono (R' := fun e w' => ∃ O : Nat, e = .returned (.pointer (some ⟨O, 0, none⟩)) ∧ Hid (O = W'.heap.size ∧ WriterAt w' O (.slice none 0 0) 0 0 ∧ Kept [] W' w') ∧ w'.cell? ⟨Q, 0, none⟩ = some (.int .i64 (W : Int)) ∧ w'.cell? ⟨Q, 1, none⟩ = some (.int .i64 D) ∧ w'.cell? ⟨Q, 2, none⟩ = some (.pointer (some ⟨P, 0, none⟩)) ∧ w'.cell? ⟨Q, 3, none⟩ = some (.pointer (some ⟨X, 0, none⟩)) ∧ w'.cell? ⟨Q, 4, none⟩ = some (.slice (some ⟨G, 0, none⟩) n n) ∧ w'.cell? ⟨Q, 5, none⟩ = some (.int .i64 0)) (by
    rintro e w' ⟨rfl, rfl⟩
    have hb' := (hk.trans (alloc_kept W' (.cells #[.slice none 0 0, .int .u64 0, .int .i64 0] 213))).heap b1 (by simp)
    obtain ⟨x, y⟩ := six_cells hb'
    exact ⟨_, rfl, Hid.mk ⟨rfl, newWriter_at W', alloc_kept _ _⟩, x⟩))
  have K1 := Hid.mk k1
  have hlt := lt_of_block b1
  replace hw1 : w.alloc (.cells #[.int .i64 (W : Int), .int .i64 D, .pointer (some ⟨P, 0, none⟩), .pointer (some ⟨X, 0, none⟩), .slice (some ⟨G, 0, none⟩) n n, .int .i64 0] 169 (0, 0)) = w1 := hw1
  clear b1 k1
  go_enter Tryz.func109, Tryz.ntmps109
  go_wp2
  go_region_with (first | (go_at_call 129; refine (C.out _ (by with_reducible exact (Kept.refl _ _).drew)).mono ?_; rintro e w2 ⟨O, rfl, R2, t0, t1, t2, t3, t4, t5⟩))
  all_goals
    clear C t0 t1 t2 t3 t4 t5 y0 y1 y2 y3 y4 y5
    go_wp2
    go_ret
    obtain ⟨e1, hX, k2⟩ := R2.out
    have k3 := alloc_kept w2 (.cells (wc W D P X G n 0 (cext sb so n sc d O)).toArray 173)
    refine ⟨w2.heap.size, O, rfl, heap_alloc_new w2 (.cells (wc W D P X G n 0 (cext sb so n sc d O)).toArray 173), hX.kept k3 (by simp) (by simp), (K1.out.trans k2.undrew).size, by rw [e1]; exact K1.out.size, (K1.out.trans k2.undrew).trans k3⟩

/-- How a walk begins. -/
def wk0 (T d : Int) : Wk := ⟨fun _ => sx0 T d, 0, fun _ => 0, 0⟩
theorem wk0_in {T d : Int} (G : Gd T d) : (wk0 T d).In T := ⟨fun _ => sx0_fit T d G, by show 0 ≤ 22; omega, fun i hi => by have : i < 0 := hi; omega⟩

/-- What a coder has laid down: the rounds are j. -/
structure Enc (T d : Int) (W n : Nat) (f : Nat → Int) (j : Nat) : Prop where
  all : ∀ i, i < j → (stp T d W (cE T d W f) (wk0 T d) i).t < n
  fin : (stp T d W (cE T d W f) (wk0 T d) j).t = n

theorem put8 (O : Nat) (w : World) (hw : WriterAt w O (.slice none 0 0) 0 0) :
    Calls Tryz.prog 131 #[.pointer (some ⟨O, 0, none⟩), .int .u32 1, .int .i64 8] w fun e w' => e = .returned (.int .i64 0) ∧ ∃ V', WriterAt w' O V' 1 8 ∧ Kept [O] w w' ∧ Lies w (.slice none 0 0) V' := by
  refine (put_any O (.slice none 0 0) 0 0 1 8 w hw (by omega) (by omega) (by omega) (by decide) (by omega)).mono ?_
  rintro e w' ⟨rfl, V', h1, h2, h3⟩
  exact ⟨rfl, V', h1, h2, h3⟩

set_option maxHeartbeats 4000000 in
set_option maxRecDepth 1000000 in
theorem write_any (w0 : World) (B P X G O : Nat) (T d D : Int) (W H n sb so sc : Nat) (f : Nat → Int) (w : World) (hG : Gd T d) (hD : Dp D T) (hn : n ≤ 4194304) (hW : 1 ≤ W) (hW2 : W ≤ 4096) (hWH : n = W * H) (hf : ∀ i, 0 ≤ f i ∧ f i ≤ T)
    (h : Cm w0 B P X G O T d D W n sb so sc f w (wk0 T d) (0, 0)) (hwr : WriterAt w O (.slice none 0 0) 0 0) :
    Calls Tryz.prog 111 #[.pointer (some ⟨B, 0, none⟩)] w fun e w' => ∃ j g, Enc T d W n f j ∧ Cm w0 B P X G O T d D W n sb so sc f w' (stp T d W (cE T d W f) (wk0 T d) j) (wrt T d W (cE T d W f) (wk0 T d) j) ∧ w0.heap.size ≤ g ∧
      e = .returned (.slice (some ⟨g, 0, none⟩) (((wrt T d W (cE T d W f) (wk0 T d) j).2 + 7) / 8) (((wrt T d W (cE T d W f) (wk0 T d) j).2 + 7) / 8)) ∧
      w'.heap[g]? = some (.cells ((big (((wrt T d W (cE T d W f) (wk0 T d) j).2 + 7) / 8) ((wrt T d W (cE T d W f) (wk0 T d) j).1 * 2 ^ (8 * (((wrt T d W (cE T d W f) (wk0 T d) j).2 + 7) / 8) - (wrt T d W (cE T d W f) (wk0 T d) j).2))).map byt).toArray 5 (0, 0)) := by
  have C0 := Hid.mk (put8 O w hwr)
  obtain ⟨e6, e7, e8⟩ := ext_cells h.wm
  have HC := Hid.mk h
  have hmf : ∀ (fn : Fn) (first cap : Array Value) (w : World), (Instr.makeFunc fn first cap).run Tryz.prog w = .ok (.func fn first cap) w := fun _ _ _ _ => rfl
  clear h
  go_enter Tryz.func111, Tryz.ntmps111
  go_wp2_with (go_at_call 131; refine C0.out.mono ?_; rintro e w1 ⟨rfl, V1, hw1, k1, l1⟩)
  have h1 : Cm w0 B P X G O T d D W n sb so sc f w1 (wk0 T d) (1, 8) := by
    have h := HC.out
    obtain ⟨cs, hr, hl, hc⟩ := h.wm.row
    obtain ⟨ps, hp, _⟩ := h.wm.md.blk
    have hlo := h.lo
    refine ⟨h.wm.keep k1 ⟨?_, ?_, ?_, ?_⟩, ⟨V1, hw1, ?_⟩, h.keep.step k1 (fun y hy => by right; simp at hy; omega), h.smp, h.tab, h.lo⟩
    · simp; exact ne_ty h.wm.blk hwr.1 (by decide)
    · simp; exact ne_ty hp hwr.1 (by decide)
    · simp; exact ne_ty h.wm.co.1 hwr.1 (by decide)
    · simp; exact ne_ty hr hwr.1 (by decide)
    · intro g hg
      rcases l1 with h' | ⟨g', hg', hl'⟩
      · rw [h'] at hg; simp [Value.ownBlock] at hg
      · rw [hg'] at hg; simp at hg; subst hg
        have := h.keep.size; omega
  have HC1 := Hid.mk h1
  clear hw1 k1 l1 h1 e6 e7 e8 C0 hwr
  refine (through44 B P X G 173 T d D W H n (cext sb so n sc d O) (cdr T d W f) (Cm w0 B P X G O T d D W n sb so sc f) (fun _ _ => False) hD hG hn hW hW2 hWH (wk0 T d) (1, 8) (chnd w0 B P X G O T d D W H n sb so sc f hG hn hW hW2 hWH hf (wk0 T d)) w1 HC1.out (wk0_in hG) (by show 0 ≤ n; omega)).mono ?_
  rintro e w2 (⟨rfl, s2, x2, hR, ht, -, h2⟩ | ⟨pc, s2, x2, -, -, -, -, hF⟩)
  · obtain ⟨j, rfl, rfl, hj⟩ := rch_cdr hR
    have hl := wrt_len hG (cE T d W f) (wk0 T d) hW j
    rw [ht] at hl
    obtain ⟨e6, e7, e8⟩ := ext_cells h2.wm
    obtain ⟨V, hwr, hV⟩ := h2.wr
    have C3 := Hid.mk (bytes_any O V _ _ w2 hwr (by have : (2 : Nat) ^ 50 = 1125899906842624 := by decide
                                                    omega))
    have HE : Hid (Enc T d W n f j) := Hid.mk ⟨hj, ht⟩
    have H2 := Hid.mk h2
    clear hR ht h2 hj hl hwr hV hmf HC HC1
    obtain ⟨xx, hxx⟩ : ∃ xx, wrt T d W (cE T d W f) (wk0 T d) j = xx := ⟨_, rfl⟩
    obtain ⟨ss, hss⟩ : ∃ ss, stp T d W (cE T d W f) (wk0 T d) j = ss := ⟨_, rfl⟩
    rw [hxx] at C3 H2
    rw [hss] at H2
    have Hx := Hid.mk hxx
    have Hs := Hid.mk hss
    clear hxx hss
    go_wp2_with (go_at_call 135; refine C3.out.mono ?_; rintro e w3 ⟨rfl, hb, k3⟩)
    go_ret
    refine ⟨j, w2.heap.size, HE.out, ?_, H2.out.keep.size, ?_, ?_⟩
    · rw [Hx.out, Hs.out]; exact H2.out.kp k3
    · rw [Hx.out]; rfl
    · rw [Hx.out]; exact hb
  · exact hF.elim
end Go.Proofs.YthhegomjipbdbaaGreatDoor

namespace Go.Proofs.YthhegomjipbdbaaGreatDoor
open Go.RowKit

/-- May a block have these sides? -/
def szd (w h : Int) : Bool := decide (1 ≤ w ∧ w ≤ 4096 ∧ 1 ≤ h ∧ h ≤ 4096 ∧ w * h ≤ 4194304)
theorem szd_in {w h : Int} (e : szd w h = true) : 1 ≤ w ∧ w ≤ 4096 ∧ 1 ≤ h ∧ h ≤ 4096 ∧ w * h ≤ 4194304 := by unfold szd at e; exact of_decide_eq_true e
def rsz (w h D : Int) : Int × Int := if D ≠ 10 ∧ D ≠ 12 then (0, 91) else if szd w h then (1 + (D * w * h + 7) / 8, 0) else (0, 101)

set_option maxHeartbeats 1000000 in
theorem sized_any (w h : Int) (W : World) : Calls Tryz.prog 101 #[.int .i64 w, .int .i64 h] W fun e W' => e = .returned (.bool (szd w h)) ∧ W' = W := by
  by_cases h1 : 1 ≤ w
  · by_cases h2 : w ≤ 4096
    · by_cases h3 : 1 ≤ h
      · by_cases h4 : h ≤ 4096
        · have p1 : 0 ≤ w * h := Int.mul_nonneg (by omega) (by omega)
          have p2 : w * h ≤ 4096 * 4096 := Int.mul_le_mul h2 h4 (by omega) (by omega)
          obtain ⟨m, hm⟩ : ∃ m, w * h = m := ⟨_, rfl⟩
          have hx : wrap64 (w * h) = m := (w64_in (by omega) (by omega)).trans hm
          have e : szd w h = decide (m ≤ 4194304) := by unfold szd; rw [hm]; simp [h1, h2, h3, h4]
          rw [e]
          clear e hm p1 p2
          go_enter Tryz.func101, Tryz.ntmps101
          go_wp2
          go_ret
          exact ⟨rfl, rfl⟩
        · have e : szd w h = false := by unfold szd; rw [decide_eq_false]; omega
          rw [e]
          go_enter Tryz.func101, Tryz.ntmps101
          go_wp2
          go_ret
          exact ⟨rfl, rfl⟩
      · have e : szd w h = false := by unfold szd; rw [decide_eq_false]; omega
        rw [e]
        go_enter Tryz.func101, Tryz.ntmps101
        go_wp2
        go_ret
        exact ⟨rfl, rfl⟩
    · have e : szd w h = false := by unfold szd; rw [decide_eq_false]; omega
      rw [e]
      go_enter Tryz.func101, Tryz.ntmps101
      go_wp2
      go_ret
      exact ⟨rfl, rfl⟩
  · have e : szd w h = false := by unfold szd; rw [decide_eq_false]; omega
    rw [e]
    go_enter Tryz.func101, Tryz.ntmps101
    go_wp2
    go_ret
    exact ⟨rfl, rfl⟩

set_option maxHeartbeats 2000000 in
theorem rawSize_any (w h D : Int) (W : World) : Calls Tryz.prog 77 #[.int .i64 w, .int .i64 h, .int .i64 D] W fun e W' => e = .returned (.tuple #[.int .i64 (rsz w h D).1, .int .i64 (rsz w h D).2]) ∧ W' = W := by
  by_cases hD : D = 10 ∨ D = 12
  · by_cases hs : szd w h = true
    · have e : rsz w h D = (1 + (D * w * h + 7) / 8, 0) := by unfold rsz; rw [if_neg (by omega), if_pos hs]
      rw [e]
      have C := Hid.mk (fun W => sized_any w h W)
      rw [hs] at C
      have hb := szd_in hs
      have p1 : 0 ≤ w * h := Int.mul_nonneg (by omega) (by omega)
      have p2 : D * w * h = D * (w * h) := Int.mul_assoc _ _ _
      obtain ⟨y, hy⟩ : ∃ y, D * w = y := ⟨_, rfl⟩
      obtain ⟨m, hm⟩ : ∃ m, y * h = m := ⟨_, rfl⟩
      have hyb : 0 ≤ y ∧ y ≤ 12 * 4096 := by rcases hD with rfl | rfl <;> omega
      have hmb : 0 ≤ m ∧ m ≤ 12 * 4194304 := by
        rw [← hm, ← hy, p2]
        generalize w * h = z at *
        rcases hD with rfl | rfl <;> omega
      have x1 : wrap64 (D * w) = y := by rw [hy]; exact w64_in (by omega) (by omega)
      have x2 : wrap64 (y * h) = m := by rw [hm]; exact w64_in (by omega) (by omega)
      rw [hy, hm]
      have d1 : (D != 10 && D != 12) = false := by rcases hD with rfl | rfl <;> rfl
      clear p1 p2 hy hm e hs hb
      rcases hD with rfl | rfl
      all_goals
        go_enter Tryz.func77, Tryz.ntmps77
        go_wp2_with (go_at_call 101; refine (C.out _).mono ?_; rintro e w' ⟨rfl, rfl⟩)
        go_ret2
        exact ⟨rfl, rfl⟩
    · have hs : szd w h = false := by simpa using hs
      have e : rsz w h D = (0, 101) := by unfold rsz; rw [if_neg (by omega), if_neg (by rw [hs]; decide)]
      rw [e]
      have C := Hid.mk (fun W => sized_any w h W)
      rw [hs] at C
      clear e hs
      rcases hD with rfl | rfl
      all_goals
        go_enter Tryz.func77, Tryz.ntmps77
        go_wp2_with (go_at_call 101; refine (C.out _).mono ?_; rintro e w' ⟨rfl, rfl⟩)
        go_ret2
        exact ⟨rfl, rfl⟩
  · have e : rsz w h D = (0, 91) := by unfold rsz; rw [if_pos (by omega)]
    rw [e]
    have d1 : (D != 10) = true := by simp; omega
    have d2 : (D != 12) = true := by simp; omega
    clear e hD
    go_enter Tryz.func77, Tryz.ntmps77
    go_wp2
    go_ret2
    exact ⟨rfl, rfl⟩

end Go.Proofs.YthhegomjipbdbaaGreatDoor

namespace Go.Proofs.YthhegomjipbdbaaGreatDoor
open Go.RowKit

/-- The greatest of the first samples. -/
def mxf (f : Nat → Int) : Nat → Int
  | 0 => f 0
  | k + 1 => max (mxf f k) (f (k + 1))
theorem mxf_le (f : Nat → Int) (T : Int) (k : Nat) (h : ∀ i, i ≤ k → f i ≤ T) : mxf f k ≤ T := by
  induction k with
  | zero => exact h 0 (by omega)
  | succ k ih => have := ih (fun i hi => h i (by omega)); have := h (k + 1) (by omega); unfold mxf; omega
theorem mxf_ge (f : Nat → Int) (k : Nat) : ∀ i, i ≤ k → f i ≤ mxf f k := by
  induction k with
  | zero => intro i hi; obtain rfl : i = 0 := by omega
            exact Int.le_refl _
  | succ k ih => intro i hi; unfold mxf; by_cases e : i = k + 1
                 · subst e; omega
                 · have := ih i (by omega); omega

set_option maxHeartbeats 2000000 in
set_option maxRecDepth 100000 in
theorem max_any (sb so n sc : Nat) (f : Nat → Int) (w : World) (hs : Smp w sb so n f) (h1 : 1 ≤ n) (hn : n ≤ 4194304) :
    Calls Tryz.prog 128 #[.slice (some ⟨sb, so, none⟩) n sc] w fun e w' => e = .returned (.int .u16 (mxf f (n - 1))) ∧ w' = w := by
  have z0 := hs 0 (by omega)
  have z0 : w.cell? ⟨sb, so, none⟩ = some (.int .u16 (f 0)) := z0
  have ix : (0 : Int) < n := by omega
  have i1 : ¬ (n : Int) < 1 := by omega
  have HS := Hid.mk hs
  clear hs
  go_enter Tryz.func128, Tryz.ntmps128
  go_wp2
  go_loop [3, 4] (fun m i => ∃ k : Nat, k < n ∧ i = .int .i64 ((k : Int) + 1) ∧ m = .int .u16 (mxf f k)) (fun _ i => n - (intOf i).toNat)
  case atStart => exact ⟨0, by omega, rfl, rfl⟩
  case round =>
    obtain ⟨k, hk, rfl, rfl⟩ := hrel
    by_cases hlt : k + 1 < n
    · have c := HS.out (k + 1) hlt
      have ix2 : (k : Int) + 1 < n := by omega
      obtain ⟨v, hv⟩ : ∃ v, f (k + 1) = v := ⟨_, rfl⟩
      rw [hv] at c
      have HV := Hid.mk hv
      obtain ⟨m, hm⟩ : ∃ m, mxf f k = m := ⟨_, rfl⟩
      have HM := Hid.mk hm
      rw [hm]
      clear hv hm
      go_wp2
      go_round
      case rel => exact ⟨k + 1, by omega, by go_num, by show _ = Value.int .u16 (max (mxf f k) (f (k + 1))); rw [HM.out, HV.out]⟩
      case measure => simp [intOf]; omega
    · have ix2 : ¬ (k : Int) + 1 < n := by omega
      go_wp2
      go_ret
      refine ⟨?_, rfl⟩
      rw [show n - 1 = k by omega]; rfl
theorem hi_zero {D T v : Int} (h : Dp D T) (h0 : 0 ≤ v) (h1 : v ≤ T) : (v / 2 ^ D.toNat == 0) = true := by
  rcases h with ⟨rfl, rfl⟩ | ⟨rfl, rfl⟩
  · rw [show Int.toNat 10 = 10 from rfl]; simp; omega
  · rw [show Int.toNat 12 = 12 from rfl]; simp; omega
theorem hi_some {D T v : Int} (h : Dp D T) (h1 : T < v) : (v / 2 ^ D.toNat == 0) = false := by
  rcases h with ⟨rfl, rfl⟩ | ⟨rfl, rfl⟩
  · rw [show Int.toNat 10 = 10 from rfl]; simp; omega
  · rw [show Int.toNat 12 = 12 from rfl]; simp; omega

theorem agg3' {w : World} {Q t : Nat} {a b c : Value} (h : w.heap[Q]? = some (.cells #[a, b, c] t (0, 0))) : w.cell? ⟨Q, 0, none⟩ = some a ∧ w.cell? ⟨Q, 1, none⟩ = some b ∧ w.cell? ⟨Q, 2, none⟩ = some c := by
  obtain ⟨h0, h1, h2, _⟩ := cells_three h
  exact ⟨h0, h1, h2⟩

set_option maxHeartbeats 2000000 in
set_option maxRecDepth 100000 in
/-- A block that may be. -/
theorem mayBe_yes (W H n sb so sc : Nat) (D T : Int) (f : Nat → Int) (w : World) (hs : Smp w sb so n f) (hz : szd (W : Int) (H : Int) = true) (hn : n = W * H) (hD : Dp D T) (hf : ∀ i, 0 ≤ f i ∧ f i ≤ T) :
    Calls Tryz.prog 108 #[.agg #[.int .i64 (W : Int), .int .i64 (H : Int), .slice (some ⟨sb, so, none⟩) n sc], .int .i64 D] w fun e w' => e = .returned (.bool true) ∧ Kept [] w w' := by
  have hb := szd_in hz
  have hc : (W : Int) * H = (n : Int) := by rw [hn]; simp
  rw [hc] at hb
  have hT : T ≤ 4095 := by rcases hD with ⟨_, h⟩ | ⟨_, h⟩ <;> omega
  have h1 : 1 ≤ n := by rw [hn]; exact Nat.mul_pos (by omega) (by omega)
  obtain ⟨w1, hw1, k1, b1⟩ := three_new w (.int .i64 (W : Int)) (.int .i64 (H : Int)) (.slice (some ⟨sb, so, none⟩) n sc) 132
  obtain ⟨Q, hQ⟩ : ∃ Q, w.heap.size = Q := ⟨_, rfl⟩
  rw [hQ] at b1
  obtain ⟨z0, z1, z2⟩ := agg3' b1
  have C1 := Hid.mk (fun W' => sized_any (W : Int) (H : Int) W')
  rw [hz] at C1
  have hm0 : 0 ≤ mxf f (n - 1) := Int.le_trans (hf 0).1 (mxf_ge f (n - 1) 0 (by omega))
  have hm1 : mxf f (n - 1) ≤ T := mxf_le f T (n - 1) (fun i _ => (hf i).2)
  have C2 := Hid.mk (max_any sb so n sc f w1 (hs.keep k1 (by simp)) h1 (by omega))
  generalize mxf f (n - 1) = m at *
  have hm2 := hi_zero hD hm0 hm1
  have hd := hD.mid
  have hx : wrap64 ((W : Int) * H) = (n : Int) := by rw [hc]; exact w64_in (by omega) (by omega)
  have K1 := Hid.mk k1
  clear hc hn b1 k1 hz hs hf hb hD
  go_enter Tryz.func108, Tryz.ntmps108
  go_wp2_with (first | (go_at_call 101; refine (C1.out _).mono ?_; rintro e w' ⟨rfl, hw⟩; obtain rfl := hw.symm) | (go_at_call 128; refine C2.out.mono ?_; rintro e w' ⟨rfl, hw⟩; obtain rfl := hw.symm))
  go_ret
  exact ⟨ret_bool (by first | exact hm2 | rfl), K1.out⟩
end Go.Proofs.YthhegomjipbdbaaGreatDoor

namespace Go.Proofs.YthhegomjipbdbaaGreatDoor
open Go.RowKit

theorem newm_any (D T d : Int) (hD : Dp D T) (w : World) (d0 : 0 ≤ d) (d1 : d ≤ 63) : Calls Tryz.prog 107 #[.int .i64 D, .int .i64 d] w fun e w' => ∃ P, e = .returned (.tuple #[.pointer (some ⟨P, 0, none⟩), .int .i64 0]) ∧ Md w' P T d (fun _ => sx0 T d) ∧ w.heap.size ≤ P ∧ Kept [] w w' := by
  rcases hD with ⟨rfl, rfl⟩ | ⟨rfl, rfl⟩
  · exact new1023 d w d0 d1
  · exact new4095 d w d0 d1
theorem Dp.gd {D T d : Int} (hD : Dp D T) (d0 : 0 ≤ d) (d1 : d ≤ 63) : Gd T d := ⟨by rcases hD with ⟨_, h⟩ | ⟨_, h⟩ <;> omega, d0, d1⟩

theorem results_tmp3 {fn : Func} {t u v : Tmp} (h : fn.results = #[.tmp t, .tmp u, .tmp v]) (tmps : Array Value) (P : Program) (w : World) :
    (results fn tmps).run P w = .ok (.tuple #[tmps.getD t undef, tmps.getD u undef, tmps.getD v undef]) w := by
  simp [results, h]

/-- The bytes of bits, and how many. -/
def nby (x : Nat × Nat) : Nat := (x.2 + 7) / 8
def byts (x : Nat × Nat) : List Nat := big (nby x) (x.1 * 2 ^ (8 * nby x - x.2))
abbrev xw (T d : Int) (W : Nat) (f : Nat → Int) (j : Nat) : Nat × Nat := wrt T d W (cE T d W f) (wk0 T d) j
abbrev sw (T d : Int) (W : Nat) (f : Nat → Int) (j : Nat) : Wk := stp T d W (cE T d W f) (wk0 T d) j

set_option maxHeartbeats 8000000 in
set_option maxRecDepth 1000000 in
/-- A block that may be, coded. -/
theorem encode_mid (W H n sb so sc : Nat) (D T d : Int) (f : Nat → Int) (w : World) (hs : Smp w sb so n f) (hT : Tab w) (hz : szd (W : Int) (H : Int) = true) (hn : n = W * H) (hD : Dp D T) (d0 : 0 ≤ d) (d1 : d ≤ 63) (hf : ∀ i, 0 ≤ f i ∧ f i ≤ T)
    (hc : ∀ j, Enc T d W n f j → (nby (xw T d W f j) : Int) < (rsz W H D).1) :
    Calls Tryz.prog 92 #[.agg #[.int .i64 (W : Int), .int .i64 (H : Int), .slice (some ⟨sb, so, none⟩) n sc], .int .i64 D, .int .i64 d] w fun e w' => ∃ j g G, Enc T d W n f j ∧ e = .returned (.tuple #[.slice (some ⟨g, 0, none⟩) (nby (xw T d W f j)) (nby (xw T d W f j)), .slice (some ⟨G, 0, none⟩) n n, .int .i64 0]) ∧ w.heap.size ≤ g ∧ w.heap.size ≤ G ∧ w'.heap[g]? = some (.cells ((byts (xw T d W f j)).map byt).toArray 5 (0, 0)) ∧ Smp w' G 0 n (sw T d W f j).b ∧ Kept [] w w' := by
  have hb := szd_in hz
  have hcst : (W : Int) * H = (n : Int) := by rw [hn]; simp
  rw [hcst] at hb
  have hG := hD.gd d0 d1
  have HC := Hid.mk hc
  have HN := Hid.mk hn
  have Hf := Hid.mk hf
  obtain ⟨w1, hw1, k1, b1⟩ := three_new w (.int .i64 (W : Int)) (.int .i64 (H : Int)) (.slice (some ⟨sb, so, none⟩) n sc) 132
  obtain ⟨Q, hQ⟩ : ∃ Q, w.heap.size = Q := ⟨_, rfl⟩
  have hQw := hQ
  rw [hQ] at b1
  have C1 := Hid.mk (newm_any D T d hD w1 d0 d1)
  have HT := Hid.mk hT
  have HS := Hid.mk hs
  have K1 := Hid.mk k1
  have B1 := Hid.mk b1
  have C8 := Hid.mk (fun W' => rawSize_any (W : Int) (H : Int) D W')
  have er : (rsz (W : Int) (H : Int) D).2 = 0 := by
    unfold rsz
    rw [if_neg (by rcases hD with ⟨h, _⟩ | ⟨h, _⟩ <;> omega), if_pos hz]
  rw [er] at C8
  obtain ⟨R, hR⟩ : ∃ R, (rsz (W : Int) (H : Int) D).1 = R := ⟨_, rfl⟩
  rw [hR] at C8 HC
  have HZ := Hid.mk hz
  have HD := Hid.mk hD
  obtain ⟨z0, z1, z2⟩ := agg3' b1
  clear hc hn hf hT hs k1 b1 er hR hz hcst hD
  go_enter Tryz.func92, Tryz.ntmps92
  go_wp2_with (fail)
  refine C1.out.mono ?_
  rintro e w2 ⟨P, rfl, m2, hP, k2⟩
  have B2 := Hid.mk (k2.heap B1.out (by simp))
  obtain ⟨y0, y1, y2⟩ := agg3' B2.out
  have K2 := Hid.mk k2
  have M2 := Hid.mk m2
  have HP := Hid.mk hP
  have C2 := Hid.mk (mayBe_yes W H n sb so sc D T f w2 (HS.out.keep (K1.out.trans K2.out) (by simp)) HZ.out HN.out HD.out Hf.out)
  clear k2 m2 hP z0 z1 z2 C1
  go_wp2_with (fail)
  refine C2.out.mono ?_
  rintro e w3 ⟨rfl, k3⟩
  have B3 := Hid.mk (k3.heap B2.out (by simp))
  obtain ⟨z0, z1, z2⟩ := agg3' B3.out
  have K3 := Hid.mk (K2.out.trans k3)
  have M3 := Hid.mk (M2.out.keep k3 (by simp))
  have C3 := Hid.mk (fun W' (hk : Kept [] w3 W') => (newWalk_any P W H n D W' (by omega) (by omega) HN.out.symm).mono (R' := fun e w' => ∃ X G, e = .returned (.agg (wc W D P X G n 0 []).toArray) ∧ Hid (CoderAt w' X 0 ∧ w'.heap[G]? = some (.cells (List.replicate n (.int .u16 0)).toArray 93 (0, 0)) ∧ w1.heap.size ≤ X ∧ w1.heap.size ≤ G ∧ Kept [] w3 w') ∧ w'.cell? ⟨Q, 0, none⟩ = some (.int .i64 (W : Int)) ∧ w'.cell? ⟨Q, 1, none⟩ = some (.int .i64 (H : Int)) ∧ w'.cell? ⟨Q, 2, none⟩ = some (.slice (some ⟨sb, so, none⟩) n sc)) (by
    rintro e w' ⟨X, G, rfl, a1, a2, a3, a4, a5⟩
    have hk' := hk.trans a5
    have hsz := (K3.out.trans hk).size
    exact ⟨X, G, rfl, Hid.mk ⟨a1, a2, Nat.le_trans hsz a3, Nat.le_trans hsz a4, hk'⟩, agg3' (hk'.heap B3.out (by simp))⟩))
  have C4 := Hid.mk (fun W' (hk : Kept [] w3 W') X G => (newCoder_any sb so n sc P X G W d D W').mono (R' := fun e w' => ∃ B O, e = .returned (.pointer (some ⟨B, 0, none⟩)) ∧ Hid (w'.heap[B]? = some (.cells (wc W D P X G n 0 (cext sb so n sc d O)).toArray 173 (0, 0)) ∧ WriterAt w' O (.slice none 0 0) 0 0 ∧ w1.heap.size ≤ B ∧ w1.heap.size ≤ O ∧ Kept [] W' w' ∧ Kept [] w3 w') ∧ w'.cell? ⟨Q, 0, none⟩ = some (.int .i64 (W : Int)) ∧ w'.cell? ⟨Q, 1, none⟩ = some (.int .i64 (H : Int)) ∧ w'.cell? ⟨Q, 2, none⟩ = some (.slice (some ⟨sb, so, none⟩) n sc)) (by
    rintro e w' ⟨B, O, rfl, a1, a2, a3, a4, a5⟩
    have hk' := hk.trans a5
    have hsz := (K3.out.trans hk).size
    exact ⟨B, O, rfl, Hid.mk ⟨a1, a2, Nat.le_trans hsz a3, Nat.le_trans hsz a4, a5, hk'⟩, agg3' (hk'.heap B3.out (by simp))⟩))
  clear k3 y0 y1 y2 C2
  go_wp2_with (fail)
  go_region_held_law (fun w' => w'.cell? ⟨Q, 0, none⟩ = some (.int .i64 (W : Int)) ∧ w'.cell? ⟨Q, 1, none⟩ = some (.int .i64 (H : Int)) ∧ w'.cell? ⟨Q, 2, none⟩ = some (.slice (some ⟨sb, so, none⟩) n sc)) (first | exact ⟨z0, z1, z2⟩ | exact ⟨t0, t1, t2⟩ | exact ⟨r0, r1, r2⟩ | go_keep) (first | (go_at_call 110; refine (C3.out _ (by with_reducible exact (Kept.refl _ _).drew)).mono ?_; rintro e w4 ⟨X, G, rfl, R4, t0, t1, t2⟩) | (go_at_call 109; refine (C4.out _ R4.out.2.2.2.2 X G).mono ?_; rintro e w5 ⟨B, O, rfl, R5, r0, r1, r2⟩))
  obtain ⟨a1, a2, a3, a4, a5⟩ := R4.out
  obtain ⟨b1, b2, b3, b4, b5, b6⟩ := R5.out
  have h5 : Cm w1 B P X G O T d D W n sb so sc f w5 (wk0 T d) (0, 0) := by
    refine ⟨⟨b1, M3.out.keep b6 (by simp), a1.kept b5 (by simp), ⟨_, b5.heap a2 (by simp), by simp, fun i hi => ?_⟩, .inl rfl⟩, ⟨_, b2, fun g hg => by simp [Value.ownBlock] at hg⟩, K3.out.trans b6, HS.out.keep K1.out (by simp), HT.out.kept K1.out (by simp), b3, HP.out, a3, a4, b4⟩
    have : i < 0 := hi
    omega
  have C5 := Hid.mk (write_any w1 B P X G O T d D W H n sb so sc f w5 hG HD.out (by omega) (by omega) (by omega) HN.out Hf.out h5 b2)
  clear a1 a2 a3 a4 a5 b1 b2 b3 b4 b5 b6 h5 R4 R5 C3 C4 t0 t1 t2 r0 r1 r2 z0 z1 z2
  go_wp2_with (fail)
  refine C5.out.mono ?_
  rintro e w6 ⟨j, g, hE, h6, hg, rfl, hb6⟩
  have B6 := Hid.mk (h6.keep.heap B1.out (by simp))
  obtain ⟨z0, z1, z2⟩ := agg3' B6.out
  have hlt := HC.out j hE
  have H6 := Hid.mk h6
  have HB6 := Hid.mk hb6
  have HE := Hid.mk hE
  have Hg := Hid.mk hg
  have c4 := h6.wm.fact.c4
  have Hrow := Hid.mk (fun i (hi : i < n) => h6.wm.cel i (by rw [hE.fin]; exact hi))
  have nb : ((wrt T d W (cE T d W f) (wk0 T d) j).snd + 7) / 8 = nby (xw T d W f j) := rfl
  rw [nb] at HB6 ⊢
  obtain ⟨L, hL⟩ : ∃ L, nby (xw T d W f j) = L := ⟨_, rfl⟩
  rw [hL] at hlt HB6 ⊢
  have HL := Hid.mk hL
  clear h6 hb6 hE hg C5 nb hL
  go_wp2_with (fail)
  refine (C8.out _).mono ?_
  rintro e w7 ⟨rfl, hw7⟩
  obtain rfl := hw7.symm
  clear C8 hw7
  go_wp2
  go_quiet (fail)
  go_wp2
  (try simp only [Exit.inBlock, Exit.then]); refine bodyPost_ret (results_tmp3 rfl _ _ _) rfl ?_
  have hlo := H6.out.lo
  have hs1 := K1.out.size
  refine ⟨j, g, G, HE.out, ?_, by have := Hg.out; omega, by omega, ?_, fun i hi => ?_, (K1.out.trans H6.out.keep).drewN _⟩
  · rw [HL.out]; rfl
  · unfold byts
    rw [HL.out]
    exact ((Kept.refl [] w6).drewN _).heap HB6.out (by simp)
  · rw [cell_drewN, Nat.zero_add]; exact Hrow.out i hi
end Go.Proofs.YthhegomjipbdbaaGreatDoor

namespace Go.Proofs.YthhegomjipbdbaaGreatDoor
open Go.RowKit

/-- The bytes begin with these bits. -/
def Holds (l : List Nat) (x : Nat × Nat) : Prop := x.2 ≤ 8 * l.length ∧ nextN l 0 x.2 = x.1

theorem holds_ap {l : List Nat} {x : Nat × Nat} {w v : Nat} (h : Holds l (ap x w v)) (hv : v < 2 ^ w) : Holds l x ∧ x.2 + w ≤ 8 * l.length ∧ nextN l x.2 w = v := by
  obtain ⟨h1, h2⟩ := h
  have h1 : x.2 + w ≤ 8 * l.length := h1
  have h2 : nextN l 0 (x.2 + w) = x.1 * 2 ^ w + v := h2
  have j := nextN_join l 0 x.2 w (by omega)
  rw [Nat.zero_add] at j
  rw [h2] at j
  have b := nextN_lt l x.2 w
  have d1 := two_parts x.1 w v hv
  have d2 := two_parts (nextN l 0 x.2) w _ b
  rw [← j] at d2
  refine ⟨⟨by omega, ?_⟩, h1, ?_⟩
  · rw [← d2.1, d1.1]
  · rw [← d2.2, d1.2]

theorem rch_lt {T d : Int} {W n : Nat} {f : Nat → Int} {J j : Nat} (hW : 1 ≤ W) (hE : Enc T d W n f J) (h : (stp T d W (cE T d W f) (wk0 T d) j).t < n) : j < J := by
  rcases Nat.lt_or_ge j J with h1 | h1
  · exact h1
  · rcases Nat.eq_or_lt_of_le h1 with h2 | h2
    · subst h2; have := hE.fin; omega
    · have := stp_lt (T := T) (d := d) (s := wk0 T d) (cE T d W f) hW J j h2
      have := hE.fin; omega

theorem fit_q {T d : Int} (G : Gd T d) {W : Nat} {f : Nat → Int} {s : Wk} (h : s.In T) (hW : 1 ≤ W) (hf : ∀ i, 0 ≤ f i ∧ f i ≤ T) (least : Nat) (k : Nat) : gf (fld (cE T d W f s).2 - least) k < 2 ^ gw (fld (cE T d W f s).2 - least) k (wde T d) := by
  refine gf_lt _ _ _ (lt_wde G _ ?_)
  have := cE_q G (f := f) h hW hf
  omega
theorem holds_bit {T d : Int} (G : Gd T d) {W : Nat} {f : Nat → Int} {s : Wk} {x : Nat × Nat} {l : List Nat} (h : s.In T) (hW : 1 ≤ W) (hf : ∀ i, 0 ≤ f i ∧ f i ≤ T) (hh : Holds l (bit T d W s (cE T d W f s) x)) : Holds l x := by
  unfold bit at hh
  split at hh
  · split at hh
    · exact (holds_ap hh (rf_lt _ _ _)).1
    · exact (holds_ap (holds_ap hh (fit_q G h hW hf _ _)).1 (rf_lt _ _ _)).1
  · exact (holds_ap hh (fit_q G h hW hf _ _)).1
theorem holds_wrt {T d : Int} (G : Gd T d) {W : Nat} {f : Nat → Int} {l : List Nat} (hW : 1 ≤ W) (hf : ∀ i, 0 ≤ f i ∧ f i ≤ T) (j k : Nat) (h : Holds l (wrt T d W (cE T d W f) (wk0 T d) (j + k))) : Holds l (wrt T d W (cE T d W f) (wk0 T d) j) := by
  induction k with
  | zero => exact h
  | succ k ih => exact ih (holds_bit G (stp_in G _ (wk0_in G) hW _) hW hf h)

end Go.Proofs.YthhegomjipbdbaaGreatDoor
