import Derived.Test.YtahoeodpjdbdkaaDoorSj
import Derived.Test.YtahoeodpjdbdkaaDoormB4
import Derived.Test.YtahoeodpjdbdkaaDoormB5
namespace Go.Proofs.YtahoeodpjdbdkaaDoor
open Go.RowKit

theorem Tryd.info41 : (Tryd.prog.info? 41).map (fun i => (i.zero, i.size, i.bytes)) = some (some (.int .u16 0), 1, 2) := by kernel_rfl

/-- Making a list of samples, as an equation. -/
theorem make_smp (r : Nat) (m : Int) (hm : m = (r : Int)) (hr : r ≤ 1000000000) : ∃ mkW : World → World, (∀ w, Sem.run Tryd.prog (Instr.makeSlice 27 (.int .i64 m) (.int .i64 m)) w = .ok (.slice (some ⟨w.heap.size, 0, none⟩) r r) (mkW w)) ∧ ∀ w, (mkW w).heap[w.heap.size]? = some (.cells (List.replicate r (.int .u16 0)).toArray 41 (0, 0)) ∧ Kept [] w (mkW w) := by
  subst hm
  obtain ⟨j0, gi, gz0, gz1, gz2⟩ := info_parts Tryd.info41
  have h : ∀ w : World, ∃ w', Sem.run Tryd.prog (Instr.makeSlice 27 (.int .i64 (r : Int)) (.int .i64 (r : Int))) w = .ok (.slice (some ⟨w.heap.size, 0, none⟩) r r) w' ∧ w'.heap[w.heap.size]? = some (.cells (List.replicate r (.int .u16 0)).toArray 41 (0, 0)) ∧ Kept [] w w' := fun w => by
    obtain ⟨w', hrun, r1, r2⟩ := run_make_full (P := Tryd.prog) w 0 27 41 j0 (.int .u16 0) 1 Tryd.underlying27 gi gz0 gz1 .i64 .i64 r (by rw [gz2]; omega) (by unfold maxLen; omega) (by omega)
    have hr3 := row_heap r1 rfl
    rw [show (madeCells (Value.int .u16 0).cells (r * 1)).toList = List.replicate r (.int .u16 0) by rw [Nat.mul_one]; exact toList_madeCells_one _ _] at hr3
    exact ⟨w', hrun, hr3, (Kept.of_grown r2).mono (by simp)⟩
  obtain ⟨mkW, hm⟩ := Classical.axiomOfChoice h
  exact ⟨mkW, fun w => (hm w).1, fun w => (hm w).2⟩

theorem six_new (w : World) (l : List Value) (t : Nat) : ∃ w1, w.alloc (.cells l.toArray t (0, 0)) = w1 ∧ Kept [] w w1 ∧ w1.heap[w.heap.size]? = some (.cells l.toArray t (0, 0)) :=
  ⟨_, rfl, alloc_kept _ _, heap_alloc_new _ _⟩

theorem six_cells {w : World} {Q t : Nat} {a b c d e f : Value} (h : w.heap[Q]? = some (.cells [a, b, c, d, e, f].toArray t (0, 0))) : (w.cell? ⟨Q, 0, none⟩ = some a ∧ w.cell? ⟨Q, 1, none⟩ = some b ∧ w.cell? ⟨Q, 2, none⟩ = some c ∧ w.cell? ⟨Q, 3, none⟩ = some d ∧ w.cell? ⟨Q, 4, none⟩ = some e ∧ w.cell? ⟨Q, 5, none⟩ = some f) ∧ (w.frozen? ⟨Q, 0, none⟩ = false ∧ w.frozen? ⟨Q, 1, none⟩ = false ∧ w.frozen? ⟨Q, 2, none⟩ = false ∧ w.frozen? ⟨Q, 3, none⟩ = false ∧ w.frozen? ⟨Q, 4, none⟩ = false ∧ w.frozen? ⟨Q, 5, none⟩ = false) := by
  refine ⟨⟨?_, ?_, ?_, ?_, ?_, ?_⟩, ⟨?_, ?_, ?_, ?_, ?_, ?_⟩⟩ <;> simp [World.cell?, World.frozen?, h]

/-- The zero of a walk lies at Q. -/
abbrev z52 : List Value := [.int .i64 0, .int .i64 0, .pointer none, .pointer none, .slice none 0 0, .int .i64 0]

theorem nw_end {w wX : World} {Q W n X G P : Nat} {D : Int} (hk : Kept [] w wX) (hQl : w.heap.size ≤ Q) (hQ : wX.heap[Q]? = some (.cells z52.toArray 52 (0, 0))) (hX : CoderAt wX X 0) (hG : wX.heap[G]? = some (.cells (List.replicate n (.int .u16 0)).toArray 41 (0, 0))) (a : Value) (ha : a = .int .i64 (W : Int)) (b : Value) (hb : b = .int .i64 D) :
    ∃ wY, wY = ((((((wX.setCell ⟨Q, 0, none⟩ a).setCell ⟨Q, 1, none⟩ b).setCell ⟨Q, 2, none⟩ (.pointer (some ⟨P, 0, none⟩))).setCell ⟨Q, 3, none⟩ (.pointer (some ⟨X, 0, none⟩))).setCell ⟨Q, 4, none⟩ (.slice (some ⟨G, 0, none⟩) n n)).setCell ⟨Q, 5, none⟩ (.int .i64 0)) ∧
      wY.heap[Q]? = some (.cells (wc W D P X G n 0 []).toArray 52 (0, 0)) ∧ CoderAt wY X 0 ∧ wY.heap[G]? = some (.cells (List.replicate n (.int .u16 0)).toArray 41 (0, 0)) ∧ Kept [] w wY := by
  subst ha hb
  have k : Kept [Q] wX ((((((wX.setCell ⟨Q, 0, none⟩ (.int .i64 (W : Int))).setCell ⟨Q, 1, none⟩ (.int .i64 D)).setCell ⟨Q, 2, none⟩ (.pointer (some ⟨P, 0, none⟩))).setCell ⟨Q, 3, none⟩ (.pointer (some ⟨X, 0, none⟩))).setCell ⟨Q, 4, none⟩ (.slice (some ⟨G, 0, none⟩) n n)).setCell ⟨Q, 5, none⟩ (.int .i64 0)) :=
    ((((((Kept.refl [Q] wX).setCell (p := ⟨Q, 0, none⟩) (by simp) _).setCell (p := ⟨Q, 1, none⟩) (by simp) _).setCell (p := ⟨Q, 2, none⟩) (by simp) _).setCell (p := ⟨Q, 3, none⟩) (by simp) _).setCell (p := ⟨Q, 4, none⟩) (by simp) _).setCell (p := ⟨Q, 5, none⟩) (by simp) _
  refine ⟨_, rfl, ?_, hX.kept k (by simp; exact ne_ty hX.1 hQ (by decide)), k.heap hG (by simp; exact ne_ty hG hQ (by decide)), hk.step k (by simp; exact hQl)⟩
  rw [heap_setCell_at (heap_setCell_at (heap_setCell_at (heap_setCell_at (heap_setCell_at (heap_setCell_at hQ)))))]
  simp [wc, z52]

set_option maxHeartbeats 4000000 in
set_option maxRecDepth 1000000 in
theorem newWalk_any (P W h n : Nat) (D : Int) (w : World) (h1 : W ≤ 4096) (h2 : h ≤ 4096) (hn : W * h = n) :
    Calls Tryd.prog 21 #[.pointer (some ⟨P, 0, none⟩), .int .i64 (W : Int), .int .i64 (h : Int), .int .i64 D] w fun e w' => ∃ X G, e = .returned (.agg (wc W D P X G n 0 []).toArray) ∧ CoderAt w' X 0 ∧ w'.heap[G]? = some (.cells (List.replicate n (.int .u16 0)).toArray 41 (0, 0)) ∧ w.heap.size ≤ X ∧ w.heap.size ≤ G ∧ Kept [] w w' := by
  have hb : W * h ≤ 4096 * 4096 := Nat.mul_le_mul h1 h2
  have hcast : (W : Int) * h = (n : Int) := by rw [← hn]; simp
  have hwr : IntKind.i64.wrap ((W : Int) * h) = (n : Int) := by rw [hcast]; exact wrap_i (by omega) (by omega)
  obtain ⟨mkW, hmk, hmw⟩ := make_smp n (n : Int) rfl (by omega)
  have HMW := Hid.mk hmw
  have hmc : ∀ (u : World) (p o : Nat), p < u.heap.size → (mkW u).cell? ⟨p, o, none⟩ = u.cell? ⟨p, o, none⟩ := fun u p o hp => World.cell?_of_block (a := ⟨p, o, none⟩) ((hmw u).2.block p hp (by simp))
  have hmf : ∀ (u : World) (p o : Nat), p < u.heap.size → (mkW u).frozen? ⟨p, o, none⟩ = u.frozen? ⟨p, o, none⟩ := fun u p o hp => by
    have := (hmw u).2.block p hp (by simp)
    unfold World.frozen?
    simp only [this]
  obtain ⟨w1, hw1, k1, b1⟩ := six_new w z52 52
  obtain ⟨Q, hQ⟩ : ∃ Q, w.heap.size = Q := ⟨_, rfl⟩
  rw [hQ] at b1
  have C := Hid.mk (fun W' (hk : Kept [] w1 W') => (newRuns_any W').mono (R' := fun e w' => ∃ X : Nat, e = .returned (.pointer (some ⟨X, 0, none⟩)) ∧ Hid (X = W'.heap.size ∧ CoderAt w' X 0 ∧ Kept [] W' w' ∧ w'.heap[Q]? = some (.cells z52.toArray 52 (0, 0))) ∧ Q < w'.heap.size ∧ (w'.cell? ⟨Q, 0, none⟩ = some (.int .i64 0) ∧ w'.cell? ⟨Q, 1, none⟩ = some (.int .i64 0) ∧ w'.cell? ⟨Q, 2, none⟩ = some (.pointer none) ∧ w'.cell? ⟨Q, 3, none⟩ = some (.pointer none) ∧ w'.cell? ⟨Q, 4, none⟩ = some (.slice none 0 0) ∧ w'.cell? ⟨Q, 5, none⟩ = some (.int .i64 0)) ∧ (w'.frozen? ⟨Q, 0, none⟩ = false ∧ w'.frozen? ⟨Q, 1, none⟩ = false ∧ w'.frozen? ⟨Q, 2, none⟩ = false ∧ w'.frozen? ⟨Q, 3, none⟩ = false ∧ w'.frozen? ⟨Q, 4, none⟩ = false ∧ w'.frozen? ⟨Q, 5, none⟩ = false)) (by
    rintro e w' ⟨rfl, rfl⟩
    have hb' := (hk.trans (alloc_kept W' (.cells #[.int .i64 0] 92))).heap b1 (by simp)
    obtain ⟨x, y⟩ := six_cells hb'
    exact ⟨_, rfl, Hid.mk ⟨rfl, newRuns_at W', alloc_kept _ _, hb'⟩, lt_of_block hb', x, y⟩))
  have KM := Hid.mk ((Kept.refl [] w1).drew.trans (hmw w1.drew).2)
  have K1 := Hid.mk k1
  have B1 := Hid.mk b1
  have hlt := lt_of_block b1
  clear hmw b1 k1 hb hn hcast
  go_enter Tryd.func21, Tryd.ntmps21
  go_wp2
  go_region_with (first | (go_at_call 32; refine (C.out _ (by first | with_reducible exact (Kept.refl _ _).drew | exact KM.out)).mono ?_; rintro e w2 ⟨X, rfl, R2, hl2, ⟨y0, y1, y2, y3, y4, y5⟩, ⟨f0, f1, f2, f3, f4, f5⟩⟩))
  all_goals
    first
      | (obtain ⟨e1, hX, k2, b2⟩ := R2.out
         obtain ⟨g1, g2⟩ := HMW.out w1.drew
         have KX : Kept [] w w2 := K1.out.trans (KM.out.trans k2)
         have hl1 : w.heap.size ≤ w1.heap.size := K1.out.size
         have hX2 : w.heap.size ≤ X := by rw [e1]; exact (K1.out.trans KM.out).size
         obtain ⟨wY, eY, cY, xY, gY, kY⟩ := nw_end (Q := Q) (W := W) (n := n) (X := X) (G := w1.heap.size) (P := P) (D := D) KX (by omega) b2 hX (k2.heap g1 (by simp)) _ rfl _ rfl
         rw [← eY]
         clear eY y0 y1 y2 y3 y4 y5 f0 f1 f2 f3 f4 f5 C hmc hmf hmk
         go_wp2
         obtain ⟨⟨y0, y1, y2, y3, y4, y5⟩, -⟩ := six_cells cY
         refine bodyPost_ret (v := .agg (wc W D P X w1.heap.size n 0 []).toArray) (by simp [results, Tryd.results21, go_sem, y0, y1, y2, y3, y4, y5]) rfl ⟨X, w1.heap.size, rfl, xY, gY, hX2, hl1, kY⟩)
      | (obtain ⟨e1, hX, k2, b2⟩ := R2.out
         obtain ⟨g1, g2⟩ := HMW.out w2
         have KX : Kept [] w (mkW w2) := (K1.out.trans (k2.undrew)).trans g2
         have hl2 : w.heap.size ≤ w2.heap.size := (K1.out.trans (k2.undrew)).size
         have hX2 : w.heap.size ≤ X := by rw [e1]; exact K1.out.size
         obtain ⟨wY, eY, cY, xY, gY, kY⟩ := nw_end (Q := Q) (W := W) (n := n) (X := X) (G := w2.heap.size) (P := P) (D := D) KX (by omega) (g2.heap b2 (by simp)) (hX.kept g2 (by simp)) g1 _ rfl _ rfl
         rw [← eY]
         clear eY y0 y1 y2 y3 y4 y5 f0 f1 f2 f3 f4 f5 C hmc hmf hmk
         go_wp2
         obtain ⟨⟨y0, y1, y2, y3, y4, y5⟩, -⟩ := six_cells cY
         refine bodyPost_ret (v := .agg (wc W D P X w2.heap.size n 0 []).toArray) (by simp [results, Tryd.results21, go_sem, y0, y1, y2, y3, y4, y5]) rfl ⟨X, w2.heap.size, rfl, xY, gY, hX2, hl2, kY⟩)
end Go.Proofs.YtahoeodpjdbdkaaDoor
