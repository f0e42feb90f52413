import Derived.Test.YtpjogodepionoaaOa
import Derived.Test.YtpjogodepionoaaOp
import Derived.Deep.Slices
namespace Go.Proofs.Ytpjogodepionoaa
open Go.ChangeShapes Go.WideShapes Go.ChangeAt Go.RowKit Go.Deep

theorem cells33 : Try.prog.cellsOf 33 = 8 := by kernel_rfl
theorem cells3 : Try.prog.cellsOf 3 = 1 := by kernel_rfl
theorem cells4 : Try.prog.cellsOf 4 = 1 := by kernel_rfl
theorem list8 {α : Type} {l : List α} (h : l.length = 8) : ∃ a b c d e f g x, l = [a, b, c, d, e, f, g, x] := by
  match l, h with
  | [a, b, c, d, e, f, g, x], _ => exact ⟨a, b, c, d, e, f, g, x, rfl⟩
theorem add_plain (b off i : Nat) : (⟨b, off, none⟩ : Addr).add i = ⟨b, off + i, none⟩ := by unfold Addr.add; split <;> simp_all

def IsEnt (W : World) (a : Addr) (i : Nat) (q : Ent) : Prop :=
  W.cell? (a.add (i * 8)) = some (.int .i64 q.kd) ∧ W.cell? (a.add (i * 8 + 1)) = some (.int .i64 q.k) ∧ W.cell? (a.add (i * 8 + 2)) = some (.int .i64 q.s) ∧ W.cell? (a.add (i * 8 + 3)) = some (.int .i64 q.a) ∧ W.cell? (a.add (i * 8 + 4)) = some (.int .i64 q.b) ∧ W.cell? (a.add (i * 8 + 5)) = some (.int .i64 q.c) ∧ W.cell? (a.add (i * 8 + 6)) = some (.int .i64 q.d) ∧ W.cell? (a.add (i * 8 + 7)) = some (.bool q.two) ∧ q.Ok

/-- One element. -/
theorem open_ent {H : Type} {enc : TypeId × Value → H} {W : World} {a : Addr} {i n : Nat} {cs : List Value} {d : DataW H} {pl : List MemPlace} (h1 : W.cells? 0 (a.add (i * 8)) 8 = some cs) (h2 : DataW.trod enc Try.prog W 0 (fun _ => true) true n 33 cs = some (d, pl)) :
    ∃ q, IsEnt W a i q := by
  obtain ⟨_, hlen, hcell⟩ := World.cells?_some h1
  obtain ⟨xs, k, _, hx, _, hxl, hfs⟩ := DataW.trod_struct Try.underlying33 h2
  obtain ⟨c0, c1, c2, c3, c4, c5, c6, c7, rfl⟩ := list8 hlen
  obtain ⟨y0, y1, y2, y3, y4, y5, y6, y7, rfl⟩ := list8 hxl
  have g0 := hfs 0 _ rfl
  have g1 := hfs 1 _ rfl
  have g2 := hfs 2 _ rfl
  have g3 := hfs 3 _ rfl
  have g4 := hfs 4 _ rfl
  have g5 := hfs 5 _ rfl
  have g6 := hfs 6 _ rfl
  have g7 := hfs 7 _ rfl
  simp [cells4, cells3] at g0 g1 g2 g3 g4 g5 g6 g7
  have e0 := hcell 0 (by omega)
  have e1 := hcell 1 (by omega)
  have e2 := hcell 2 (by omega)
  have e3 := hcell 3 (by omega)
  have e4 := hcell 4 (by omega)
  have e5 := hcell 5 (by omega)
  have e6 := hcell 6 (by omega)
  have e7 := hcell 7 (by omega)
  rw [add_add] at e0 e1 e2 e3 e4 e5 e6 e7
  simp at e0 e1 e2 e3 e4 e5 e6 e7
  obtain ⟨z0, q0, _, w0⟩ := DataW.trod_int Try.underlying3 g0
  obtain ⟨z1, q1, _, w1⟩ := DataW.trod_int Try.underlying3 g1
  obtain ⟨z2, q2, _, w2⟩ := DataW.trod_int Try.underlying3 g2
  obtain ⟨z3, q3, _, w3⟩ := DataW.trod_int Try.underlying3 g3
  obtain ⟨z4, q4, _, w4⟩ := DataW.trod_int Try.underlying3 g4
  obtain ⟨z5, q5, _, w5⟩ := DataW.trod_int Try.underlying3 g5
  obtain ⟨z6, q6, _, w6⟩ := DataW.trod_int Try.underlying3 g6
  obtain ⟨z7, q7, _⟩ := DataW.trod_bool Try.underlying4 g7
  simp at q0 q1 q2 q3 q4 q5 q6 q7
  subst q0 q1 q2 q3 q4 q5 q6 q7
  exact ⟨⟨z0, z1, z2, z3, z4, z5, z6, z7⟩, e0, e1, e2, e3, e4, e5, e6, e7, ⟨bounds_i64 w0, bounds_i64 w1, bounds_i64 w2, bounds_i64 w3, bounds_i64 w4, bounds_i64 w5, bounds_i64 w6⟩⟩

/-- A script that came in. -/
theorem open_ops {H : Type} {enc : TypeId × Value → H} {W : World} {r : Reach} {b0 : Nat} {v : Value} {d : DataW H} {p : List MemPlace} (hv : Value.okWide Try.prog W r b0 24 v) (h : DataW.Trod enc Try.prog W 0 (fun _ => true) true 24 v d p) :
    ∃ sa N cap f, v = .slice sa N cap ∧ Ops W sa N f := by
  obtain ⟨a0, len0, cap0, rfl⟩ := okWide_slice Try.underlying24 hv
  obtain ⟨fuel, hf⟩ := h
  rcases open_slice Try.underlying24 hf with ⟨hcs, _⟩ | ⟨a, len, cap, m, n, D, Pl, hcs, _, hl, hm, hmm, hx, hc⟩
  · simp [Value.cells] at hcs
    obtain ⟨rfl, rfl, rfl⟩ := hcs
    exact ⟨none, 0, 0, fun _ => ⟨0, 0, 0, 0, 0, 0, 0, false⟩, rfl, by omega, fun i hi => by omega, fun h => by omega⟩
  · simp [Value.cells] at hcs
    obtain ⟨rfl, rfl, rfl⟩ := hcs
    simp only [if_true] at hmm
    rw [hmm] at hc
    have each : ∀ i, i < len0 → ∃ q, IsEnt W a i q := fun i hi => by
      obtain ⟨cs', h1, h2⟩ := hc i (by omega)
      rw [cells33] at h1
      exact open_ent h1 h2
    obtain ⟨f, hf2⟩ := @choose_lt Ent ⟨⟨0, 0, 0, 0, 0, 0, 0, false⟩⟩ _ _ each
    obtain ⟨b, off, spot⟩ := a
    refine ⟨_, _, _, f, rfl, by unfold maxLen at hm; omega, fun i hi => (hf2 i hi).2.2.2.2.2.2.2.2, fun h => ?_⟩
    have hspot : spot = none := by simpa [Addr.add] using World.cell?_spot (hf2 0 h).1
    subst hspot
    refine ⟨b, off, rfl, fun i hi => ?_⟩
    obtain ⟨e0, e1, e2, e3, e4, e5, e6, e7, _⟩ := hf2 i hi
    rw [add_plain] at e0 e1 e2 e3 e4 e5 e6 e7
    exact ⟨e0, e1, e2, e3, e4, e5, e6, e7⟩
end Go.Proofs.Ytpjogodepionoaa
