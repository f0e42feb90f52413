import Derived.Test.YtiojcfffhcipnaaLg
import Derived.Test.YtiojcfffhcipnaaOp
namespace Go.Proofs.Ytiojcfffhcipnaa
open Go.ChangeShapes Go.WideShapes Go.ChangeAt Go.RowKit Go.Deep

theorem cells67 : Try.prog.cellsOf 67 = 3 := by kernel_rfl
theorem bytes67 : Try.prog.bytesOf 67 = 24 := by kernel_rfl
def IsAsk (W : World) (a : Addr) (i : Nat) (q : Ask) : Prop :=
  W.cell? (a.add (i * 3)) = some (.int .i64 q.a) ∧ W.cell? (a.add (i * 3 + 1)) = some (.int .i64 q.n) ∧ W.cell? (a.add (i * 3 + 2)) = some (.bool q.p) ∧ b64 q.a ∧ b64 q.n

/-- One element. -/
theorem open_ask {H : Type} {enc : TypeId × Value → H} {W : World} {a : Addr} {i n : Nat} {cs : List Value} {d : DataW H} {pl : List MemPlace} (h1 : W.cells? 0 (a.add (i * 3)) 3 = some cs) (h2 : DataW.trod enc Try.prog W 0 (fun _ => true) true n 67 cs = some (d, pl)) :
    ∃ q, IsAsk W a i q := by
  obtain ⟨_, hlen, hcell⟩ := World.cells?_some h1
  obtain ⟨xs, k, _, hx, _, hxl, hfs⟩ := DataW.trod_struct Try.underlying67 h2
  obtain ⟨c0, c1, c2, rfl⟩ := list3 hlen
  obtain ⟨y0, y1, y2, rfl⟩ := list3 hxl
  have g0 := hfs 0 _ rfl
  have g1 := hfs 1 _ rfl
  have g2 := hfs 2 _ rfl
  simp [cellsI, cellsB] at g0 g1 g2
  have e0 := hcell 0 (by omega)
  have e1 := hcell 1 (by omega)
  have e2 := hcell 2 (by omega)
  rw [add_add] at e0 e1 e2
  simp at e0 e1 e2
  obtain ⟨z0, q0, _, w0⟩ := DataW.trod_int Try.underlying3 g0
  obtain ⟨z1, q1, _, w1⟩ := DataW.trod_int Try.underlying3 g1
  obtain ⟨z2, q2, _⟩ := DataW.trod_bool Try.underlying4 g2
  simp at q0 q1 q2
  subst q0 q1 q2
  exact ⟨⟨z0, z1, z2⟩, e0, e1, e2, bounds_i64 w0, bounds_i64 w1⟩

set_option maxRecDepth 100000 in
/-- Asks that came in. -/
theorem open_asks {H : Type} {enc : TypeId × Value → H} {W : World} {r : Reach} {b0 : Nat} {v : Value} {d : DataW H} {p : List MemPlace} (hv : Value.okWide Try.prog W r b0 65 v) (h : DataW.Trod enc Try.prog W 0 (fun _ => true) true 65 v d p) (hs : ∀ n ∈ d.weights Try.prog 65, n ≤ reachBytes) :
    ∃ sa N cap f, v = .slice sa N cap ∧ Asks W sa N f := by
  obtain ⟨a0, len0, cap0, rfl⟩ := okWide_slice Try.underlying65 hv
  obtain ⟨fuel, hf⟩ := h
  rcases open_slice Try.underlying65 hf with ⟨hcs, _⟩ | ⟨a, len, cap, m, n, D, Pl, hcs, _, hl, hm, hmm, hx, hc⟩
  · simp [Value.cells] at hcs
    obtain ⟨rfl, rfl, rfl⟩ := hcs
    exact ⟨none, 0, 0, fun _ => ⟨0, 0, false⟩, rfl, by omega, fun i hi => by omega, fun h => by omega⟩
  · simp [Value.cells] at hcs
    obtain ⟨rfl, rfl, rfl⟩ := hcs
    simp only [if_true] at hmm
    have hd : d = .slice ((List.range len0).map D) ((List.range (m - len0)).map fun j => D (len0 + j)) := congrArg Prod.fst hx
    rw [hd] at hs
    have h1 := hs ((((List.range len0).map D).length + ((List.range (m - len0)).map fun j => D (len0 + j)).length) * Try.prog.bytesOf 67) (by simp [DataW.weights, Try.underlying65])
    rw [bytes67] at h1
    simp only [List.length_map, List.length_range, reachBytes] at h1
    rw [hmm] at hc
    have each : ∀ i, i < len0 → ∃ q, IsAsk W a i q := fun i hi => by
      obtain ⟨cs', h1, h2⟩ := hc i (by omega)
      rw [cells67] at h1
      exact open_ask h1 h2
    obtain ⟨f, hf2⟩ := @choose_lt Ask ⟨⟨0, 0, false⟩⟩ _ _ each
    obtain ⟨b, off, spot⟩ := a
    refine ⟨_, _, _, f, rfl, by omega, fun i hi => ⟨(hf2 i hi).2.2.2.1, (hf2 i hi).2.2.2.2⟩, fun h => ?_⟩
    have hspot : spot = none := by simpa [Addr.add] using World.cell?_spot (hf2 0 h).1
    subst hspot
    refine ⟨b, off, rfl, fun i hi => ?_⟩
    obtain ⟨e0, e1, e2, _⟩ := hf2 i hi
    rw [addN] at e0 e1 e2
    exact ⟨e0, e1, e2⟩
end Go.Proofs.Ytiojcfffhcipnaa
