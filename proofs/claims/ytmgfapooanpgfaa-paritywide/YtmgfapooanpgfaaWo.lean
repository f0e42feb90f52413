import Derived.Test.YtmgfapooanpgfaaWc
import Derived.Test.YtmgfapooanpgfaaOp
import Derived.Deep.Slices
namespace Go.Proofs.Ytmgfapooanpgfaa
open Go.ChangeShapes Go.WideShapes Go.ChangeAt Go.RowKit Go.Deep

theorem cells46 : Try.prog.cellsOf 46 = 2 := by kernel_rfl
theorem bytes46 : Try.prog.bytesOf 46 = 16 := by kernel_rfl
theorem cells3 : Try.prog.cellsOf 3 = 1 := by kernel_rfl
theorem list2 {α : Type} {l : List α} (h : l.length = 2) : ∃ a b, l = [a, b] := by
  match l, h with
  | [a, b], _ => exact ⟨a, b, rfl⟩
theorem add_plain (b off i : Nat) : (⟨b, off, none⟩ : Addr).add i = ⟨b, off + i, none⟩ := by unfold Addr.add; split <;> simp_all
def IsWide (W : World) (a : Addr) (i : Nat) (q : Int × Int) : Prop :=
  W.cell? (a.add (i * 2)) = some (.int .i64 q.1) ∧ W.cell? (a.add (i * 2 + 1)) = some (.int .i64 q.2) ∧ (-9223372036854775808 ≤ q.1 ∧ q.1 ≤ 9223372036854775807)
theorem open_wide {H : Type} {enc : TypeId × Value → H} {W : World} {a : Addr} {i n : Nat} {cs : List Value} {d : DataW H} {pl : List MemPlace} (h1 : W.cells? 0 (a.add (i * 2)) 2 = some cs) (h2 : DataW.trod enc Try.prog W 0 (fun _ => true) true n 46 cs = some (d, pl)) :
    ∃ q, IsWide W a i q := by
  obtain ⟨_, hlen, hcell⟩ := World.cells?_some h1
  obtain ⟨xs, k, _, hx, _, hxl, hfs⟩ := DataW.trod_struct Try.underlying46 h2
  obtain ⟨c0, c1, rfl⟩ := list2 hlen
  obtain ⟨y0, y1, rfl⟩ := list2 hxl
  have g0 := hfs 0 _ rfl
  have g1 := hfs 1 _ rfl
  simp [cells3] at g0 g1
  have e0 := hcell 0 (by omega)
  have e1 := hcell 1 (by omega)
  rw [add_add] at e0 e1
  simp at e0 e1
  obtain ⟨z0, q0, _, w0⟩ := DataW.trod_int Try.underlying3 g0
  obtain ⟨z1, q1, _, w1⟩ := DataW.trod_int Try.underlying3 g1
  simp at q0 q1
  subst q0 q1
  exact ⟨(z0, z1), e0, e1, bounds_i64 w0⟩
set_option maxRecDepth 100000 in
/-- Wide rows that came in. -/
theorem open_wides {H : Type} {enc : TypeId × Value → H} {W : World} {r : Reach} {b0 : Nat} {v : Value} {d : DataW H} {p : List MemPlace} (hv : Value.okWide Try.prog W r b0 44 v) (h : DataW.Trod enc Try.prog W 0 (fun _ => true) true 44 v d p) (hs : ∀ n ∈ d.weights Try.prog 44, n ≤ reachBytes) :
    ∃ sa N cap fm fs, v = .slice sa N cap ∧ Ws W sa N fm fs ∧ (∀ i, i < N → -9223372036854775808 ≤ fm i ∧ fm i ≤ 9223372036854775807) ∧ N ≤ 140737488355328 := by
  obtain ⟨a0, len0, cap0, rfl⟩ := okWide_slice Try.underlying44 hv
  obtain ⟨fuel, hf⟩ := h
  rcases open_slice Try.underlying44 hf with ⟨hcs, _⟩ | ⟨a, len, cap, m, n, D, Pl, hcs, _, hl, hm, hmm, hx, hc⟩
  · simp [Value.cells] at hcs
    obtain ⟨rfl, rfl, rfl⟩ := hcs
    exact ⟨none, 0, 0, fun _ => 0, fun _ => 0, rfl, .inl rfl, fun i hi => by omega, by omega⟩
  · simp [Value.cells] at hcs
    obtain ⟨rfl, rfl, rfl⟩ := hcs
    simp only [if_true] at hmm
    have hd : d = .slice ((List.range len0).map D) ((List.range (m - len0)).map fun j => D (len0 + j)) := congrArg Prod.fst hx
    rw [hd] at hs
    have h1 := hs ((((List.range len0).map D).length + ((List.range (m - len0)).map fun j => D (len0 + j)).length) * Try.prog.bytesOf 46) (by simp [DataW.weights, Try.underlying44])
    rw [bytes46] at h1
    simp only [List.length_map, List.length_range, reachBytes] at h1
    rw [hmm] at hc
    have each : ∀ i, i < len0 → ∃ q, IsWide W a i q := fun i hi => by
      obtain ⟨cs', h1, h2⟩ := hc i (by omega)
      rw [cells46] at h1
      exact open_wide h1 h2
    obtain ⟨f, hf2⟩ := @choose_lt (Int × Int) ⟨(0, 0)⟩ _ _ each
    obtain ⟨b, off, spot⟩ := a
    refine ⟨_, _, _, fun i => (f i).1, fun i => (f i).2, rfl, ?_, fun i hi => (hf2 i hi).2.2, by omega⟩
    by_cases h0 : len0 = 0
    · exact .inl h0
    · have hspot : spot = none := by simpa [Addr.add] using World.cell?_spot (hf2 0 (by omega)).1
      subst hspot
      refine .inr ⟨b, off, rfl, fun i hi => ?_⟩
      obtain ⟨e0, e1, _⟩ := hf2 i hi
      rw [add_plain] at e0 e1
      exact ⟨e0, e1⟩
end Go.Proofs.Ytmgfapooanpgfaa
