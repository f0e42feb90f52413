import Derived.Test.YthhcihcgefeblabDoorAg
import Derived.Test.YthhcihcgefeblabDoorCd
import Derived.Deep.Slices
namespace Go.Proofs.YthhcihcgefeblabDoor.Cd
open Go.ChangeShapes Go.WideShapes Go.ChangeAt Go.RowKit Go.Deep

theorem cells35 : Tryd.prog.cellsOf 35 = 3 := by kernel_rfl
theorem bytes35 : Tryd.prog.bytesOf 35 = 24 := by kernel_rfl

theorem list3 {α : Type} {l : List α} (h : l.length = 3) : ∃ a b c, l = [a, b, c] := by
  match l, h with
  | [a, b, c], _ => exact ⟨a, b, c, rfl⟩

/-- A raw number. -/
structure Tri where
  v : Int
  k : Int
  w : Int

def IsTri (W : World) (a : Addr) (i : Nat) (q : Tri) : Prop :=
  W.cell? (a.add (i * 3)) = some (.int .i64 q.v) ∧ W.cell? (a.add (i * 3 + 1)) = some (.int .i64 q.k) ∧ W.cell? (a.add (i * 3 + 2)) = some (.int .i64 q.w) ∧
    (-9223372036854775808 ≤ q.v ∧ q.v ≤ 9223372036854775807) ∧ (-9223372036854775808 ≤ q.k ∧ q.k ≤ 9223372036854775807) ∧ (-9223372036854775808 ≤ q.w ∧ q.w ≤ 9223372036854775807)

theorem open_tri {H : Type} {enc : TypeId × Value → H} {W : World} {a : Addr} {i n : Nat} {cs : List Value} {d : DataW H} {pl : List MemPlace} (h1 : W.cells? 0 (a.add (i * 3)) 3 = some cs) (h2 : DataW.trod enc Tryd.prog W 0 (fun _ => true) true n 35 cs = some (d, pl)) :
    ∃ q, IsTri W a i q := by
  obtain ⟨_, hlen, hcell⟩ := World.cells?_some h1
  obtain ⟨xs, k, _, hx, _, hxl, hfs⟩ := DataW.trod_struct Tryd.underlying35 h2
  obtain ⟨c0, c1, c2, rfl⟩ := list3 hlen
  obtain ⟨y0, y1, y2, rfl⟩ := list3 hxl
  have g0 := hfs 0 _ rfl
  have g1 := hfs 1 _ rfl
  have g2 := hfs 2 _ rfl
  simp [cells3] at g0 g1 g2
  have e0 := hcell 0 (by omega)
  have e1 := hcell 1 (by omega)
  have e2 := hcell 2 (by omega)
  rw [add_add] at e0 e1 e2
  simp at e0 e1 e2
  obtain ⟨z0, q0, _, w0⟩ := DataW.trod_int Tryd.underlying3 g0
  obtain ⟨z1, q1, _, w1⟩ := DataW.trod_int Tryd.underlying3 g1
  obtain ⟨z2, q2, _, w2⟩ := DataW.trod_int Tryd.underlying3 g2
  simp at q0 q1 q2
  subst q0 q1 q2
  exact ⟨⟨z0, z1, z2⟩, e0, e1, e2, bounds_i64 w0, bounds_i64 w1, bounds_i64 w2⟩

/-- What a list of raw numbers that came in is. -/
theorem open_nums {H : Type} {enc : TypeId × Value → H} {W : World} {a0 : Option Addr} {len0 cap0 fuel : Nat} {d0 : DataW H} {p0 : List MemPlace} (hf : DataW.trod enc Tryd.prog W 0 (fun _ => true) true fuel 22 (Value.slice a0 len0 cap0).cells.toList = some (d0, p0)) :
    (∃ elems spare, d0 = .slice elems spare ∧ elems.length = len0 ∨ (d0 = .nil ∧ len0 = 0)) ∧ ∃ V K Wd : Nat → Int, (0 < len0 → ∃ b off, a0 = some ⟨b, off, none⟩ ∧ Nums W b off len0 V K Wd) ∧ (∀ i, i < len0 → -9223372036854775808 ≤ V i ∧ V i ≤ 9223372036854775807) ∧
      (∀ i, i < len0 → -9223372036854775808 ≤ K i ∧ K i ≤ 9223372036854775807) ∧ (∀ i, i < len0 → -9223372036854775808 ≤ Wd i ∧ Wd i ≤ 9223372036854775807) := by
  rcases open_slice Tryd.underlying22 hf with ⟨hcs, hd⟩ | ⟨a, len, cap, m, n, D, Pl, hcs, _, hl, hm, hmm, hx, hc⟩
  · simp [Value.cells] at hcs
    obtain ⟨rfl, rfl, rfl⟩ := hcs
    exact ⟨⟨[], [], .inr ⟨by simpa using congrArg Prod.fst hd, rfl⟩⟩, fun _ => 0, fun _ => 0, fun _ => 0, fun h => by omega, fun i h => by omega, fun i h => by omega, fun i h => by omega⟩
  · simp [Value.cells] at hcs
    obtain ⟨rfl, rfl, rfl⟩ := hcs
    simp only [if_true] at hmm
    rw [hmm] at hc hx
    have hd : d0 = .slice ((List.range len0).map D) ((List.range (cap0 - len0)).map fun j => D (len0 + j)) := congrArg Prod.fst hx
    have each : ∀ i, i < len0 → ∃ q, IsTri W a i q := fun i hi => by
      obtain ⟨cs', h1, h2⟩ := hc i (by omega)
      rw [cells35] at h1
      exact open_tri h1 h2
    obtain ⟨f, hf2⟩ := @choose_lt Tri ⟨⟨0, 0, 0⟩⟩ _ _ each
    refine ⟨⟨_, _, .inl ⟨hd, by simp⟩⟩, fun i => (f i).v, fun i => (f i).k, fun i => (f i).w, fun h => ?_, fun i hi => (hf2 i hi).2.2.2.1, fun i hi => (hf2 i hi).2.2.2.2.1, fun i hi => (hf2 i hi).2.2.2.2.2⟩
    obtain ⟨b, off, spot⟩ := a
    have hspot : spot = none := by simpa [Addr.add] using World.cell?_spot (hf2 0 h).1
    subst hspot
    refine ⟨b, off, rfl, fun i hi => ?_⟩
    obtain ⟨e0, e1, e2, _⟩ := hf2 i hi
    rw [add_plain] at e0 e1 e2
    exact ⟨e0, e1, e2⟩
end Go.Proofs.YthhcihcgefeblabDoor.Cd
