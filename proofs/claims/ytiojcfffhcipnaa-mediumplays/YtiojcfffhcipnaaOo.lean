import Derived.Test.YtiojcfffhcipnaaOp
namespace Go.Proofs.Ytiojcfffhcipnaa
open Go.ChangeShapes Go.WideShapes Go.ChangeAt Go.RowKit Go.Deep

/-- A step of a script. -/
structure Stp where
  kd : Int
  n : Int
  m : Int
  two : Bool
  ao : Option Addr
  mm : Nat
  cp : Nat
  l : List Nat
structure Stp.Ok (w : World) (q : Stp) : Prop where
  kd : -9223372036854775808 ≤ q.kd ∧ q.kd ≤ 9223372036854775807
  n : -9223372036854775808 ≤ q.n ∧ q.n ≤ 9223372036854775807
  m : -9223372036854775808 ≤ q.m ∧ q.m ≤ 9223372036854775807
  rd : Reads w q.ao q.l
  by_ : Byts q.l
  len : q.l.length = q.mm
  cap : q.mm ≤ q.cp
  non : q.ao = none → q.cp = 0
structure Stp.At (w : World) (b o : Nat) (q : Stp) : Prop where
  c0 : w.cell? ⟨b, o, none⟩ = some (.int .i64 q.kd)
  c1 : w.cell? ⟨b, o + 1, none⟩ = some (.int .i64 q.n)
  c2 : w.cell? ⟨b, o + 2, none⟩ = some (.int .i64 q.m)
  c3 : w.cell? ⟨b, o + 3, none⟩ = some (.bool q.two)
  c4 : w.cell? ⟨b, o + 4, none⟩ = some (.slice q.ao q.mm q.cp)
/-- A script that came in. -/
structure Scr (w : World) (sa : Option Addr) (N : Nat) (f : Nat → Stp) : Prop where
  len : N ≤ 2513169434843
  ok : ∀ i, i < N → Stp.Ok w (f i)
  lies : 0 < N → ∃ b off, sa = some ⟨b, off, none⟩ ∧ ∀ i, i < N → Stp.At w b (off + i * 5) (f i)

theorem cells43 : Try.prog.cellsOf 43 = 5 := by kernel_rfl
theorem bytes43 : Try.prog.bytesOf 43 = 56 := by kernel_rfl
theorem cellsR : Try.prog.cellsOf 29 = 1 := by kernel_rfl
theorem list5 {α : Type} {l : List α} (h : l.length = 5) : ∃ a b c d e, l = [a, b, c, d, e] := by
  match l, h with
  | [a, b, c, d, e], _ => exact ⟨a, b, c, d, e, rfl⟩
def IsStp (W : World) (a : Addr) (i : Nat) (q : Stp) : Prop :=
  W.cell? (a.add (i * 5)) = some (.int .i64 q.kd) ∧ W.cell? (a.add (i * 5 + 1)) = some (.int .i64 q.n) ∧ W.cell? (a.add (i * 5 + 2)) = some (.int .i64 q.m) ∧ W.cell? (a.add (i * 5 + 3)) = some (.bool q.two) ∧ W.cell? (a.add (i * 5 + 4)) = some (.slice q.ao q.mm q.cp) ∧ Stp.Ok W q

theorem ints_reads' {w : World} {x : Addr} {len cap : Nat} {zs : List Int} (hl : len ≤ cap) (hz : zs.length = cap) (hw : ∀ n ∈ zs, (Lit.int .u8 n).wf = true) (hc : ∀ i, i < zs.length → w.cell? (x.add i) = some (.int .u8 (zs.getD i 0))) :
    ∃ l, l.length = len ∧ Byts l ∧ Reads w (some x) l := by
  have hwf : ∀ n ∈ zs, 0 ≤ n ∧ n < 256 := fun n hn => by
    have := hw n hn
    simp [Lit.wf] at this
    have h1 : IntKind.u8.min = 0 := by decide
    have h2 : IntKind.u8.max = 255 := by decide
    omega
  refine ⟨(zs.take len).map Int.toNat, by simp; omega, ?_, ?_⟩
  · intro b hb
    simp only [List.mem_map] at hb
    obtain ⟨z, hz1, rfl⟩ := hb
    have := hwf z (List.mem_of_mem_take hz1)
    omega
  · by_cases h0 : len = 0
    · subst h0; exact .inl (by simp)
    · right
      obtain ⟨b, off, spot⟩ := x
      have hc0 := hc 0 (by omega)
      have hspot : spot = none := by simpa [Addr.add] using World.cell?_spot hc0
      subst hspot
      refine ⟨b, off, rfl, fun i hi => ?_⟩
      have hil : i < len := by simp at hi; omega
      have h1 := hc i (by omega)
      rw [addN] at h1
      rw [h1]
      have hiz : i < zs.length := by omega
      have := hwf zs[i] (List.getElem_mem hiz)
      simp [byt, hiz, hil]
      omega

set_option maxRecDepth 100000 in
/-- One element. -/
theorem open_stp {H : Type} {enc : TypeId × Value → H} {W : World} {a : Addr} {i n : Nat} {cs : List Value} {d : DataW H} {pl : List MemPlace} (h1 : W.cells? 0 (a.add (i * 5)) 5 = some cs) (h2 : DataW.trod enc Try.prog W 0 (fun _ => true) true n 43 cs = some (d, pl)) :
    ∃ q, IsStp W a i q := by
  obtain ⟨_, hlen, hcell⟩ := World.cells?_some h1
  obtain ⟨xs, k, _, hx, _, hxl, hfs⟩ := DataW.trod_struct Try.underlying43 h2
  obtain ⟨c0, c1, c2, c3, c4, rfl⟩ := list5 hlen
  obtain ⟨y0, y1, y2, y3, y4, rfl⟩ := list5 hxl
  have g0 := hfs 0 _ rfl
  have g1 := hfs 1 _ rfl
  have g2 := hfs 2 _ rfl
  have g3 := hfs 3 _ rfl
  have g4 := hfs 4 _ rfl
  simp [cellsI, cellsB, cellsR] at g0 g1 g2 g3 g4
  have e0 := hcell 0 (by omega)
  have e1 := hcell 1 (by omega)
  have e2 := hcell 2 (by omega)
  have e3 := hcell 3 (by omega)
  have e4 := hcell 4 (by omega)
  rw [add_add] at e0 e1 e2 e3 e4
  simp at e0 e1 e2 e3 e4
  obtain ⟨z0, q0, _, w0⟩ := DataW.trod_int Try.underlying3 g0
  obtain ⟨z1, q1, _, w1⟩ := DataW.trod_int Try.underlying3 g1
  obtain ⟨z2, q2, _, w2⟩ := DataW.trod_int Try.underlying3 g2
  obtain ⟨z3, q3, _⟩ := DataW.trod_bool Try.underlying4 g3
  simp at q0 q1 q2 q3
  subst q0 q1 q2 q3
  rcases open_ints Try.underlying29 Try.underlying5 cells8 g4 with ⟨hc, _⟩ | ⟨x, len, cap, zs, hc, _, hl, hm, hz, hy, hcl, hwz⟩
  · simp at hc
    subst hc
    exact ⟨⟨z0, z1, z2, z3, none, 0, 0, []⟩, e0, e1, e2, e3, e4, ⟨bounds_i64 w0, bounds_i64 w1, bounds_i64 w2, .inl rfl, by simp [Byts], rfl, Nat.le_refl _, fun _ => rfl⟩⟩
  · simp at hc
    subst hc
    simp only [if_true] at hz
    obtain ⟨l, hll, hb, hr⟩ := ints_reads' (w := W) (x := x) hl (by simpa using hz) hwz hcl
    exact ⟨⟨z0, z1, z2, z3, some x, len, cap, l⟩, e0, e1, e2, e3, e4, ⟨bounds_i64 w0, bounds_i64 w1, bounds_i64 w2, hr, hb, hll, hl, fun h => by cases h⟩⟩

set_option maxRecDepth 100000 in
/-- A script that came in. -/
theorem open_ops {H : Type} {enc : TypeId × Value → H} {W : World} {r : Reach} {b0 : Nat} {v : Value} {d : DataW H} {p : List MemPlace} (hv : Value.okWide Try.prog W r b0 22 v) (h : DataW.Trod enc Try.prog W 0 (fun _ => true) true 22 v d p) (hs : ∀ n ∈ d.weights Try.prog 22, n ≤ reachBytes) :
    ∃ sa N cap f, v = .slice sa N cap ∧ Scr W sa N f := by
  obtain ⟨a0, len0, cap0, rfl⟩ := okWide_slice Try.underlying22 hv
  obtain ⟨fuel, hf⟩ := h
  rcases open_slice Try.underlying22 hf with ⟨hcs, _⟩ | ⟨a, len, cap, m, n, D, Pl, hcs, _, hl, hm, hmm, hx, hc⟩
  · simp [Value.cells] at hcs
    obtain ⟨rfl, rfl, rfl⟩ := hcs
    exact ⟨none, 0, 0, fun _ => ⟨0, 0, 0, false, none, 0, 0, []⟩, rfl, by omega, fun i hi => by omega, fun h => by omega⟩
  · simp [Value.cells] at hcs
    obtain ⟨rfl, rfl, rfl⟩ := hcs
    simp only [if_true] at hmm
    have hd : d = .slice ((List.range len0).map D) ((List.range (m - len0)).map fun j => D (len0 + j)) := congrArg Prod.fst hx
    rw [hd] at hs
    have h1 := hs ((((List.range len0).map D).length + ((List.range (m - len0)).map fun j => D (len0 + j)).length) * Try.prog.bytesOf 43) (by simp [DataW.weights, Try.underlying22])
    rw [bytes43] at h1
    simp only [List.length_map, List.length_range, reachBytes] at h1
    rw [hmm] at hc
    have each : ∀ i, i < len0 → ∃ q, IsStp W a i q := fun i hi => by
      obtain ⟨cs', h1, h2⟩ := hc i (by omega)
      rw [cells43] at h1
      exact open_stp h1 h2
    obtain ⟨f, hf2⟩ := @choose_lt Stp ⟨⟨0, 0, 0, false, none, 0, 0, []⟩⟩ _ _ each
    obtain ⟨b, off, spot⟩ := a
    refine ⟨_, _, _, f, rfl, by omega, fun i hi => (hf2 i hi).2.2.2.2.2, fun h => ?_⟩
    have hspot : spot = none := by simpa [Addr.add] using World.cell?_spot (hf2 0 h).1
    subst hspot
    refine ⟨b, off, rfl, fun i hi => ?_⟩
    obtain ⟨e0, e1, e2, e3, e4, _⟩ := hf2 i hi
    rw [addN] at e0 e1 e2 e3 e4
    exact ⟨e0, e1, e2, e3, e4⟩
end Go.Proofs.Ytiojcfffhcipnaa
