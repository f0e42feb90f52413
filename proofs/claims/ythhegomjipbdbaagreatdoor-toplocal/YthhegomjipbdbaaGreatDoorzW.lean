import Derived.Test.YthhegomjipbdbaaGreatDoorzUZ
import Derived.Test.YthhegomjipbdbaaGreatDoorqH
namespace Go.Proofs.YthhegomjipbdbaaGreatDoor.Pc
open Go.ChangeShapes Go.WideShapes Go.ChangeAt Go.RowKit Go.Deep

theorem cellsLike : Tryz.prog.cellsOf 47 = 17 := by kernel_rfl
theorem arr17 {α : Type} {a : Array α} (h : a.size = 17) : ∃ x0 x1 x2 x3 x4 x5 x6 x7 x8 x9 x10 x11 x12 x13 x14 x15 x16, a = #[x0, x1, x2, x3, x4, x5, x6, x7, x8, x9, x10, x11, x12, x13, x14, x15, x16] := by
  obtain ⟨l⟩ := a
  match l, h with
  | [x0, x1, x2, x3, x4, x5, x6, x7, x8, x9, x10, x11, x12, x13, x14, x15, x16], _ => exact ⟨x0, x1, x2, x3, x4, x5, x6, x7, x8, x9, x10, x11, x12, x13, x14, x15, x16, rfl⟩
set_option maxRecDepth 100000 in
/-- A frame within a struct that came in. -/
theorem o_frameL {H : Type} {enc : TypeId × Value → H} {W : World} {fuel : Nat} {x0 x1 x2 x3 x4 : Value} {y : DataW H × List MemPlace} (h : DataW.trod enc Tryz.prog W 0 (fun _ => true) true fuel 42 [x0, x1, x2, x3, x4] = some y) :
    ∃ a b c x po n k ln F, (x0 = .int .i64 a ∧ x1 = .int .i64 b ∧ x2 = .int .i64 c ∧ x3 = .bool x ∧ x4 = .slice po n k) ∧ Plc W po n ln F ∧ (∀ i, i < n → ∀ j, j < ln i → F i j < 65536) ∧ n ≤ 9223372036854775807 ∧ (∀ i, i < n → ln i ≤ 9223372036854775807) := by
  obtain ⟨y0, y1, m, _, _, h0, h1⟩ := trod_struct2 Tryz.underlying42 h
  simp only [cellsShape, cellsPlanes] at h0 h1
  obtain ⟨z0, z1, z2, z3, m2, _, _, t0, t1, t2, t3⟩ := Joins.trod_struct4 Tryz.underlying23 h0
  simp only [cellsInt, cellsBool] at t0 t1 t2 t3
  obtain ⟨a, rfl, _⟩ := o_int t0
  obtain ⟨b, rfl, _⟩ := o_int t1
  obtain ⟨c, rfl, _⟩ := o_int t2
  obtain ⟨x, rfl⟩ := o_bool t3
  obtain ⟨po, n, k, ln, F, rfl, g1, g2, g3, g4⟩ := o_planes h1
  exact ⟨a, b, c, x, po, n, k, ln, F, ⟨rfl, rfl, rfl, rfl, rfl⟩, g1, g2, g3, g4⟩
set_option maxRecDepth 100000 in
/-- A configuration within a struct that came in. -/
theorem o_configL {H : Type} {enc : TypeId × Value → H} {W : World} {fuel : Nat} {x0 x1 x2 x3 x4 : Value} {y : DataW H × List MemPlace} (h : DataW.trod enc Tryz.prog W 0 (fun _ => true) true fuel 45 [x0, x1, x2, x3, x4] = some y) :
    ∃ sw sh lo n c L cap pa, (x0 = .int .i64 sw ∧ x1 = .int .i64 sh ∧ x2 = .slice lo n c ∧ x3 = .int .i64 cap ∧ x4 = .int .i64 pa) ∧ Ldr W lo n L ∧ n ≤ 9223372036854775807 := by
  obtain ⟨y0, y1, y2, y3, y4, m, _, h0, h1, h2, h3, h4⟩ := t_struct5 Tryz.underlying45 h
  simp only [cellsInt, cellsLadder] at h0 h1 h2 h3 h4
  obtain ⟨a, rfl, wa⟩ := o_int h0
  obtain ⟨b, rfl, wb⟩ := o_int h1
  obtain ⟨lo, n, c, L, rfl, hL, hn⟩ := o_ladder h2
  obtain ⟨x, rfl, wx⟩ := o_int h3
  obtain ⟨y, rfl, wy⟩ := o_int h4
  exact ⟨a, b, lo, n, c, L, x, y, ⟨rfl, rfl, rfl, rfl, rfl⟩, hL, hn⟩
set_option maxRecDepth 100000 in
/-- A likeness that came in. -/
theorem o_like {H : Type} {enc : TypeId × Value → H} {W : World} {r : Reach} {b0 : Nat} {v : Value} {d : DataW H} {p : List MemPlace} (hv : Value.okWide Tryz.prog W r b0 47 v) (h : DataW.Trod enc Tryz.prog W 0 (fun _ => true) true 47 v d p) :
    ∃ W1 H1 D1 A1 po m c1 ln F W2 H2 D2 A2 qo m2 c2 ln2 G sw sh lo n c L cap pa K S, v = .agg #[.int .i64 W1, .int .i64 H1, .int .i64 D1, .bool A1, .slice po m c1, .int .i64 W2, .int .i64 H2, .int .i64 D2, .bool A2, .slice qo m2 c2, .int .i64 sw, .int .i64 sh, .slice lo n c, .int .i64 cap, .int .i64 pa, .int .i64 K, .int .i64 S] ∧
      (Plc W po m ln F ∧ m ≤ 9223372036854775807 ∧ (∀ i, i < m → ln i ≤ 9223372036854775807) ∧ ∀ i, i < m → ∀ j, j < ln i → F i j < 65536) ∧ (Plc W qo m2 ln2 G ∧ m2 ≤ 9223372036854775807 ∧ (∀ i, i < m2 → ln2 i ≤ 9223372036854775807) ∧ ∀ i, i < m2 → ∀ j, j < ln2 i → G i j < 65536) ∧
      (Ldr W lo n L ∧ n ≤ 9223372036854775807) ∧ (-9223372036854775808 ≤ K ∧ K ≤ 9223372036854775807) ∧ (-9223372036854775808 ≤ S ∧ S ≤ 9223372036854775807) := by
  obtain ⟨cs, rfl, hsz⟩ := okWide_struct Tryz.underlying47 hv
  obtain ⟨x0, x1, x2, x3, x4, x5, x6, x7, x8, x9, x10, x11, x12, x13, x14, x15, x16, rfl⟩ := arr17 (hsz.trans cellsLike)
  obtain ⟨fuel, hf⟩ := h
  obtain ⟨y0, y1, y2, y3, y4, m, _, h0, h1, h2, h3, h4⟩ := t_struct5 Tryz.underlying47 hf
  simp only [Value.cells, cellsInt, cellsFrame, cellsConfig] at h0 h1 h2 h3 h4
  obtain ⟨W1, H1, D1, A1, po, m1, c1, ln, F, ⟨rfl, rfl, rfl, rfl, rfl⟩, g1, g2, g3, g4⟩ := o_frameL h0
  obtain ⟨W2, H2, D2, A2, qo, m2, c2, ln2, G, ⟨rfl, rfl, rfl, rfl, rfl⟩, k1, k2, k3, k4⟩ := o_frameL h1
  obtain ⟨sw, sh, lo, n, c, L, cap, pa, ⟨rfl, rfl, rfl, rfl, rfl⟩, hL, hn⟩ := o_configL h2
  obtain ⟨K, rfl, wK⟩ := o_int h3
  obtain ⟨S, rfl, wS⟩ := o_int h4
  exact ⟨W1, H1, D1, A1, po, m1, c1, ln, F, W2, H2, D2, A2, qo, m2, c2, ln2, G, sw, sh, lo, n, c, L, cap, pa, K, S, rfl, ⟨g1, g3, g4, g2⟩, ⟨k1, k3, k4, k2⟩, ⟨hL, hn⟩, wf_in wK, wf_in wS⟩
end Go.Proofs.YthhegomjipbdbaaGreatDoor.Pc
