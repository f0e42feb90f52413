import Derived.Test.YtodlkpcbkilglaaDoorFm
namespace Go.Proofs.YtodlkpcbkilglaaDoor
open Go.RowKit Go.Shelf

/-- Lists of planes that have their rows together, in memory from B on. -/
def Nn (w : World) (B g n : Nat) (m : Nat → Nat) (S : Nat → Nat → Nat) : Prop := B ≤ g ∧ ∀ i, i < n → ∃ b c, B ≤ b ∧ w.cell? ⟨g, i, none⟩ = some (.slice (some ⟨b, 0, none⟩) (m i) c) ∧ ∀ j, j < m i → w.cell? ⟨b, j, none⟩ = some (.int .i64 (S i j : Int))
/-- The blocks from m on that lay in W lie so in W'. -/
structure Fu (m : Nat) (W W' : World) : Prop where
  size : W.heap.size ≤ W'.heap.size
  block : ∀ k, m ≤ k → k < W.heap.size → W'.heap[k]? = W.heap[k]?
theorem Fu.refl (m : Nat) (W : World) : Fu m W W := ⟨Nat.le_refl _, fun _ _ _ => rfl⟩
theorem Fu.trans {m : Nat} {a b c : World} (h : Fu m a b) (k : Fu m b c) : Fu m a c := ⟨Nat.le_trans h.size k.size, fun i h1 h2 => (k.block i h1 (Nat.lt_of_lt_of_le h2 h.size)).trans (h.block i h1 h2)⟩
theorem Kept.fu {ks : List Nat} {W W' : World} (h : Kept ks W W') {m : Nat} (hk : ∀ x ∈ ks, x < m) : Fu m W W' := ⟨h.size, fun k h1 h2 => h.block k h2 (fun hm => by have := hk k hm; omega)⟩
theorem Fu.putObj (W : World) {m l : Nat} (o : Obj) (hl : l < m) : Fu m W (W.putObj l o) := ⟨by rw [World.putObj_size]; exact Nat.le_refl _, fun k h1 h2 => World.putObj_heap_other (by omega)⟩
theorem Fu.cell {m : Nat} {W W' : World} (h : Fu m W W') {g o : Nat} {v : Value} (hc : W.cell? ⟨g, o, none⟩ = some v) (hg : m ≤ g) : W'.cell? ⟨g, o, none⟩ = some v := by
  have hl := World.block_lt_of_cell? W _ hc
  rw [World.cell?_of_block (h.block g hg hl)]
  exact hc
theorem Nn.fu {w w' : World} {B g n t : Nat} {m : Nat → Nat} {S : Nat → Nat → Nat} (h : Nn w B g n m S) (hf : Fu t w w') (ht : t ≤ B) : Nn w' B g n m S := by
  obtain ⟨hg, h⟩ := h
  refine ⟨hg, fun i hi => ?_⟩
  obtain ⟨b, c, h0, h1, h2⟩ := h i hi
  exact ⟨b, c, h0, hf.cell h1 (by omega), fun j hj => hf.cell (h2 j hj) (by omega)⟩

set_option maxHeartbeats 4000000 in
set_option maxRecDepth 1000000 in
theorem nsets67 (W H D : Int) (A : Bool) (w : World) : Calls Tryd.prog 67 #[shv W H D A] w fun e w' => ∃ g c, e = .returned (.slice (some ⟨g, 0, none⟩) 1 c) ∧ Nn w' w.heap.size g 1 (fun _ => 3) (fun _ j => j) ∧ Kept [] w w' := by
  go_enter Tryd.func67, Tryd.ntmps67
  go_wp2
  go_ret
  refine ⟨_, _, rfl, ⟨by omega, fun i hi => ?_⟩, ((alloc_kept _ _).trans (alloc_kept _ _)).trans (alloc_kept _ _)⟩
  obtain rfl : i = 0 := by omega
  refine ⟨w.heap.size + 1, 3, by omega, by go_simp, fun j (hj : j < 3) => ?_⟩
  rcases (by omega : j = 0 ∨ j = 1 ∨ j = 2) with rfl | rfl | rfl
  · show World.cell? _ _ = some (.int .i64 0)
    go_simp
  · show World.cell? _ _ = some (.int .i64 1)
    go_simp
  · show World.cell? _ _ = some (.int .i64 2)
    go_simp

set_option maxHeartbeats 4000000 in
set_option maxRecDepth 1000000 in
theorem nsets59 (W H D : Int) (A : Bool) (w : World) : Calls Tryd.prog 59 #[shv W H D A] w fun e w' => ∃ g c, e = .returned (.slice (some ⟨g, 0, none⟩) (np A) c) ∧ Nn w' w.heap.size g (np A) (fun _ => 1) (fun i _ => i) ∧ Kept [] w w' := by
  go_enter Tryd.func59, Tryd.ntmps59
  cases A
  · go_wp2
    go_ret
    refine ⟨_, _, rfl, ⟨by omega, fun i hi => ?_⟩, ((((alloc_kept _ _).trans (alloc_kept _ _)).trans (alloc_kept _ _)).trans (alloc_kept _ _)).trans (alloc_kept _ _)⟩
    have hi3 : i < 3 := hi
    rcases (by omega : i = 0 ∨ i = 1 ∨ i = 2) with rfl | rfl | rfl
    · refine ⟨w.heap.size + 1, 1, by omega, by go_simp, fun j (hj : j < 1) => ?_⟩
      obtain rfl : j = 0 := by omega
      show World.cell? _ _ = some (.int .i64 0)
      go_simp
    · refine ⟨w.heap.size + 1 + 1, 1, by omega, by go_simp, fun j (hj : j < 1) => ?_⟩
      obtain rfl : j = 0 := by omega
      show World.cell? _ _ = some (.int .i64 1)
      go_simp
    · refine ⟨w.heap.size + 1 + 1 + 1, 1, by omega, by go_simp, fun j (hj : j < 1) => ?_⟩
      obtain rfl : j = 0 := by omega
      show World.cell? _ _ = some (.int .i64 2)
      go_simp
  · obtain ⟨j0, gi, gz0, gz1, gz2⟩ := info_parts Tryd.info86
    obtain ⟨u, eu⟩ : ∃ u, u = (((w.alloc (.cells #[.int .i64 W, .int .i64 H, .int .i64 D, .bool true] 24)).alloc (.cells #[.int .i64 0] 3)).alloc (.cells #[.int .i64 1] 3)).alloc (.cells #[.int .i64 2] 3) := ⟨_, rfl⟩
    have hz : u.heap.size = w.heap.size + 4 := by rw [eu]; simp only [World.size_alloc]
    have ho : (u.alloc (.cells #[.slice (some ⟨w.heap.size + 1, 0, none⟩) 1 1, .slice (some ⟨w.heap.size + 1 + 1, 0, none⟩) 1 1, .slice (some ⟨w.heap.size + 1 + 1 + 1, 0, none⟩) 1 1] 86)).ownsRow w.heap.size 86 1 (.slice (some ⟨u.heap.size, 0, none⟩) 3 3) 3 [.slice (some ⟨w.heap.size + 1, 0, none⟩) 1 1, .slice (some ⟨w.heap.size + 1 + 1, 0, none⟩) 1 1, .slice (some ⟨w.heap.size + 1 + 1 + 1, 0, none⟩) 1 1] := World.ownsRow_lit u #[.slice (some ⟨w.heap.size + 1, 0, none⟩) 1 1, .slice (some ⟨w.heap.size + 1 + 1, 0, none⟩) 1 1, .slice (some ⟨w.heap.size + 1 + 1 + 1, 0, none⟩) 1 1] 3 (by omega) (by decide) rfl
    have ho2 := (ho.alloc (.cells #[.int .i64 3] 3)).alloc (.cells #[.slice (some ⟨w.heap.size + 1 + 1 + 1 + 1 + 1, 0, none⟩) 1 1] 86)
    rw [eu] at ho2
    simp only [World.size_alloc] at ho2
    have HO := Hid.mk ho2
    clear ho ho2 eu hz
    go_wp2_with (at_builtin; refine wpList_append_own_at _ rfl _ _ 85 rfl w.heap.size 86 j0 (.slice none 0 0) 1 24 Tryd.underlying85 gi gz0 gz1 gz2 rfl (by decide) _ 3 _ rfl HO.out ⟨w.heap.size + 1 + 1 + 1 + 1 + 1 + 1, 0, none⟩ 1 1 [.slice (some ⟨w.heap.size + 1 + 1 + 1 + 1 + 1, 0, none⟩) 1 1] rfl rfl ?c2 ?c3 ?c4 ?c5 ?c6 ?_)
    case c2 =>
      intro j x hj
      match j, hj with
      | 0, hj =>
        simp at hj
        subst hj
        show World.cell? _ ⟨w.heap.size + 1 + 1 + 1 + 1 + 1 + 1, 0 + 0, none⟩ = _
        go_simp
    case c3 => intro x hx; simp at hx; subst hx; rfl
    case c4 => decide
    case c5 => decide
    case c6 => simp only [World.size_alloc]; omega
    intro v' w' h2 h3 h4 _
    have hk6 := Kept.of_grown h3
    have d1 := cell_keep hk6 (g := w.heap.size + 1) (o := 0) (v := .int .i64 0) (by go_simp) (by simp [Value.ownBlock])
    have d2 := cell_keep hk6 (g := w.heap.size + 1 + 1) (o := 0) (v := .int .i64 1) (by go_simp) (by simp [Value.ownBlock])
    have d3 := cell_keep hk6 (g := w.heap.size + 1 + 1 + 1) (o := 0) (v := .int .i64 2) (by go_simp) (by simp [Value.ownBlock])
    have d5 := cell_keep hk6 (g := w.heap.size + 1 + 1 + 1 + 1 + 1) (o := 0) (v := .int .i64 3) (by go_simp) (by simp [Value.ownBlock])
    have hk : Kept [] w w' := (((((((alloc_kept w _).trans (alloc_kept _ _)).trans (alloc_kept _ _)).trans (alloc_kept _ _)).trans (alloc_kept _ _)).trans (alloc_kept _ _)).trans (alloc_kept _ _)).step hk6 (fun x hx => by simp [Value.ownBlock] at hx; subst hx; exact .inr (by omega))
    rcases h2.2 with ⟨e, h0⟩ | ⟨g1, cap, cur, e, hb, hg, hc, _, hcs, htk⟩
    · exact absurd e h4
    · subst e
      have cl : ∀ i x, ([.slice (some ⟨w.heap.size + 1, 0, none⟩) 1 1, .slice (some ⟨w.heap.size + 1 + 1, 0, none⟩) 1 1, .slice (some ⟨w.heap.size + 1 + 1 + 1, 0, none⟩) 1 1, .slice (some ⟨w.heap.size + 1 + 1 + 1 + 1 + 1, 0, none⟩) 1 1] : List Value)[i]? = some x → w'.cell? ⟨g1, i, none⟩ = some x := fun i x hx => by
        have hcc := h2.cells (g := g1) rfl i x hx
        rw [show (⟨g1, 0, none⟩ : Addr).add i = ⟨g1, 0 + i, none⟩ by unfold Addr.add; split <;> simp_all, Nat.zero_add] at hcc
        exact hcc
      have HN : Hid (Nn w' w.heap.size g1 (np true) (fun _ => 1) (fun i _ => i) ∧ Kept [] w w') := Hid.mk ⟨⟨hb, fun i (hi : i < 4) => by
        rcases (by omega : i = 0 ∨ i = 1 ∨ i = 2 ∨ i = 3) with rfl | rfl | rfl | rfl
        · exact ⟨_, _, by omega, cl 0 _ rfl, fun j (hj : j < 1) => by
            obtain rfl : j = 0 := by omega
            exact d1⟩
        · exact ⟨_, _, by omega, cl 1 _ rfl, fun j (hj : j < 1) => by
            obtain rfl : j = 0 := by omega
            exact d2⟩
        · exact ⟨_, _, by omega, cl 2 _ rfl, fun j (hj : j < 1) => by
            obtain rfl : j = 0 := by omega
            exact d3⟩
        · exact ⟨_, _, by omega, cl 3 _ rfl, fun j (hj : j < 1) => by
            obtain rfl : j = 0 := by omega
            exact d5⟩⟩, hk⟩
      clear d1 d2 d3 d5 cl h2 h3 h4 hk hk6 hb hg hc hcs htk
      go_wp2
      go_ret
      exact ⟨g1, cap, rfl, HN.out⟩
end Go.Proofs.YtodlkpcbkilglaaDoor
