import Derived.Test.YtodlkpcbkilglaaDoorClZ
import Derived.Test.YtodlkpcbkilglaaDoorB2Z
import Derived.Laws.EntriesVeiled
namespace Go.Proofs.YtodlkpcbkilglaaDoor
open Go.RowKit Go.Shelf

theorem Tryd.info86 : (Tryd.prog.info? 86).map (fun i => (i.zero, i.size, i.bytes)) = some (some (.slice none 0 0), 1, 24) := by kernel_rfl
theorem Tryd.info65f : (Tryd.prog.info? 65).map (·.size) = some 5 := by kernel_rfl
/-- A format: its five functions. -/
@[reducible] def fnv (k : Nat) : Value := .func (.func k) #[] #[]
@[reducible] def fmv (a b c d e : Nat) : Value := .agg #[fnv a, fnv b, fnv c, fnv d, fnv e]

set_option maxHeartbeats 4000000 in
set_option maxRecDepth 1000000 in
theorem planar_any (w : World) : Calls Tryd.prog 35 #[] w fun e w' => e = .returned (fmv 58 59 60 61 62) ∧ Kept [] w w' := by
  go_enter Tryd.func35, Tryd.ntmps35
  go_wp2
  refine bodyPost_ret (v := fmv 58 59 60 61 62) ?_ rfl ⟨rfl, alloc_kept w _⟩
  exact results_cell_row rfl _ _ w.heap.size 65 _ (0, 0) _ rfl (heap_alloc_new w _) Tryd.underlying65 rfl Tryd.info65f

set_option maxHeartbeats 4000000 in
set_option maxRecDepth 1000000 in
theorem v210_any (w : World) : Calls Tryd.prog 38 #[] w fun e w' => e = .returned (fmv 66 67 68 69 70) ∧ Kept [] w w' := by
  go_enter Tryd.func38, Tryd.ntmps38
  go_wp2
  refine bodyPost_ret (v := fmv 66 67 68 69 70) ?_ rfl ⟨rfl, alloc_kept w _⟩
  exact results_cell_row rfl _ _ w.heap.size 65 _ (0, 0) _ rfl (heap_alloc_new w _) Tryd.underlying65 rfl Tryd.info65f

set_option maxHeartbeats 4000000 in
set_option maxRecDepth 1000000 in
theorem has58 (W H D : Int) (A : Bool) (w : World) : Calls Tryd.prog 58 #[shv W H D A] w fun e w' => e = .returned (.bool true) ∧ Kept [] w w' := by
  go_enter Tryd.func58, Tryd.ntmps58
  go_wp2
  go_ret
  exact ⟨rfl, alloc_kept _ _⟩

set_option maxHeartbeats 4000000 in
set_option maxRecDepth 1000000 in
theorem has66 (W H D : Int) (A : Bool) (w : World) : Calls Tryd.prog 66 #[shv W H D A] w fun e w' => e = .returned (.bool (decide (D = 10) && !A)) ∧ Kept [] w w' := by
  go_enter Tryd.func66, Tryd.ntmps66
  by_cases h : D = 10
  · cases A
    · go_wp2
      go_ret
      exact ⟨by simp [h], alloc_kept _ _⟩
    · go_wp2
      go_ret
      exact ⟨by simp [h], alloc_kept _ _⟩
  · cases A
    · go_wp2
      go_ret
      exact ⟨by simp [h], alloc_kept _ _⟩
    · go_wp2
      go_ret
      exact ⟨by simp [h], alloc_kept _ _⟩

set_option maxHeartbeats 4000000 in
set_option maxRecDepth 1000000 in
theorem byt60 (n : Nat) (w : World) (hn : n ≤ 4096) : Calls Tryd.prog 60 #[.int .i64 (n : Int)] w fun e w' => e = .returned (.int .i64 ((2 * n : Nat) : Int)) ∧ w' = w := by
  go_enter Tryd.func60, Tryd.ntmps60
  go_wp2
  go_ret
  exact ⟨by go_num, rfl⟩

set_option maxHeartbeats 4000000 in
set_option maxRecDepth 1000000 in
theorem byt68 (n : Nat) (w : World) (hn : n ≤ 4096) : Calls Tryd.prog 68 #[.int .i64 (n : Int)] w fun e w' => e = .returned (.int .i64 (((n + 47) / 48 * 128 : Nat) : Int)) ∧ w' = w := by
  go_enter Tryd.func68, Tryd.ntmps68
  go_wp2
  go_ret
  refine ⟨?_, rfl⟩
  have e : ((n : Int) + 48 - 1) / 48 * 128 = (((n + 47) / 48 * 128 : Nat) : Int) := by omega
  first | (rw [e]; done) | (rw [← e]; rfl)

/-- Lists of planes that have their rows together. -/
def Ns (w : World) (g n : Nat) (m : Nat → Nat) (S : Nat → Nat → Nat) : Prop := ∀ i, i < n → ∃ b c, w.cell? ⟨g, i, none⟩ = some (.slice (some ⟨b, 0, none⟩) (m i) c) ∧ ∀ j, j < m i → w.cell? ⟨b, j, none⟩ = some (.int .i64 (S i j : Int))
theorem Ns.keep {w w' : World} {g n : Nat} {m : Nat → Nat} {S : Nat → Nat → Nat} (h : Ns w g n m S) (hk : Kept [] w w') : Ns w' g n m S := fun i hi => by
  obtain ⟨b, c, h1, h2⟩ := h i hi
  exact ⟨b, c, cell_keep hk h1 (by simp), fun j hj => cell_keep hk (h2 j hj) (by simp)⟩
set_option maxHeartbeats 4000000 in
set_option maxRecDepth 1000000 in
theorem sets67 (W H D : Int) (A : Bool) (w : World) : Calls Tryd.prog 67 #[shv W H D A] w fun e w' => ∃ g c, e = .returned (.slice (some ⟨g, 0, none⟩) 1 c) ∧ Ns w' g 1 (fun _ => 3) (fun _ j => j) ∧ Kept [] w w' := by
  go_enter Tryd.func67, Tryd.ntmps67
  go_wp2
  go_ret
  refine ⟨_, _, rfl, fun i hi => ?_, ((alloc_kept _ _).trans (alloc_kept _ _)).trans (alloc_kept _ _)⟩
  obtain rfl : i = 0 := by omega
  refine ⟨w.heap.size + 1, 3, by go_simp, fun j (hj : j < 3) => ?_⟩
  rcases (by omega : j = 0 ∨ j = 1 ∨ j = 2) with rfl | rfl | rfl
  · show World.cell? _ _ = some (.int .i64 0)
    go_simp
  · show World.cell? _ _ = some (.int .i64 1)
    go_simp
  · show World.cell? _ _ = some (.int .i64 2)
    go_simp

set_option maxHeartbeats 4000000 in
set_option maxRecDepth 1000000 in
theorem sets59 (W H D : Int) (A : Bool) (w : World) : Calls Tryd.prog 59 #[shv W H D A] w fun e w' => ∃ g c, e = .returned (.slice (some ⟨g, 0, none⟩) (np A) c) ∧ Ns w' g (np A) (fun _ => 1) (fun i _ => i) ∧ Kept [] w w' := by
  go_enter Tryd.func59, Tryd.ntmps59
  cases A
  · go_wp2
    go_ret
    refine ⟨_, _, rfl, fun i hi => ?_, ((((alloc_kept _ _).trans (alloc_kept _ _)).trans (alloc_kept _ _)).trans (alloc_kept _ _)).trans (alloc_kept _ _)⟩
    have hi3 : i < 3 := hi
    rcases (by omega : i = 0 ∨ i = 1 ∨ i = 2) with rfl | rfl | rfl
    · refine ⟨w.heap.size + 1, 1, by go_simp, fun j (hj : j < 1) => ?_⟩
      obtain rfl : j = 0 := by omega
      show World.cell? _ _ = some (.int .i64 0)
      go_simp
    · refine ⟨w.heap.size + 1 + 1, 1, by go_simp, fun j (hj : j < 1) => ?_⟩
      obtain rfl : j = 0 := by omega
      show World.cell? _ _ = some (.int .i64 1)
      go_simp
    · refine ⟨w.heap.size + 1 + 1 + 1, 1, by go_simp, fun j (hj : j < 1) => ?_⟩
      obtain rfl : j = 0 := by omega
      show World.cell? _ _ = some (.int .i64 2)
      go_simp
  · obtain ⟨j0, gi, gz0, gz1, gz2⟩ := info_parts Tryd.info86
    obtain ⟨u, eu⟩ : ∃ u, u = (((w.alloc (.cells #[.int .i64 W, .int .i64 H, .int .i64 D, .bool true] 24)).alloc (.cells #[.int .i64 0] 3)).alloc (.cells #[.int .i64 1] 3)).alloc (.cells #[.int .i64 2] 3) := ⟨_, rfl⟩
    have hz : u.heap.size = w.heap.size + 4 := by rw [eu]; simp only [World.size_alloc]
    have ho : (u.alloc (.cells #[.slice (some ⟨w.heap.size + 1, 0, none⟩) 1 1, .slice (some ⟨w.heap.size + 1 + 1, 0, none⟩) 1 1, .slice (some ⟨w.heap.size + 1 + 1 + 1, 0, none⟩) 1 1] 86)).ownsRow w.heap.size 86 1 (.slice (some ⟨u.heap.size, 0, none⟩) 3 3) 3 [.slice (some ⟨w.heap.size + 1, 0, none⟩) 1 1, .slice (some ⟨w.heap.size + 1 + 1, 0, none⟩) 1 1, .slice (some ⟨w.heap.size + 1 + 1 + 1, 0, none⟩) 1 1] := World.ownsRow_lit u #[.slice (some ⟨w.heap.size + 1, 0, none⟩) 1 1, .slice (some ⟨w.heap.size + 1 + 1, 0, none⟩) 1 1, .slice (some ⟨w.heap.size + 1 + 1 + 1, 0, none⟩) 1 1] 3 (by omega) (by decide) rfl
    have ho2 := (ho.alloc (.cells #[.int .i64 3] 3)).alloc (.cells #[.slice (some ⟨w.heap.size + 1 + 1 + 1 + 1 + 1, 0, none⟩) 1 1] 86)
    rw [eu] at ho2
    simp only [World.size_alloc] at ho2
    have HO := Hid.mk ho2
    clear ho ho2 eu hz
    go_wp2_with (at_builtin; refine wpList_append_own_at _ rfl _ _ 85 rfl w.heap.size 86 j0 (.slice none 0 0) 1 24 Tryd.underlying85 gi gz0 gz1 gz2 rfl (by decide) _ 3 _ rfl HO.out ⟨w.heap.size + 1 + 1 + 1 + 1 + 1 + 1, 0, none⟩ 1 1 [.slice (some ⟨w.heap.size + 1 + 1 + 1 + 1 + 1, 0, none⟩) 1 1] rfl rfl ?c2 ?c3 ?c4 ?c5 ?c6 ?_)
    case c2 =>
      intro j x hj
      match j, hj with
      | 0, hj =>
        simp at hj
        subst hj
        show World.cell? _ ⟨w.heap.size + 1 + 1 + 1 + 1 + 1 + 1, 0 + 0, none⟩ = _
        go_simp
    case c3 => intro x hx; simp at hx; subst hx; rfl
    case c4 => decide
    case c5 => decide
    case c6 => simp only [World.size_alloc]; omega
    intro v' w' h2 h3 h4 _
    have hk6 := Kept.of_grown h3
    have d1 := cell_keep hk6 (g := w.heap.size + 1) (o := 0) (v := .int .i64 0) (by go_simp) (by simp [Value.ownBlock])
    have d2 := cell_keep hk6 (g := w.heap.size + 1 + 1) (o := 0) (v := .int .i64 1) (by go_simp) (by simp [Value.ownBlock])
    have d3 := cell_keep hk6 (g := w.heap.size + 1 + 1 + 1) (o := 0) (v := .int .i64 2) (by go_simp) (by simp [Value.ownBlock])
    have d5 := cell_keep hk6 (g := w.heap.size + 1 + 1 + 1 + 1 + 1) (o := 0) (v := .int .i64 3) (by go_simp) (by simp [Value.ownBlock])
    have hk : Kept [] w w' := (((((((alloc_kept w _).trans (alloc_kept _ _)).trans (alloc_kept _ _)).trans (alloc_kept _ _)).trans (alloc_kept _ _)).trans (alloc_kept _ _)).trans (alloc_kept _ _)).step hk6 (fun x hx => by simp [Value.ownBlock] at hx; subst hx; exact .inr (by omega))
    rcases h2.2 with ⟨e, h0⟩ | ⟨g1, cap, cur, e, hb, hg, hc, _, hcs, htk⟩
    · exact absurd e h4
    · subst e
      have cl : ∀ i x, ([.slice (some ⟨w.heap.size + 1, 0, none⟩) 1 1, .slice (some ⟨w.heap.size + 1 + 1, 0, none⟩) 1 1, .slice (some ⟨w.heap.size + 1 + 1 + 1, 0, none⟩) 1 1, .slice (some ⟨w.heap.size + 1 + 1 + 1 + 1 + 1, 0, none⟩) 1 1] : List Value)[i]? = some x → w'.cell? ⟨g1, i, none⟩ = some x := fun i x hx => by
        have hcc := h2.cells (g := g1) rfl i x hx
        rw [show (⟨g1, 0, none⟩ : Addr).add i = ⟨g1, 0 + i, none⟩ by unfold Addr.add; split <;> simp_all, Nat.zero_add] at hcc
        exact hcc
      have HN : Hid (Ns w' g1 (np true) (fun _ => 1) (fun i _ => i) ∧ Kept [] w w') := Hid.mk ⟨fun i (hi : i < 4) => by
        rcases (by omega : i = 0 ∨ i = 1 ∨ i = 2 ∨ i = 3) with rfl | rfl | rfl | rfl
        · exact ⟨_, _, cl 0 _ rfl, fun j (hj : j < 1) => by
            obtain rfl : j = 0 := by omega
            exact d1⟩
        · exact ⟨_, _, cl 1 _ rfl, fun j (hj : j < 1) => by
            obtain rfl : j = 0 := by omega
            exact d2⟩
        · exact ⟨_, _, cl 2 _ rfl, fun j (hj : j < 1) => by
            obtain rfl : j = 0 := by omega
            exact d3⟩
        · exact ⟨_, _, cl 3 _ rfl, fun j (hj : j < 1) => by
            obtain rfl : j = 0 := by omega
            exact d5⟩, hk⟩
      clear d1 d2 d3 d5 cl h2 h3 h4 hk hk6 hb hg hc hcs htk
      go_wp2
      go_ret
      exact ⟨g1, cap, rfl, HN.out⟩
end Go.Proofs.YtodlkpcbkilglaaDoor
