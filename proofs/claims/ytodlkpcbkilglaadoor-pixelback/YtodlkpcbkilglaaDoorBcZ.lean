import Derived.Test.YtodlkpcbkilglaaDoorPnZ
import Derived.Test.YtodlkpcbkilglaaDoorUv
namespace Go.Proofs.YtodlkpcbkilglaaDoor
open Go.RowKit Go.Shelf

/-- A byte of rows that lie one behind the other. -/
theorem ctN_at (rl : Nat → Nat) (rb : Nat → Nat → Nat) : ∀ q k t, k < q → t < rl k → (ctN rl rb q)[ctL rl k + t]? = some (rb k t) := by
  intro q
  induction q with
  | zero => intro k t h; omega
  | succ q ih =>
    intro k t hk ht
    rw [ctN]
    by_cases h : k < q
    · have h1 := ctL_mono rl (show k + 1 ≤ q from h)
      rw [ctL] at h1
      rw [List.getElem?_append_left (by rw [ctN_length]; omega)]
      exact ih k t h ht
    · obtain rfl : k = q := by omega
      rw [List.getElem?_append_right (by rw [ctN_length]; omega), ctN_length, show ctL rl k + t - ctL rl k = t by omega]
      simp [ht]
theorem ctN_lt (rl : Nat → Nat) (rb : Nat → Nat → Nat) (h : ∀ k t, rb k t < 256) : ∀ q, ∀ v ∈ ctN rl rb q, v < 256 := by
  intro q
  induction q with
  | zero => intro v hv; simp [ctN] at hv
  | succ q ih =>
    intro v hv
    rw [ctN] at hv
    rcases List.mem_append.1 hv with hv | hv
    · exact ih v hv
    · obtain ⟨t, _, rfl⟩ := List.mem_map.1 hv
      exact h q t
theorem plR_lt (W : Int) (h : Nat) (F : Nat → Nat → Nat) (k t : Nat) : plR W h F k t < 256 := by
  unfold plR plB
  exact Nat.mod_lt _ (by decide)
theorem v2R_lt (W : Int) (F : Nat → Nat → Nat) (k t : Nat) : v2R W F k t < 256 := by
  unfold v2R v2B
  exact Nat.mod_lt _ (by decide)
end Go.Proofs.YtodlkpcbkilglaaDoor

namespace Go.Proofs.YtodlkpcbkilglaaDoor
open Go.RowKit Go.Shelf

/-- A list of bytes of its own, cell by cell. -/
theorem own_cells {w : World} {G M c : Nat} {l : List Nat} (h : w.ownsRow 0 5 1 (.slice (some ⟨G, 0, none⟩) M c) M (l.map Bt.byt)) : l.length = M ∧ ∀ i, i < M → w.cell? ⟨G, 0 + i, none⟩ = some (.int .u8 ((l.getD i 0 : Nat) : Int)) := by
  obtain ⟨h1, h2⟩ := h
  have hl : l.length = M := by simpa using h1
  refine ⟨hl, fun i hi => ?_⟩
  rcases h2 with ⟨e, _⟩ | ⟨g, cap, cur, e, _, hg, _, _, hs, ht⟩
  · cases e
  · obtain rfl : G = g := by cases e; rfl
    rw [cell_of_row _ _ _ _ _ _ hg, Nat.zero_add]
    have hli : i < l.length := by omega
    have h3 : (cur.toList.take (M * 1))[i]? = (l.map Bt.byt)[i]? := by rw [ht]
    rw [List.getElem?_take_of_lt (by omega), List.getElem?_map, List.getElem?_eq_getElem hli] at h3
    rw [List.getD_eq_getElem?_getD, List.getElem?_eq_getElem hli]
    have h4 : cur[i]? = some (Bt.byt l[i]) := by simpa using h3
    exact h4
set_option maxHeartbeats 4000000 in
/-- UnpackPlanar of what PackPlanar wrote. -/
theorem back_planar (W D : Int) (A : Bool) (n h G M : Nat) (ln : Nat → Nat) (F : Nat → Nat → Nat) (w : World) (hV : Vld W (h : Int) D A n ln F) (hM : M = ctL (plL W h) (np A * h))
    (hown : w.ownsRow 0 5 1 (.slice (some ⟨G, 0, none⟩) M M) M ((ctN (plL W h) (plR W h F) (np A * h)).map Bt.byt)) :
    Calls Tryd.prog 32 #[shv W (h : Int) D A, .slice (some ⟨G, 0, none⟩) M M] w fun e w' => ∃ po, e = .returned (.tuple #[frv W (h : Int) D A po n n, .int .i64 0]) ∧ Pl w' po n ln F ∧ Kept [] w w' := by
  obtain ⟨hl, hc⟩ := own_cells hown
  refine (Unpack_of_planar W (h : Int) D A (some ⟨G, 0, none⟩) M M w (fun u x1 x2 x3 x4 po m k z w2 => x1 = W ∧ x2 = (h : Int) ∧ x3 = D ∧ x4 = A ∧ z = 0 ∧ m = n ∧ k = n ∧ ∃ g bs, po = some ⟨g, 0, none⟩ ∧ Mk u w2 g n n bs ln F) (fun u hk => ?_)).mono ?_
  · refine (unpack_planar W D A n h G 0 M ln F (fun i => (ctN (plL W h) (plR W h F) (np A * h)).getD i 0) u hV M hM (Nat.le_refl _) (fun i hi => cell_keep hk (hc i hi) (by simp)) (fun i hi => ?_) (fun k hk t ht => ?_)).mono ?_
    · show List.getD _ i 0 < 256
      have hli : i < (ctN (plL W h) (plR W h F) (np A * h)).length := by omega
      rw [List.getD_eq_getElem?_getD, List.getElem?_eq_getElem hli]
      exact ctN_lt _ _ (plR_lt W h F) _ _ (List.getElem_mem _)
    · show List.getD _ _ 0 = _
      rw [List.getD_eq_getElem?_getD, ctN_at _ _ _ k t hk ht]
      rfl
    · rintro e w' ⟨g, bs, rfl, hm⟩
      exact ⟨_, _, _, _, _, _, _, _, rfl, hm.kept, rfl, rfl, rfl, rfl, rfl, rfl, rfl, g, bs, rfl, hm⟩
  · rintro e w' ⟨u, x1, x2, x3, x4, po, m, k, z, w2, hku, hlt, rfl, hkw, hk2, rfl, rfl, rfl, rfl, rfl, rfl, rfl, g, bs, rfl, hm⟩
    refine ⟨_, rfl, ?_, hkw⟩
    refine .inr ⟨g, 0, rfl, fun i hi => ⟨_, _, by rw [Nat.zero_add]; exact cell_keep hk2 (hm.cell hi (Nat.le_refl _)) (by have := hm.new; simp; omega), ((hm.row i hi).keep hk2 (by have := hm.gt i hi; have := hm.new; simp; omega)).rd⟩⟩

set_option maxHeartbeats 4000000 in
/-- UnpackV210 of what PackV210 wrote. -/
theorem back_v210 (W D : Int) (A : Bool) (n h G M : Nat) (ln : Nat → Nat) (F : Nat → Nat → Nat) (w : World) (hV : Vld W (h : Int) D A n ln F) (hD : D = 10) (hA : A = false) (hT : Tab w) (hM : M = ctL (v2L W) (1 * h))
    (hown : w.ownsRow 0 5 1 (.slice (some ⟨G, 0, none⟩) M M) M ((ctN (v2L W) (v2R W F) (1 * h)).map Bt.byt)) :
    Calls Tryd.prog 33 #[shv W (h : Int) D A, .slice (some ⟨G, 0, none⟩) M M] w fun e w' => ∃ po, e = .returned (.tuple #[frv W (h : Int) D A po n n, .int .i64 0]) ∧ Pl w' po n ln F ∧ Kept [] w w' := by
  obtain ⟨hl, hc⟩ := own_cells hown
  refine (Unpack_of_v210 W (h : Int) D A (some ⟨G, 0, none⟩) M M w (fun u x1 x2 x3 x4 po m k z w2 => x1 = W ∧ x2 = (h : Int) ∧ x3 = D ∧ x4 = A ∧ z = 0 ∧ m = n ∧ k = n ∧ ∃ g bs, po = some ⟨g, 0, none⟩ ∧ Mk u w2 g n n bs ln F) (fun u hk => ?_)).mono ?_
  · refine (unpack_v210 W D A n h G 0 M ln F (fun i => (ctN (v2L W) (v2R W F) (1 * h)).getD i 0) u hV hD hA (hT.keep hk (by simp)) M hM (Nat.le_refl _) (fun i hi => cell_keep hk (hc i hi) (by simp)) (fun i hi => ?_) (fun k hk t ht => ?_)).mono ?_
    · show List.getD _ i 0 < 256
      have hli : i < (ctN (v2L W) (v2R W F) (1 * h)).length := by omega
      rw [List.getD_eq_getElem?_getD, List.getElem?_eq_getElem hli]
      exact ctN_lt _ _ (v2R_lt W F) _ _ (List.getElem_mem _)
    · show List.getD _ _ 0 = _
      rw [List.getD_eq_getElem?_getD, ctN_at _ _ _ k t hk ht]
      rfl
    · rintro e w' ⟨g, bs, rfl, hm⟩
      exact ⟨_, _, _, _, _, _, _, _, rfl, hm.kept, rfl, rfl, rfl, rfl, rfl, rfl, rfl, g, bs, rfl, hm⟩
  · rintro e w' ⟨u, x1, x2, x3, x4, po, m, k, z, w2, hku, hlt, rfl, hkw, hk2, rfl, rfl, rfl, rfl, rfl, rfl, rfl, g, bs, rfl, hm⟩
    refine ⟨_, rfl, ?_, hkw⟩
    refine .inr ⟨g, 0, rfl, fun i hi => ⟨_, _, by rw [Nat.zero_add]; exact cell_keep hk2 (hm.cell hi (Nat.le_refl _)) (by have := hm.new; simp; omega), ((hm.row i hi).keep hk2 (by have := hm.gt i hi; have := hm.new; simp; omega)).rd⟩⟩
end Go.Proofs.YtodlkpcbkilglaaDoor
