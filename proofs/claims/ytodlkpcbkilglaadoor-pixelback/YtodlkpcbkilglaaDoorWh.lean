import Derived.Test.YtodlkpcbkilglaaDoorRw
namespace Go.Proofs.YtodlkpcbkilglaaDoor
open Go.RowKit Go.Shelf

/-- The group of v210: the plane of its i-th sample, that one's number, and how many the plane has in a group. -/
def gP (i : Nat) : Nat := if i % 2 = 1 then 0 else if i % 4 = 0 then 1 else 2
def gN (i : Nat) : Nat := if i % 2 = 1 then i / 2 else i / 4
def gE (i : Nat) : Nat := if i % 2 = 1 then 6 else 3
/-- The table lies where it was laid. -/
def Tab (w : World) : Prop := ∀ i, i < 12 → w.cell? ⟨0, i * 3, none⟩ = some (.int .i64 (gP i : Int)) ∧ w.cell? ⟨0, i * 3 + 1, none⟩ = some (.int .i64 (gN i : Int)) ∧ w.cell? ⟨0, i * 3 + 2, none⟩ = some (.int .i64 (gE i : Int))
theorem Tab.keep {w w' : World} {ks : List Nat} (h : Tab w) (hk : Kept ks w w') (h0 : 0 ∉ ks) : Tab w' := fun i hi => by
  obtain ⟨a, b, c⟩ := h i hi
  exact ⟨cell_keep hk a h0, cell_keep hk b h0, cell_keep hk c h0⟩

set_option maxHeartbeats 4000000 in
set_option maxRecDepth 1000000 in
theorem where_any (i : Nat) (w : World) (hT : Tab w) (hi : i ≤ 1000000) :
    Calls Tryd.prog 90 #[.int .i64 (i : Int)] w fun e w' => e = .returned (.tuple #[.int .i64 (gP (i % 12) : Int), .int .i64 ((i / 12 * gE (i % 12) + gN (i % 12) : Nat) : Int)]) ∧ Kept [] w w' := by
  have hm : i % 12 < 12 := Nat.mod_lt _ (by decide)
  obtain ⟨c0, c1, c2⟩ := hT _ hm
  have hg : gP (i % 12) ≤ 2 ∧ gN (i % 12) ≤ 5 ∧ gE (i % 12) ≤ 6 := by unfold gP gN gE; split <;> refine ⟨?_, ?_, ?_⟩ <;> first | omega | (split <;> omega)
  obtain ⟨p, ep⟩ : ∃ p, p = gP (i % 12) := ⟨_, rfl⟩
  obtain ⟨q, eq⟩ : ∃ q, q = gN (i % 12) := ⟨_, rfl⟩
  obtain ⟨r, er⟩ : ∃ r, r = gE (i % 12) := ⟨_, rfl⟩
  rw [← ep] at c0 hg ⊢
  rw [← eq] at c1 hg ⊢
  rw [← er] at c2 hg ⊢
  clear ep eq er hT
  obtain ⟨m, em⟩ : ∃ m, m = i % 12 := ⟨_, rfl⟩
  rw [← em] at hm c0 c1 c2
  have hm2 : (i : Int) % 12 = (m : Int) := by omega
  obtain ⟨d, ed⟩ : ∃ d, d = i / 12 := ⟨_, rfl⟩
  have hd : (i : Int) / 12 = (d : Int) := by omega
  have hdr : d * r ≤ 1000000 * 6 := Nat.mul_le_mul (by omega) hg.2.2
  have e2 : (d : Int) * (r : Int) = ((d * r : Nat) : Int) := by rw [Int.natCast_mul]
  have hwr : IntKind.i64.wrap ((i : Int) / 12 * (r : Int)) = ((d * r : Nat) : Int) := by rw [hd, e2]; exact wrap_i (by omega) (by omega)
  have hwr2 : IntKind.i64.wrap (((d * r : Nat) : Int) + (q : Int)) = ((d * r + q : Nat) : Int) := by rw [wrap_i (by omega) (by omega)]; omega
  rw [← ed]
  obtain ⟨z, ez⟩ : ∃ z, z = d * r := ⟨_, rfl⟩
  rw [← ez] at hwr hwr2 hdr ⊢
  clear hd e2 ed ez
  go_enter Tryd.func90, Tryd.ntmps90
  go_wp2
  rw [hm2]
  have hm3 : (m : Int) < 12 := by omega
  clear em hm2
  go_wp2
  go_quiet (fail)
  go_wp2
  go_ret2
  exact ⟨by rw [Int.natCast_add]; rfl, ((Kept.refl _ _).alloc _).drewN _⟩
end Go.Proofs.YtodlkpcbkilglaaDoor
