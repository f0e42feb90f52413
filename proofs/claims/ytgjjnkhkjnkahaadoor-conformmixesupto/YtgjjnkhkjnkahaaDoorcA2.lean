import Derived.Test.YtgjjnkhkjnkahaaDoorcA1
namespace Go.Proofs.YtgjjnkhkjnkahaaDoor.Tc
open Go.RowKit

/-- A rate's numbers: the count, the speed's two, how many names are left out. -/
def rc (r : Int) : Int := if r = 1 then 24 else if r = 2 then 25 else if r = 5 then 50 else if r = 6 then 60 else if r = 7 then 60 else 30
def ra (r : Int) : Int := if r = 4 then 30000 else if r = 7 then 60000 else rc r
def rb (r : Int) : Int := if r = 4 then 1001 else if r = 7 then 1001 else 1
def rl (r : Int) : Int := if r = 4 then 2 else if r = 7 then 4 else 0
/-- It is a rate. -/
def Rt (r : Int) : Prop := 1 ≤ r ∧ r ≤ 7
theorem Rt.cs {r : Int} (h : Rt r) : r = 1 ∨ r = 2 ∨ r = 3 ∨ r = 4 ∨ r = 5 ∨ r = 6 ∨ r = 7 := by obtain ⟨h0, h1⟩ := h; omega
theorem Rt.pb {r : Int} (h : Rt r) : Pb (rc r) (ra r) (rb r) (rl r) := by
  rcases h.cs with rfl | rfl | rfl | rfl | rfl | rfl | rfl <;> exact ⟨by decide, by decide, by decide, by decide, by decide, by decide, by decide, by decide⟩
/-- The paces' table, block 0. -/
def Tb (w : World) : Prop := ∀ r : Nat, r < 7 → w.cell? ⟨2, r * 4, none⟩ = some (.int .i64 (rc (r + 1))) ∧ w.cell? ⟨2, r * 4 + 1, none⟩ = some (.int .i64 (ra (r + 1))) ∧ w.cell? ⟨2, r * 4 + 2, none⟩ = some (.int .i64 (rb (r + 1))) ∧ w.cell? ⟨2, r * 4 + 3, none⟩ = some (.int .i64 (rl (r + 1)))
theorem Tb.keep {w w' : World} (h : Tb w) (hk : Kept [] w w') : Tb w' := fun r hr => by
  obtain ⟨a, b, c, d⟩ := h r hr
  exact ⟨cell_keep hk a (by simp), cell_keep hk b (by simp), cell_keep hk c (by simp), cell_keep hk d (by simp)⟩
theorem Tb.pos {w : World} (h : Tb w) : 2 < w.heap.size := lt_of_cell (h 0 (by omega)).1

set_option maxHeartbeats 1000000 in
theorem paceOf_no (r : Int) (w : World) (h : r < 1 ∨ 7 < r) : Calls Tryd.prog 54 #[.int .i64 r] w fun e w' => e = .returned (.tuple #[pv 0 0 0 0, .int .i64 181]) ∧ Kept [] w w' := by
  rcases h with h | h
  · go_enter Tryd.func54, Tryd.ntmps54
    go_wp2
    exact bodyPost_ret (v := .tuple #[pv 0 0 0 0, .int .i64 181]) (by simp [results, Tryd.results54, go_sem]) rfl ⟨rfl, alloc_kept _ _⟩
  · have h' : ¬ r < 1 := by omega
    go_enter Tryd.func54, Tryd.ntmps54
    go_wp2
    exact bodyPost_ret (v := .tuple #[pv 0 0 0 0, .int .i64 181]) (by simp [results, Tryd.results54, go_sem]) rfl ⟨rfl, alloc_kept _ _⟩

set_option maxHeartbeats 4000000 in
theorem paceOf_yes (r : Int) (w : World) (h : Rt r) (hT : Tb w) : Calls Tryd.prog 54 #[.int .i64 r] w fun e w' => e = .returned (.tuple #[pv (rc r) (ra r) (rb r) (rl r), .int .i64 0]) ∧ Kept [] w w' := by
  have hp := hT.pos
  obtain ⟨k, hk, rfl⟩ : ∃ k : Nat, k < 7 ∧ r = k + 1 := ⟨(r - 1).toNat, by obtain ⟨h0, h1⟩ := h; omega, by obtain ⟨h0, h1⟩ := h; omega⟩
  obtain ⟨x0, x1, x2, x3⟩ := hT k hk
  clear h hT
  obtain ⟨c, hc⟩ : ∃ c, rc (k + 1) = c := ⟨_, rfl⟩
  obtain ⟨a, ha⟩ : ∃ c, ra (k + 1) = c := ⟨_, rfl⟩
  obtain ⟨b, hb⟩ : ∃ c, rb (k + 1) = c := ⟨_, rfl⟩
  obtain ⟨l, hl⟩ : ∃ c, rl (k + 1) = c := ⟨_, rfl⟩
  rw [hc] at x0 ⊢
  rw [ha] at x1 ⊢
  rw [hb] at x2 ⊢
  rw [hl] at x3 ⊢
  clear hc ha hb hl
  have f1 : ¬ (k : Int) + 1 < 1 := by omega
  have f2 : ¬ (7 : Int) < (k : Int) + 1 := by omega
  have f3 : wrap64 ((k : Int) + 1 - 1) = k := by unfold wrap64; omega
  have f4 : (k : Int) + 1 - 1 = k := by omega
  go_enter Tryd.func54, Tryd.ntmps54
  go_wp2
  exact bodyPost_ret (v := .tuple #[pv c a b l, .int .i64 0]) (by simp [results, Tryd.results54, go_sem]) rfl ⟨rfl, alloc_kept _ _⟩
end Go.Proofs.YtgjjnkhkjnkahaaDoor.Tc
