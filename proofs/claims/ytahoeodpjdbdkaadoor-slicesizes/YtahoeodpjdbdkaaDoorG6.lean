import Derived.Test.YtahoeodpjdbdkaaDoorG5
namespace Go.Proofs.YtahoeodpjdbdkaaDoor
open Go.RowKit

/-- The coder whose struct is block X has the rate r. -/
def CoderAt (w : World) (X r : Nat) : Prop := w.heap[X]? = some (.cells #[.int .i64 (r : Int)] 92 (0, 0)) ∧ r ≤ 22

/-- The table of widths lies in block 0. -/
def Tab (w : World) : Prop := ∀ i, i < 23 → w.cell? ⟨0, i, none⟩ = some (.int .i64 (J i : Int))

theorem Tab.pos {w : World} (h : Tab w) : 0 < w.heap.size := World.block_lt_of_cell? w _ (h 0 (by decide))
theorem Tab.kept {w w' : World} {ks : List Nat} (h : Tab w) (hk : Kept ks w w') (h0 : 0 ∉ ks) : Tab w' :=
  fun i hi => (World.cell?_of_block (a := ⟨0, i, none⟩) (hk.block 0 h.pos h0)).trans (h i hi)
theorem Tab.drewN {w : World} (h : Tab w) (q : Nat) : Tab (w.drewN q) := h.kept ((Kept.refl [] w).drewN q) (by simp)
theorem CoderAt.kept {w w' : World} {X r : Nat} {ks : List Nat} (h : CoderAt w X r) (hk : Kept ks w w') (h0 : X ∉ ks) : CoderAt w' X r := ⟨hk.heap h.1 h0, h.2⟩
theorem CoderAt.drewN {w : World} {X r : Nat} (h : CoderAt w X r) (q : Nat) : CoderAt (w.drewN q) X r := h.kept ((Kept.refl [] w).drewN q) (by simp)
theorem WriterAt.kept {w w' : World} {B N len : Nat} {V : Value} {ks : List Nat} (h : WriterAt w B V N len) (hk : Kept ks w w') (h0 : B ∉ ks) (h1 : ∀ g, V.ownBlock = some g → g ∉ ks) : WriterAt w' B V N len := ⟨hk.heap h.1 h0, hk.row h.2 h1⟩

theorem cells_one {w : World} {B : Nat} {a : Value} {t : TypeId} (h : w.heap[B]? = some (.cells #[a] t (0, 0))) : w.cell? ⟨B, 0, none⟩ = some a ∧ w.frozen? ⟨B, 0, none⟩ = false := by
  refine ⟨?_, ?_⟩ <;> simp [World.cell?, World.frozen?, h]

set_option maxHeartbeats 400000 in
theorem newRuns_any (w : World) :
    Calls Tryd.prog 32 #[] w fun e w' => e = .returned (.pointer (some ⟨w.heap.size, 0, none⟩)) ∧ w' = w.alloc (.cells #[.int .i64 0] 92) := by
  go_enter Tryd.func32, Tryd.ntmps32
  go_wp2
  go_ret
  exact ⟨rfl, rfl⟩

theorem newRuns_at (w : World) : CoderAt (w.alloc (.cells #[.int .i64 0] 92)) w.heap.size 0 := ⟨by rw [heap_alloc_new]; simp, by decide⟩

theorem stretch_le (r : Nat) : 2 ^ J r ≤ 4096 := by
  have hp : (2 : Nat) ^ J r ≤ 2 ^ 12 := Nat.pow_le_pow_right (by decide) (J_le r)
  exact hp

theorem wrap_stretch (r : Nat) : wrap64 (2 ^ J r) = ((2 ^ J r : Nat) : Int) := by
  have h := stretch_le r
  rw [pow_two_int]
  generalize 2 ^ J r = q at *
  unfold wrap64
  omega

set_option maxHeartbeats 1000000 in
theorem stretch_any (X r : Nat) (s : Int) (w : World) (hx : CoderAt w X r) (hT : Tab w) (hs : s = ((2 ^ J r : Nat) : Int)) :
    Calls Tryd.prog 85 #[.pointer (some ⟨X, 0, none⟩)] w fun e w' => e = .returned (.int .i64 s) ∧ w' = w := by
  obtain ⟨c0, f0⟩ := cells_one hx.1
  have hr := hx.2
  have hj := hT r (by omega)
  have j12 := J_le r
  have Hs := Hid.mk hs
  clear hT hx hs
  go_enter Tryd.func85, Tryd.ntmps85
  go_wp2
  go_ret
  exact ⟨ret_int (by rw [wrap_stretch, Hs.out]), rfl⟩

set_option maxHeartbeats 1000000 in
theorem rise_any (X r : Nat) (w : World) (hx : CoderAt w X r) :
    Calls Tryd.prog 86 #[.pointer (some ⟨X, 0, none⟩)] w fun e w' => e = .returned (.tuple #[]) ∧ CoderAt w' X (min (r + 1) 22) ∧ Kept [X] w w' := by
  obtain ⟨c0, f0⟩ := cells_one hx.1
  have hr := hx.2
  have HX := Hid.mk hx
  clear hx
  go_enter Tryd.func86, Tryd.ntmps86
  go_wp2
  go_end0
  refine ⟨rfl, ⟨?_, by omega⟩, (Kept.refl _ _).setCell (by simp) _⟩
  rw [heap_setCell_at HX.out.1]
  have e : min ((r : Int) + 1) 22 = ((min (r + 1) 22 : Nat) : Int) := by omega
  rw [e]
  rfl

set_option maxHeartbeats 1000000 in
theorem fall_any (X r : Nat) (w : World) (hx : CoderAt w X r) :
    Calls Tryd.prog 87 #[.pointer (some ⟨X, 0, none⟩)] w fun e w' => e = .returned (.tuple #[]) ∧ CoderAt w' X (r - 1) ∧ Kept [X] w w' := by
  obtain ⟨c0, f0⟩ := cells_one hx.1
  have hr := hx.2
  have HX := Hid.mk hx
  clear hx
  go_enter Tryd.func87, Tryd.ntmps87
  go_wp2
  go_end0
  refine ⟨rfl, ⟨?_, by omega⟩, (Kept.refl _ _).setCell (by simp) _⟩
  rw [heap_setCell_at HX.out.1]
  have e : max ((r : Int) - 1) 0 = ((r - 1 : Nat) : Int) := by omega
  rw [e]
  rfl

set_option maxHeartbeats 400000 in
theorem roomy_ok (room : Int) (w : World) (h0 : 1 ≤ room) (h1 : room ≤ 4096) :
    Calls Tryd.prog 80 #[.int .i64 room] w fun e w' => e = .returned (.bool true) ∧ w' = w := by
  go_enter Tryd.func80, Tryd.ntmps80
  go_wp2
  go_ret
  exact ⟨ret_bool (by simp), rfl⟩
end Go.Proofs.YtahoeodpjdbdkaaDoor
