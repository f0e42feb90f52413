import Derived.Test.YtgjjnkhkjnkahaaDoorcK0
namespace Go.Proofs.YtgjjnkhkjnkahaaDoor.Tc
open Go.RowKit

/-- A pace as a value. -/
abbrev pv (c a b l : Int) : Value := .agg #[.int .i64 c, .int .i64 a, .int .i64 b, .int .i64 l]
/-- A pace's numbers may be so. -/
structure Pb (c a b l : Int) : Prop where
  c0 : 24 ≤ c
  c1 : c ≤ 60
  a0 : 24 ≤ a
  a1 : a ≤ 60000
  b0 : 1 ≤ b
  b1 : b ≤ 1001
  l0 : 0 ≤ l
  l1 : l ≤ 4

set_option maxHeartbeats 1000000 in
theorem perMinute_any (c a b l : Int) (w : World) (h : Pb c a b l) : Calls Tryd.prog 59 #[pv c a b l] w fun e w' => e = .returned (.int .i64 (60 * c)) ∧ Kept [] w w' := by
  have h0 := h.c0
  have h1 := h.c1
  go_enter Tryd.func59, Tryd.ntmps59
  go_wp2
  go_ret
  exact ⟨rfl, alloc_kept _ _⟩

set_option maxHeartbeats 1000000 in
theorem perTen_any (c a b l : Int) (w : World) (h : Pb c a b l) : Calls Tryd.prog 58 #[pv c a b l] w fun e w' => e = .returned (.int .i64 (600 * c - 9 * l)) ∧ Kept [] w w' := by
  have h0 := h.c0
  have h1 := h.c1
  have h2 := h.l0
  have h3 := h.l1
  obtain ⟨w1, e1⟩ : ∃ w1, w.alloc (.cells #[.int .i64 c, .int .i64 a, .int .i64 b, .int .i64 l] 100 (0, 0)) = w1 := ⟨_, rfl⟩
  have K1 : Hid (Kept [] w w1) := Hid.mk (by rw [← e1]; exact alloc_kept _ _)
  have F := four_new w c a b l 100
  rw [e1] at F
  have r0 : ∀ p : KW w1, p.u.cell? ⟨w.heap.size, 0, none⟩ = some (.int .i64 c) := fun p => cell_keep p.h F.c0 (by simp)
  have r1 : ∀ p : KW w1, p.u.cell? ⟨w.heap.size, 1, none⟩ = some (.int .i64 a) := fun p => cell_keep p.h F.c1 (by simp)
  have r2 : ∀ p : KW w1, p.u.cell? ⟨w.heap.size, 2, none⟩ = some (.int .i64 b) := fun p => cell_keep p.h F.c2 (by simp)
  have r3 : ∀ p : KW w1, p.u.cell? ⟨w.heap.size, 3, none⟩ = some (.int .i64 l) := fun p => cell_keep p.h F.c3 (by simp)
  have C1 : Hid (∀ p : KW w1, Calls Tryd.prog 59 #[pv c a b l] p.u fun e w' => e = .returned (.int .i64 (60 * c)) ∧ ∃ p' : KW w1, w' = p'.u) := Hid.mk fun p => (perMinute_any c a b l p.u h).mono fun r w' ⟨h1, h2⟩ => ⟨h1, ⟨w', p.h.trans h2⟩, rfl⟩
  have NE : Nonempty (KW w1) := ⟨⟨w1, Kept.refl _ _⟩⟩
  clear F h
  go_enter Tryd.func58, Tryd.ntmps58
  go_wp2_with (fail)
  refine wp_region_kept (by kernel_rfl) (by kernel_rfl) ?_
  repeat (go_big_quiet_step ((go_at_call 59; exact C1.out _)))
  refine wpQuiet_nil ?_
  rintro _ ⟨p, rfl⟩
  go_wp2
  go_ret
  exact ⟨ret_int (by omega), K1.out.trans p.h⟩

set_option maxHeartbeats 1000000 in
theorem perDay_any (c a b l : Int) (w : World) (h : Pb c a b l) : Calls Tryd.prog 55 #[pv c a b l] w fun e w' => e = .returned (.int .i64 (144 * (600 * c - 9 * l))) ∧ Kept [] w w' := by
  have h0 := h.c0
  have h1 := h.c1
  have h2 := h.l0
  have h3 := h.l1
  have C1 := Hid.mk (fun u => perTen_any c a b l u h)
  clear h
  go_enter Tryd.func55, Tryd.ntmps55
  go_wp2_with (go_at_call 58; refine (C1.out _).mono ?_; rintro e w1 ⟨rfl, k1⟩)
  go_ret
  exact ⟨rfl, (alloc_kept _ _).trans k1⟩
end Go.Proofs.YtgjjnkhkjnkahaaDoor.Tc
