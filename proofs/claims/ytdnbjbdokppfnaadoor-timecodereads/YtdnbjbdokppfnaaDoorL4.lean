import Derived.Test.YtdnbjbdokppfnaaDoorL2
import Derived.Test.YtdnbjbdokppfnaaDoorL3
import Derived.Test.YtdnbjbdokppfnaaDoorD4
namespace Go.Proofs.YtdnbjbdokppfnaaDoor
open Go.RowKit

/-- The variable errors.errorType. -/
def Et (w : World) : Prop := w.cell? ⟨1, 0, none⟩ = some (.iface 107 (.agg #[.pointer (some ⟨2, 35, none⟩)]))
theorem Et.keep {w w' : World} (h : Et w) (hk : Kept [] w w') : Et w' := cell_keep hk h (by simp)

set_option maxHeartbeats 4000000 in
set_option maxRecDepth 1000000 in
theorem told_any (v : Value) (A E : Int) (w : World) (hg : Et w) (he : Er w v A E) : Calls Tryd.prog 19 #[v] w fun e w' => e = .returned (.tuple #[.int .i64 A, .int .i64 E, .bool true]) ∧ Kept [] w w' := by
  rcases he with ⟨rfl, rfl, rfl⟩ | ⟨hE, Q, rfl, hq⟩
  · go_enter Tryd.func19, Tryd.ntmps19
    go_wp2
    go_ret3
    exact ⟨rfl, Kept.refl _ _⟩
  · have hQ : Q < w.heap.size := lt_of_block hq
    obtain ⟨w1, e1⟩ : ∃ w1, w.alloc (.cells #[.pointer none] 74 (0, 0)) = w1 := ⟨_, rfl⟩
    have k1 : Kept [] w w1 := by rw [← e1]; exact alloc_kept _ _
    have b1 := blk_new w #[.pointer none] 74
    rw [e1] at b1
    have HG : Hid (Et w1) := Hid.mk (hg.keep k1)
    have hq1 := k1.heap hq (by simp)
    have CA := Hid.mk (as_fault Q w.heap.size w1 HG.out b1)
    have HQ := Hid.mk hq1
    have K1 := Hid.mk k1
    clear hg hq hq1 k1 b1
    go_enter Tryd.func19, Tryd.ntmps19
    go_wp2_with (fail)
    refine CA.out.mono ?_
    rintro e w2 ⟨rfl, k2, b2⟩
    have hq2 := k2.heap HQ.out (by simp; omega)
    have c00 : w2.cell? ⟨w.heap.size, 0, none⟩ = some (.pointer (some ⟨Q, 0, none⟩)) := by simp [World.cell?, b2]
    have c1 : w2.cell? ⟨Q, 0, none⟩ = some (.int .i64 A) := by simp [World.cell?, hq2]
    have c2 : w2.cell? ⟨Q, 1, none⟩ = some (.int .i64 E) := by simp [World.cell?, hq2]
    have CI := Hid.mk (fun n => is_fault Q A E (w2.drewN n) (((Kept.refl [] w2).drewN n).heap hq2 (by simp)))
    have HK := Hid.mk (K1.out.step k2 (fun x hx => .inr (by simp at hx; omega)))
    clear k2 b2 hq2 CA HQ HG
    go_wp2_with (fail)
    go_quiet ((go_at_call 43; exact Calls.quiet_of_same (CI.out _)))
    go_wp2
    go_ret3
    exact ⟨rfl, HK.out.drewN _⟩
end Go.Proofs.YtdnbjbdokppfnaaDoor
