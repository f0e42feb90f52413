import Derived.Test.YtgjjnkhkjnkahaaDoorA3
import Derived.WalkKit
import Derived.WalkSpells
import Derived.WalkLawsBesides
import Derived.Maps.AppendAt
import Derived.Deep.RegionHeld3
import Derived.Deep.RegionWith
import Derived.Deep.DeepCutAuto
import Derived.Deep.QuietTactic
import Derived.BigQuiet
import Derived.Laws.CopyOwn
import Derived.Laws.OwnMore
import Derived.Deep.RegionHeldLaw
import Derived.Deep.RegionLaw
import Derived.Lib.OthersKept
namespace Go.Proofs.YtgjjnkhkjnkahaaDoor.Tc
open Go.RowKit

theorem w64_in {x : Int} (h0 : -9223372036854775808 ≤ x) (h1 : x ≤ 9223372036854775807) : wrap64 x = x := by unfold wrap64; omega
theorem lt_of_cell {w : World} {b i : Nat} {v : Value} (h : w.cell? ⟨b, i, none⟩ = some v) : b < w.heap.size := by
  by_cases hb : b < w.heap.size
  · exact hb
  · have : w.heap[b]? = none := by simp; omega
    simp [World.cell?, this] at h
theorem cell_keep {w w' : World} {l : List Nat} {b i : Nat} {v : Value} (hk : Kept l w w') (h : w.cell? ⟨b, i, none⟩ = some v) (hn : b ∉ l) : w'.cell? ⟨b, i, none⟩ = some v := by
  have hb := hk.block b (lt_of_cell h) hn
  simp only [World.cell?, hb] at h ⊢
  exact h
/-- A world that is w but for new blocks. -/
structure KW (w : World) where
  u : World
  h : Kept [] w u
theorem wp_region_kept {P : Program} {id : Nat} {Q : Exit → Act → World → Prop} {a : Act} {w : World} {l : List Oper} (hm : P.follows .mixedOrders = true) (hB : Region.lexB .any l.toArray = true)
    (h : wpQuiet P l.toArray (fun w' => ∃ p : KW w, w' = p.u) (fun a' => ∀ w', (∃ p : KW w, w' = p.u) → Q .normal a' w') l a) : (Code.region id l.toArray true).wp P Q a w :=
  wp_region_quiet (C := fun w' => ∃ p : KW w, w' = p.u) hm hB ⟨⟨_, (Kept.refl [] w).drew⟩, rfl⟩ (by simpa using h)
/-- Four numbers that lie in a block. -/
structure F4 (w : World) (Q : Nat) (a b c d : Int) : Prop where
  c0 : w.cell? ⟨Q, 0, none⟩ = some (.int .i64 a)
  c1 : w.cell? ⟨Q, 1, none⟩ = some (.int .i64 b)
  c2 : w.cell? ⟨Q, 2, none⟩ = some (.int .i64 c)
  c3 : w.cell? ⟨Q, 3, none⟩ = some (.int .i64 d)
theorem F4.keep {w w' : World} {Q : Nat} {a b c d : Int} {l : List Nat} (h : F4 w Q a b c d) (hk : Kept l w w') (hn : Q ∉ l) : F4 w' Q a b c d :=
  ⟨cell_keep hk h.c0 hn, cell_keep hk h.c1 hn, cell_keep hk h.c2 hn, cell_keep hk h.c3 hn⟩
theorem four_new (w : World) (a b c d : Int) (t : TypeId) : F4 (w.alloc (.cells #[.int .i64 a, .int .i64 b, .int .i64 c, .int .i64 d] t (0, 0))) w.heap.size a b c d :=
  ⟨alloc_cell _ _ _ _ _ rfl, alloc_cell _ _ _ _ _ rfl, alloc_cell _ _ _ _ _ rfl, alloc_cell _ _ _ _ _ rfl⟩
end Go.Proofs.YtgjjnkhkjnkahaaDoor.Tc
