import Derived.Test.YtlkbpimlofgflaaDoorW2
import Derived.Test.YtlkbpimlofgflaaDoorR
import Derived.Test.YtlkbpimlofgflaaDoorD
import Derived.Test.YtlkbpimlofgflaaDoorL
import Derived.Test.YtlkbpimlofgflaaDoormK0
import Derived.Test.YtlkbpimlofgflaaDoorcC1
import Derived.WalkKit
import Derived.WalkSpells
import Derived.WalkLawsBesides
import Derived.Maps.AppendAt
import Derived.Deep.RegionHeld3
import Derived.Deep.RegionWith
import Derived.Deep.DeepCutAuto
import Derived.Deep.QuietTactic
import Derived.BigQuiet
import Derived.Laws.CopyOwn
import Derived.Laws.OwnMore
namespace Go.Proofs.YtlkbpimlofgflaaDoor.Cr
open Go.RowKit

/-- What is told of a slice of bytes that came in. -/
def IsRow (k : IntKind) (w : World) (a : Option Addr) (len cap : Nat) (zs : List Int) : Prop :=
  (a = none ∧ len = 0 ∧ cap = 0 ∧ zs = []) ∨
  ∃ x, a = some x ∧ len ≤ cap ∧ cap ≤ maxLen ∧ zs.length = cap ∧ (∀ i, i < zs.length → w.cell? (x.add i) = some (.int k (zs.getD i 0))) ∧ ∀ n ∈ zs, (Lit.int k n).wf = true

theorem isRow_reads {w : World} {a : Option Addr} {len cap : Nat} {zs : List Int} (h : IsRow .u8 w a len cap zs) : ∃ l, l.length = len ∧ Byts l ∧ Reads w a l ∧ len ≤ 9223372036854775807 := by
  rcases h with ⟨rfl, rfl, rfl, rfl⟩ | ⟨x, rfl, hl, hm, hz, hc, hw⟩
  · exact ⟨[], rfl, by simp [Byts], .inl rfl, by decide⟩
  · have hwf : ∀ n ∈ zs, 0 ≤ n ∧ n < 256 := fun n hn => by
      have := hw n hn
      simp [Lit.wf] at this
      have h1 : IntKind.u8.min = 0 := by decide
      have h2 : IntKind.u8.max = 255 := by decide
      omega
    refine ⟨(zs.take len).map Int.toNat, by simp; omega, ?_, ?_, by unfold maxLen at hm; omega⟩
    · intro b hb
      simp only [List.mem_map] at hb
      obtain ⟨z, hz1, rfl⟩ := hb
      have := hwf z (List.mem_of_mem_take hz1)
      omega
    · by_cases h0 : len = 0
      · subst h0; exact .inl (by simp)
      · right
        obtain ⟨b, off, spot⟩ := x
        have hc0 := hc 0 (by omega)
        have hspot : spot = none := by simpa [Addr.add] using World.cell?_spot hc0
        subst hspot
        refine ⟨b, off, rfl, fun i hi => ?_⟩
        have hil : i < len := by simp at hi; omega
        have h1 := hc i (by omega)
        have hadd : (⟨b, off, none⟩ : Addr).add i = ⟨b, off + i, none⟩ := by unfold Addr.add; split <;> simp_all
        rw [hadd] at h1
        rw [h1]
        have hiz : i < zs.length := by omega
        have := hwf zs[i] (List.getElem_mem hiz)
        simp [byt, hiz, hil]
        omega

theorem row_at {w : World} {g e : Nat} {X : List Nat} (h : w.heap[g]? = some (.cells (X.map byt).toArray e (0, 0))) (j : Nat) (hj : j < X.length) : w.cell? ⟨g, j, none⟩ = some (byt (X.getD j 0)) := by
  simp [World.cell?, h, hj]

end Go.Proofs.YtlkbpimlofgflaaDoor.Cr
