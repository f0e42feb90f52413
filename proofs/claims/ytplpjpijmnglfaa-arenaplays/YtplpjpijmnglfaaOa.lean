import Derived.Test.YtplpjpijmnglfaaP9
namespace Go.Proofs.Ytplpjpijmnglfaa
open Go.RowKit

/-- What a step of a script is. -/
structure Ent where
  kd : Int
  on : Int
  n : Int
abbrev b64 (a : Int) : Prop := -9223372036854775808 ≤ a ∧ a ≤ 9223372036854775807
structure Ent.Ok (q : Ent) : Prop where
  kd : b64 q.kd
  on : b64 q.on
  n : b64 q.n
structure Ent.At (w : World) (b o : Nat) (q : Ent) : Prop where
  c0 : w.cell? ⟨b, o, none⟩ = some (.int .i64 q.kd)
  c1 : w.cell? ⟨b, o + 1, none⟩ = some (.int .i64 q.on)
  c2 : w.cell? ⟨b, o + 2, none⟩ = some (.int .i64 q.n)
theorem Ent.At.keep {w w' : World} {b o : Nat} {q : Ent} (h : Ent.At w b o q) (hk : Kept [] w w') : Ent.At w' b o q :=
  ⟨cell_keep hk h.c0 (by simp), cell_keep hk h.c1 (by simp), cell_keep hk h.c2 (by simp)⟩
/-- A script that came in. -/
structure Ops (w : World) (sa : Option Addr) (N : Nat) (f : Nat → Ent) : Prop where
  len : N ≤ 5864062014634
  ok : ∀ i, i < N → (f i).Ok
  lies : 0 < N → ∃ b off, sa = some ⟨b, off, none⟩ ∧ ∀ i, i < N → Ent.At w b (off + i * 3) (f i)
end Go.Proofs.Ytplpjpijmnglfaa
