import Derived.Test.YtpjogodepionoaaC1
namespace Go.Proofs.Ytpjogodepionoaa
open Go.RowKit

/-- What a step of a script is. -/
structure Ent where
  kd : Int
  k : Int
  s : Int
  a : Int
  b : Int
  c : Int
  d : Int
  two : Bool
abbrev i64b (a : Int) : Prop := -9223372036854775808 ≤ a ∧ a ≤ 9223372036854775807
/-- Its numbers are numbers of Go. -/
structure Ent.Ok (q : Ent) : Prop where
  kd : i64b q.kd
  k : i64b q.k
  s : i64b q.s
  a : i64b q.a
  b : i64b q.b
  c : i64b q.c
  d : i64b q.d
/-- It lies there. -/
structure Ent.At (w : World) (b o : Nat) (q : Ent) : Prop where
  c0 : w.cell? ⟨b, o, none⟩ = some (.int .i64 q.kd)
  c1 : w.cell? ⟨b, o + 1, none⟩ = some (.int .i64 q.k)
  c2 : w.cell? ⟨b, o + 2, none⟩ = some (.int .i64 q.s)
  c3 : w.cell? ⟨b, o + 3, none⟩ = some (.int .i64 q.a)
  c4 : w.cell? ⟨b, o + 4, none⟩ = some (.int .i64 q.b)
  c5 : w.cell? ⟨b, o + 5, none⟩ = some (.int .i64 q.c)
  c6 : w.cell? ⟨b, o + 6, none⟩ = some (.int .i64 q.d)
  c7 : w.cell? ⟨b, o + 7, none⟩ = some (.bool q.two)
theorem lt_of_cell {w : World} {b i : Nat} {v : Value} (h : w.cell? ⟨b, i, none⟩ = some v) : b < w.heap.size := by
  by_cases hb : b < w.heap.size
  · exact hb
  · have : w.heap[b]? = none := by simp; omega
    simp [World.cell?, this] at h
theorem cell_keep {w w' : World} {l : List Nat} {b i : Nat} {v : Value} (hk : Kept l w w') (h : w.cell? ⟨b, i, none⟩ = some v) (hn : b ∉ l) : w'.cell? ⟨b, i, none⟩ = some v := by
  have hb := hk.block b (lt_of_cell h) hn
  simp only [World.cell?, hb] at h ⊢
  exact h
theorem Ent.At.keep {w w' : World} {b o : Nat} {q : Ent} (h : Ent.At w b o q) (hk : Kept [] w w') : Ent.At w' b o q :=
  ⟨cell_keep hk h.c0 (by simp), cell_keep hk h.c1 (by simp), cell_keep hk h.c2 (by simp), cell_keep hk h.c3 (by simp), cell_keep hk h.c4 (by simp), cell_keep hk h.c5 (by simp), cell_keep hk h.c6 (by simp), cell_keep hk h.c7 (by simp)⟩
/-- A script that came in. -/
structure Ops (w : World) (sa : Option Addr) (N : Nat) (f : Nat → Ent) : Prop where
  len : N ≤ 9223372036854775807
  ok : ∀ i, i < N → (f i).Ok
  lies : 0 < N → ∃ b off, sa = some ⟨b, off, none⟩ ∧ ∀ i, i < N → Ent.At w b (off + i * 8) (f i)
end Go.Proofs.Ytpjogodepionoaa
