import Derived.Test.YtdnbjbdokppfnaaDoorB2
namespace Go.Proofs.YtdnbjbdokppfnaaDoor
open Go.RowKit

/-- A text under way: its row, a pace and a clock that lie ahead of it. -/
structure St (w u : World) (c a b l h m s f : Int) (v : Value) (n : Nat) (xs : List Value) : Prop where
  own : u.ownsRow 0 5 1 v n xs
  far : ∀ x ∈ v.ownBlock.toList, w.heap.size + 2 ≤ x
  k : Kept [] w u
  p : F4 u w.heap.size c a b l
  q : F4 u (w.heap.size + 1) h m s f
theorem St.step {w u u' : World} {c a b l h m s f : Int} {v v' : Value} {n n' : Nat} {xs xs' : List Value} (S : St w u c a b l h m s f v n xs) (ho : u'.ownsRow 0 5 1 v' n' xs') (hk : Kept v.ownBlock.toList u u') (hl : Lies u v v') : St w u' c a b l h m s f v' n' xs' := by
  have z : w.heap.size + 1 < u.heap.size := lt_of_cell S.q.c0
  refine ⟨ho, fun x hx => ?_, S.k.step hk (fun x hx => .inr (by have := S.far x hx; omega)), S.p.keep hk (fun hm => by have := S.far _ hm; omega), S.q.keep hk (fun hm => by have := S.far _ hm; omega)⟩
  rcases hl.mem x hx with h1 | h1
  · exact S.far x h1
  · omega
theorem St.kept {w u u' : World} {c a b l h m s f : Int} {v : Value} {n : Nat} {xs : List Value} (S : St w u c a b l h m s f v n xs) (hk : Kept [] u u') : St w u' c a b l h m s f v n xs :=
  ⟨hk.row S.own (fun _ _ => by simp), S.far, S.k.trans hk, S.p.keep hk (by simp), S.q.keep hk (by simp)⟩
theorem St.two {w u : World} {c a b l h m s f : Int} {v : Value} {n : Nat} {xs : List Value} (S : St w u c a b l h m s f v n xs) (k : Int) (k0 : 0 ≤ k) (k1 : k ≤ 99) (hn : n ≤ 100) :
    Calls Tryd.prog 47 #[v, .int .i64 k] u fun e u' => ∃ v', e = .returned v' ∧ St w u' c a b l h m s f v' (n + 2) (xs ++ [.int .u8 (48 + k / 10), .int .u8 (48 + k % 10)]) :=
  (twoDigits_any v n xs k u S.own k0 k1 hn).mono fun _ _ ⟨v', h1, h2, h3, h4⟩ => ⟨v', h1, S.step h2 h3 h4⟩
/-- A sign more. -/
theorem St.one {w u : World} {c a b l h m s f : Int} {v : Value} {n : Nat} {xs : List Value} (S : St w u c a b l h m s f v n xs) (x : Int) (hn : n ≤ 100) (g : Nat) (hg : u.heap[g]? = some (.cells #[.int .u8 x] 5 (0, 0))) (ty : TypeId) :
    ∃ v' u', Sem.run Tryd.prog (Builtin.append_ #[86, 86] ty #[v, .slice (some ⟨g, 0, none⟩) 1 1]) u = .ok v' u' ∧ St w u' c a b l h m s f v' (n + 1) (xs ++ [.int .u8 x]) := by
  obtain ⟨i0, hi, hz0, hz1, hz2⟩ := info_parts Tryd.info5
  obtain ⟨v', u', hr, ho, hgr, _, hat⟩ := run_append_own_at (P := Tryd.prog) u 0 86 ty 5 i0 (.int .u8 0) 1 1 Tryd.underlying86 hi hz0 hz1 hz2 rfl (by decide) v n xs S.own ⟨g, 0, none⟩ 1 1 [.int .u8 x] rfl
    (by intro i y hy; match i, hy with | 0, hy => simp at hy; subst hy; simp [World.cell?, hg, Addr.add]) (by intro y hy; simp at hy; subst hy; rfl) (by unfold maxLen; omega) (by omega) (by omega)
  refine ⟨v', u', hr, S.step ho (Kept.of_grown hgr) ?_⟩
  rcases hat with h | h
  · exact .inl h
  · exact .inr ⟨_, h, Nat.le_refl _⟩
end Go.Proofs.YtdnbjbdokppfnaaDoor
