import Derived.Test.YthhcihcgefeblaaDoorD1
import Derived.Laws.OwnMore
namespace Go.Proofs.YthhcihcgefeblaaDoor
open Go.RowKit

/-- append of a row of bytes, nil or not, onto a row of one's own. -/
theorem wpList_app (w : World) {ops : Array Oper} {rest : List Oper} {o : Oper} {a : Act} {Q : Exit → Act → World → Prop} (hgd : o.guard = none) (s x : Operand)
    (ho : o.op = .call { callee := .builtin .append, args := #[s, x], argTypes := #[34, 34] })
    (v : Value) (n : Nat) (xs : List Value) (hs : a.eval s = v) (hown : w.ownsRow 0 5 1 v n xs) (U : Value) (m : Nat) (ys : List Value) (hx : a.eval x = U) (hsrc : w.ownsRow 0 5 1 U m ys) (h1 : ∀ u ∈ ys, u.oneCell' = true)
    (hb : n + m ≤ 140737488355328)
    (h : ∀ v' w', w'.ownsRow 0 5 1 v' (n + m) (xs ++ ys) → Kept v.ownBlock.toList w w' → Lies w v v' → wpList Tryd.prog ops Q rest (a.put o.dst v') w') :
    wpList Tryd.prog ops Q (o :: rest) a w := by
  obtain ⟨i0, hi, hz0, hz1, hz2⟩ := info_parts Tryd.info5
  rcases hsrc.2 with ⟨hU, hm⟩ | ⟨g, cap, cur, hU, _⟩
  · subst hU
    subst hm
    have hys : ys = [] := by
      have := hsrc.1
      apply List.eq_nil_of_length_eq_zero
      omega
    subst hys
    refine wpList_plain hgd fun K hK => ?_
    have hrun := run_append_owned_none (P := Tryd.prog) (w := w) 0 34 o.type 5 i0 1 Tryd.underlying34 hi v n xs hown
    unfold Oper.wp execOp
    simp only [ho, resolve, invoke, builtin, Sem.run_bind, Sem.run_pure, Result.andThen_ok, List.map_toArray, List.map_cons, List.map_nil, hs, hx, hrun]
    exact hK _ _ (h v w (by simpa using hown) (Kept.refl _ _) (Lies.refl _ _))
  · subst hU
    have hl : ys.length = m * 1 := hsrc.1
    refine wpList_append_own_at w hgd s x 34 ho 0 5 i0 (.int .u8 0) 1 1 Tryd.underlying34 hi hz0 hz1 hz2 rfl (by decide) v n xs hs hown ⟨g, 0, none⟩ m cap ys hx hl (hsrc.cells rfl) h1 (by unfold maxLen; omega) (by omega) (by omega) ?_
    intro v' w' h2 h3 _ h5
    refine h v' w' h2 (Kept.of_grown h3) ?_
    rcases h5 with h | h
    · exact .inl h
    · exact .inr ⟨_, h, Nat.le_refl _⟩
end Go.Proofs.YthhcihcgefeblaaDoor
