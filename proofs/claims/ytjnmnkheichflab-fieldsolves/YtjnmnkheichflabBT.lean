import Derived.Test.YtjnmnkheichflabBP2
import Derived.ArgAppend
namespace Go.Proofs.Ytjnmnkheichflab
open Go.RowKit

/-- A slice of n bytes that are all c: it is full and old, or it lies in memory that is new to W0. -/
def Grow (W0 w : World) (v : Value) (n : Nat) (c : Value) : Prop :=
  (∃ ao, v = .slice ao n n ∧ (ao = none → n = 0) ∧ ∀ b, ao = some b → ∀ j u, (List.replicate n c)[j]? = some u → w.cell? (b.add j) = some u) ∨ w.ownsRow W0.heap.size 5 1 v n (List.replicate n c)

theorem Grow.alloc {W0 w : World} {v : Value} {n : Nat} {c : Value} (h : Grow W0 w v n c) (o : Obj) : Grow W0 (w.alloc o) v n c := by
  rcases h with ⟨ao, hv, h1, h2⟩ | h
  · refine .inl ⟨ao, hv, h1, fun b hb j u hu => ?_⟩
    have hc := h2 b hb j u hu
    have hlt := World.block_lt_of_cell? w _ hc
    rw [World.cell?_of_block (w := w) (Below.heap_alloc w o _ hlt)]
    exact hc
  · exact .inr (h.alloc o)

/-- One more of them is appended. -/
theorem wpList_grow (w : World) {ops : Array Oper} {rest : List Oper} {o : Oper} {a : Act} {Q : Exit → Act → World → Prop} (hgd : o.guard = none) (s x : Operand)
    (ho : o.op = .call { callee := .builtin .append, args := #[s, x], argTypes := #[31, 31] }) (W0 : World) (hk : Kept [] W0 w) (v : Value) (n : Nat) (c : Value) (hc1 : c.oneCell' = true) (hs : a.eval s = v) (hG : Grow W0 w v n c)
    (ad : Addr) (hx : a.eval x = .slice (some ad) 1 1) (hnews : ∀ j u, [c][j]? = some u → w.cell? (ad.add j) = some u) (hn : n + 1 ≤ 140737488355328)
    (h : ∀ v' w', w'.ownsRow W0.heap.size 5 1 v' (n + 1) (List.replicate (n + 1) c) → Kept [] W0 w' → wpList Try.prog ops Q rest (a.put o.dst v') w') : wpList Try.prog ops Q (o :: rest) a w := by
  obtain ⟨i0, hi, hz0, hz1, hz2⟩ := info_parts Try.info5
  have h1 : ∀ u ∈ [c], u.oneCell' = true := by intro u hu; simp at hu; subst hu; exact hc1
  have hrep : List.replicate (n + 1) c = List.replicate n c ++ [c] := by rw [List.replicate_succ']
  rcases hG with ⟨ao, hv, hnone, hold⟩ | hown
  · subst hv
    refine wpList_append_grows w hgd s x 31 ho 5 i0 (.int .u8 0) 1 1 Try.underlying31 hi hz0 hz1 hz2 rfl (by decide) ao n n (List.replicate n c) hs (fun e => ⟨hnone e, hnone e⟩) (by simp) hold ad 1 1 [c] hx (by simp) hnews h1 (by omega) (by unfold maxLen; omega) (by omega) ?_
    intro v' w' ho' hg'
    refine h v' w' ?_ (hk.step (Kept.of_grown hg') (by simp))
    rw [hrep]
    have hsz := hk.size
    refine ⟨ho'.1, ?_⟩
    rcases ho'.2 with h2 | ⟨g, cap, cur, e1, e2, e3⟩
    · exact .inl h2
    · exact .inr ⟨g, cap, cur, e1, by omega, e3⟩
  · refine wpList_append_own_at w hgd s x 31 ho W0.heap.size 5 i0 (.int .u8 0) 1 1 Try.underlying31 hi hz0 hz1 hz2 rfl (by decide) v n _ hs hown ad 1 1 [c] hx (by simp) hnews h1 (by unfold maxLen; omega) (by omega) hk.size ?_
    intro v' w' ho' hg' _ _
    refine h v' w' (by rw [hrep]; exact ho') (hk.step (Kept.of_grown hg') ?_)
    intro y hy
    rw [mem_own] at hy
    exact .inr (hown.lt y hy).1

end Go.Proofs.Ytjnmnkheichflab
