import Derived.Test.YtgjjnkhkjnkahaaDoorPu
import Derived.ArgAppend
namespace Go.Proofs.YtgjjnkhkjnkahaaDoor
open Go.RowKit

/-- A list of samples onto which is put: a full one of another's, or one's own. -/
def Ax (w : World) (B : Nat) (V : Value) (n : Nat) : Prop := (∃ b f, V = slv b n n ∧ Row w b n f) ∨ ∃ xs, w.ownsRow B 38 1 V n xs
theorem own_low {w : World} {B B' e s n : Nat} {V : Value} {xs : List Value} (h : w.ownsRow B' e s V n xs) (hB : B ≤ B') : w.ownsRow B e s V n xs := by
  refine ⟨h.1, ?_⟩
  rcases h.2 with h1 | ⟨g, cap, cur, e, hb, h2⟩
  · exact .inl h1
  · exact .inr ⟨g, cap, cur, e, Nat.le_trans hB hb, h2⟩
theorem wpList_ax (w : World) {ops : Array Oper} {rest : List Oper} {o : Oper} {a : Act} {Q : Exit → Act → World → Prop} (hgd : o.guard = none) (s x : Operand) (B : Nat)
    (ho : o.op = .call { callee := .builtin .append, args := #[s, x], argTypes := #[37, 37] })
    (V : Value) (n : Nat) (hs : a.eval s = V) (hV : Ax w B V n) (y : Value) (hx : a.eval x = .slice (some ⟨w.heap.size, 0, none⟩) 1 1) (h1 : y.oneCell' = true) (hB : B ≤ w.heap.size) (hn : n ≤ 100000000)
    (h : ∀ V' w', Ax w' B V' (n + 1) → (∃ ks, Kept ks w w' ∧ ∀ k, k ∈ ks → B ≤ k) → wpList Tryd.prog ops Q rest (a.put o.dst V') w') :
    wpList Tryd.prog ops Q (o :: rest) a (w.alloc (.cells #[y] 38)) := by
  obtain ⟨j0, gi, gz0, gz1, gz2⟩ := info_parts Tryd.info38
  have hnew : ∀ j u, ([y] : List Value)[j]? = some u → (w.alloc (.cells #[y] 38)).cell? ((⟨w.heap.size, 0, none⟩ : Addr).add j) = some u := fun j u hj => by
    have hadd : (⟨w.heap.size, 0, none⟩ : Addr).add j = ⟨w.heap.size, 0 + j, none⟩ := by unfold Addr.add; split <;> simp_all
    rw [hadd, Nat.zero_add, cell_of_row _ _ _ _ _ _ (heap_alloc_new w _)]
    simpa using hj
  rcases hV with ⟨b, f, rfl, hr⟩ | ⟨xs, ho2⟩
  · refine wpList_append_grows _ hgd s x 37 ho 38 j0 _ 1 2 Tryd.underlying37 gi gz0 gz1 gz2 rfl (by decide) (some ⟨b, 0, none⟩) n n (fl (vU f) n) hs (by simp) (by rw [fl_length, Nat.mul_one]) (fun ad e j u hj => ?_) ⟨w.heap.size, 0, none⟩ 1 1 [y] hx rfl hnew (fun u hu => by simp at hu; subst hu; exact h1) (by omega) (by unfold maxLen; omega) (by omega) ?_
    · cases e
      have hjn : j < n := by
        rcases Nat.lt_or_ge j n with h | h
        · exact h
        · rw [List.getElem?_eq_none (by rw [fl_length]; exact h)] at hj; cases hj
      rw [fl_at _ _ _ hjn] at hj
      cases hj
      have hadd : (⟨b, 0, none⟩ : Addr).add j = ⟨b, 0 + j, none⟩ := by unfold Addr.add; split <;> simp_all
      rw [hadd, Nat.zero_add]
      exact (hr.keep (alloc_kept _ _) (by simp)).at hjn
    · intro v' w' h2 h3
      exact h v' w' (.inr ⟨_, own_low h2 (by rw [World.size_alloc]; omega)⟩) ⟨[], (alloc_kept _ _).trans (Kept.of_grown h3), by simp⟩
  · refine wpList_append_own_at _ hgd s x 37 ho B 38 j0 _ 1 2 Tryd.underlying37 gi gz0 gz1 gz2 rfl (by decide) V n xs hs (ho2.alloc _) ⟨w.heap.size, 0, none⟩ 1 1 [y] hx rfl hnew (fun u hu => by simp at hu; subst hu; exact h1) (by unfold maxLen; omega) (by omega) (by rw [World.size_alloc]; omega) ?_
    intro v' w' h2 h3 _ h5
    refine h v' w' (.inr ⟨_, h2⟩) ⟨V.ownBlock.toList, ((Kept.refl _ w).alloc _).step (Kept.of_grown h3) (fun x hx => .inl hx), fun k hk => ?_⟩
    rw [mem_own] at hk
    exact (own_lt ho2 k hk).1
end Go.Proofs.YtgjjnkhkjnkahaaDoor
