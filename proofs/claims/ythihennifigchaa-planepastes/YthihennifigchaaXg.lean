import Derived.Test.YthihennifigchaaXf
import Derived.Deep.RegionLaw
import Derived.ArgAppend
namespace Go.Proofs.Ythihennifigchaa.Bx
open Go.RowKit Bk
theorem step_app {ops : Array Oper} {o : Oper} {a : Act} {w : World} {K : Act → World → Prop} {Q : Exit → Act → World → Prop} {E : Prop} (hg : o.guard = none) (s x : Operand) (t : Nat)
    (hop : o.op = Op.call { callee := Callee.builtin Builtin.append, args := #[s, x], argTypes := #[t, t] }) (v1 v2 v' : Value) (w' : World) (hs : a.eval s = v1) (hx : a.eval x = v2)
    (hr : Sem.run Try.prog (Builtin.append_ #[t, t] o.type #[v1, v2]) w = .ok v' w') (hK : K (a.put o.dst v') w') :
    if Region.wanted o (yielded ops a.tmps) = true then Oper.wp Try.prog o a w K Q else E := by
  have hw : Region.wanted o (yielded ops a.tmps) = true := by simp [Region.wanted, hg]
  rw [if_pos hw]
  unfold Oper.wp
  simp [execOp, hop, resolve, invoke, builtin, hs, hx, hr, Result.andThen]
  exact hK

theorem Bo.one_one (s : Bo) (i k : Nat) (r r' : Rsc) : (s.one i k r).one i k r' = s.one i k r' := by
  unfold Bo.one
  simp only []
  congr 1
  funext a b
  by_cases e : a = i ∧ b = k
  · obtain ⟨rfl, rfl⟩ := e
    rw [upd2_at, upd2_at]
  · rw [upd2_far _ _ _ _ _ _ e, upd2_far _ _ _ _ _ _ e, upd2_far _ _ _ _ _ _ e]
theorem Bo.one_self (s : Bo) (i k : Nat) (r : Rsc) (h : s.LX i k = r) : s.one i k r = s := by
  have : upd2 s.LX i k r = s.LX := by
    funext a b
    by_cases e : a = i ∧ b = k
    · obtain ⟨rfl, rfl⟩ := e
      rw [upd2_at, h]
    · rw [upd2_far _ _ _ _ _ _ e]
  unfold Bo.one
  rw [this]
theorem cell_two_new (w : World) (x y : Value) (e : TypeId) : ∀ j u, [x, y][j]? = some u → (w.alloc (.cells #[x, y] e)).cell? ((⟨w.heap.size, 0, none⟩ : Addr).add j) = some u := by
  intro j u hu
  match j, hu with
  | 0, hu => simp at hu; subst hu; simp [Addr.add]
  | 1, hu => simp at hu; subst hu; simp [Addr.add]
/-- append of a held list, as an equation. -/
theorem held_app (u : World) (S : Value) (n : Nat) (xs : List Value) (v : Value) (m : Int) (hv : v.oneCell' = true) (ho : u.ownsRow 0 79 2 S n xs) (hn : n ≤ 1000000000) :
    ∃ ao cp ud, Sem.run Try.prog (Builtin.append_ #[32, 32] 32 #[S, .slice (some ⟨u.heap.size, 0, none⟩) 1 1]) (u.alloc (.cells #[v, .int .u16 m] 79)) = .ok (.slice ao (n + 1) cp) ud ∧ ud.ownsRow 0 79 2 (.slice ao (n + 1) cp) (n + 1) (xs ++ [v, .int .u16 m]) ∧ Kept S.ownBlock.toList u ud ∧ Lies u S (.slice ao (n + 1) cp) := by
  obtain ⟨i0, hi, hz0, hz1, hz2⟩ := info_parts Try.info79
  obtain ⟨v', w', hr, h2, h3, _, h5⟩ := run_append_own_at (P := Try.prog) (u.alloc (.cells #[v, .int .u16 m] 79)) 0 32 32 79 i0 (.agg #[.slice none 0 0, .int .u16 0]) 2 32 Try.underlying32 hi hz0 hz1 hz2 rfl (by decide) S n xs (ho.alloc _) ⟨u.heap.size, 0, none⟩ 1 1 [v, .int .u16 m] rfl (cell_two_new _ _ _ _) (fun x hx => by simp at hx; rcases hx with rfl | rfl; exact hv; rfl) (by unfold maxLen; omega) (by omega) (Nat.zero_le _)
  obtain ⟨ao, cp, rfl⟩ := row_form h2
  refine ⟨ao, cp, w', hr, h2, ((Kept.refl _ u).alloc _).step (Kept.of_grown h3) (fun x hx => .inl hx), ?_⟩
  rcases h5 with h | h
  · exact .inl h
  · exact .inr ⟨_, h, by rw [World.size_alloc]; omega⟩
theorem zlf_cells {w : World} {ao : Option Addr} {m : Nat} {f : Nat → Int} (h : (zlf .u16 65 ao m f).P w) (x : Nat) (hx : x < m) : ∃ G, ao = some ⟨G, 0, none⟩ ∧ w.frozen? ⟨G, x, none⟩ = false ∧ ∃ c, w.cell? ⟨G, x, none⟩ = some c := by
  rcases h with ⟨_, h⟩ | ⟨G, hG, hT⟩
  · omega
  · exact ⟨G, hG, by simp [World.frozen?, hT], _, by rw [cell_of_row _ _ _ _ _ _ hT]; simp [ints, hx]; rfl⟩

/-- A list that is alias of another's memory and full, or a row of its own; all its samples are mk; bl are its own blocks. -/
def Ex (w : World) (v : Value) (n : Nat) (mk : Int) (bl : List Nat) : Prop :=
  (bl = [] ∧ ∃ ao, v = .slice ao n n ∧ (ao = none → n = 0) ∧ Al .u16 w ao n mk) ∨ (bl = v.ownBlock.toList ∧ w.ownsRow 0 65 1 v n (List.replicate n (.int .u16 mk)))
theorem Ex.form {w : World} {v : Value} {n : Nat} {mk : Int} {bl : List Nat} (h : Ex w v n mk bl) : ∃ ao cap, v = .slice ao n cap := by
  rcases h with ⟨_, ao, h, _⟩ | ⟨_, h⟩
  · exact ⟨ao, n, h⟩
  · exact row_form h
theorem Ex.keep {w w' : World} {v : Value} {n : Nat} {mk : Int} {bl : List Nat} (h : Ex w v n mk bl) (hk : Kept [] w w') : Ex w' v n mk bl := by
  rcases h with ⟨h0, ao, h1, h2, h3⟩ | ⟨h0, h⟩
  · exact .inl ⟨h0, ao, h1, h2, al_keep h3 hk⟩
  · exact .inr ⟨h0, hk.row h (by simp)⟩
/-- append of one more mark, as an equation. -/
theorem ex_app (u : World) (v : Value) (n : Nat) (mk : Int) (bl : List Nat) (h : Ex u v n mk bl) (hn : n ≤ 1000000000) :
    ∃ ao cp ud, Sem.run Try.prog (Builtin.append_ #[52, 52] 52 #[v, .slice (some ⟨u.heap.size, 0, none⟩) 1 1]) (u.alloc (.cells #[.int .u16 mk] 65)) = .ok (.slice ao (n + 1) cp) ud ∧ Ex ud (.slice ao (n + 1) cp) (n + 1) mk (Value.slice ao (n + 1) cp).ownBlock.toList ∧ ud.ownsRow 0 65 1 (.slice ao (n + 1) cp) (n + 1) (List.replicate (n + 1) (.int .u16 mk)) ∧ Kept bl u ud ∧ ∀ x ∈ (Value.slice ao (n + 1) cp).ownBlock.toList, x ∈ bl ∨ u.heap.size ≤ x := by
  obtain ⟨i0, hi, hz0, hz1, hz2⟩ := info_parts Try.info65
  have er : List.replicate n (Value.int .u16 mk) ++ [.int .u16 mk] = List.replicate (n + 1) (.int .u16 mk) := by rw [List.replicate_succ']
  have one : ∀ x ∈ [Value.int .u16 mk], x.oneCell' = true := fun x hx => by simp at hx; subst hx; rfl
  have own : ∀ (v : Value), u.ownsRow 0 65 1 v n (List.replicate n (.int .u16 mk)) → ∃ ao cp ud, Sem.run Try.prog (Builtin.append_ #[52, 52] 52 #[v, .slice (some ⟨u.heap.size, 0, none⟩) 1 1]) (u.alloc (.cells #[.int .u16 mk] 65)) = .ok (.slice ao (n + 1) cp) ud ∧ ud.ownsRow 0 65 1 (.slice ao (n + 1) cp) (n + 1) (List.replicate (n + 1) (.int .u16 mk)) ∧ Kept v.ownBlock.toList u ud ∧ ∀ x ∈ (Value.slice ao (n + 1) cp).ownBlock.toList, x ∈ v.ownBlock.toList ∨ u.heap.size ≤ x := by
    intro v ho
    obtain ⟨v', w', hr, h2, h3, _, h5⟩ := run_append_own_at (P := Try.prog) (u.alloc (.cells #[.int .u16 mk] 65)) 0 52 52 65 i0 (.int .u16 0) 1 2 Try.underlying52 hi hz0 hz1 hz2 rfl (by decide) v n _ (ho.alloc _) ⟨u.heap.size, 0, none⟩ 1 1 [.int .u16 mk] rfl (cell_one_new _ _ _) one (by unfold maxLen; omega) (by omega) (Nat.zero_le _)
    obtain ⟨ao, cp, rfl⟩ := row_form h2
    rw [er] at h2
    refine ⟨ao, cp, w', hr, h2, ((Kept.refl _ u).alloc _).step (Kept.of_grown h3) (fun x hx => .inl hx), fun x hx => ?_⟩
    rcases h5 with h | h
    · exact .inl (by rw [h] at hx; exact hx)
    · right
      rw [h, World.size_alloc] at hx
      simp at hx
      omega
  rcases h with ⟨rfl, ao, rfl, h2, h3⟩ | ⟨rfl, h⟩
  · cases ao with
    | none =>
      obtain rfl := h2 rfl
      obtain ⟨ao, cp, ud, q1, q2, q3, q4⟩ := own (.slice none 0 0) (World.ownsRow_nil u 0 65 1)
      exact ⟨ao, cp, ud, q1, .inr ⟨rfl, q2⟩, q2, q3, fun x hx => q4 x hx⟩
    | some b =>
      obtain ⟨v', w', hr, r1, r2⟩ := run_append_arg_grows (P := Try.prog) (u.alloc (.cells #[.int .u16 mk] 65)) 52 52 65 i0 (.int .u16 0) 1 2 Try.underlying52 hi hz0 hz1 hz2 rfl (by decide) b n n (List.replicate n (.int .u16 mk)) (by simp) (al_olds (al_keep h3 ((Kept.refl [] u).alloc _)) b rfl) ⟨u.heap.size, 0, none⟩ 1 1 [.int .u16 mk] rfl (cell_one_new _ _ _) (by omega) (by unfold maxLen; omega) (by omega)
      obtain ⟨ao, cp, rfl⟩ := row_form r1
      rw [er] at r1
      have r1' := own_base r1 (Nat.zero_le _)
      refine ⟨ao, cp, w', hr, .inr ⟨rfl, r1'⟩, r1', ((Kept.refl _ u).alloc _).step (Kept.of_grown r2) (fun x hx => by simp at hx), fun x hx => .inr ?_⟩
      have := (r1.lt x (mem_own.1 hx)).1
      rw [World.size_alloc] at this
      omega
  · obtain ⟨ao, cp, ud, q1, q2, q3, q4⟩ := own v h
    exact ⟨ao, cp, ud, q1, .inr ⟨rfl, q2⟩, q2, q3, q4⟩
end Go.Proofs.Ythihennifigchaa.Bx
