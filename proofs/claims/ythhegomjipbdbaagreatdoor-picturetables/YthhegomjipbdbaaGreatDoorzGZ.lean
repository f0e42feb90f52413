import Derived.Test.YthhegomjipbdbaaGreatDoorzAZ
import Derived.ArgAppend
import Derived.Laws.StructEq
import Derived.BigQuiet
namespace Go.Proofs.YthhegomjipbdbaaGreatDoor.Pc
open Go.RowKit

/-- The cells of entries that are marks. -/
def pat (i : Int) (q : Nat) : Value := if q % 3 = 0 then .int .i64 (-1 - i) else if q % 3 = 1 then .int .i64 0 else .int .u32 0
def lst (f : Nat → Value) (n : Nat) : List Value := (List.range (n * 3)).map f
theorem lst_len (f : Nat → Value) (n : Nat) : (lst f n).length = n * 3 := by simp [lst]
theorem lst_at (f : Nat → Value) {n q : Nat} (h : q < n * 3) : (lst f n)[q]? = some (f q) := by simp [lst, h]
theorem lst_congr {f g : Nat → Value} {n : Nat} (h : ∀ q, q < n * 3 → f q = g q) : lst f n = lst g n := by
  unfold lst
  exact List.map_congr_left (fun q hq => h q (List.mem_range.1 hq))
theorem lst_set (f : Nat → Value) (n q : Nat) (v : Value) : (lst f n).set q v = lst (fun j => if j = q then v else f j) n := by
  apply List.ext_getElem?
  intro j
  rw [List.getElem?_set]
  by_cases h1 : q = j
  · subst h1
    by_cases h2 : q < n * 3
    · rw [if_pos rfl, if_pos (by rw [lst_len]; exact h2), lst_at _ h2]; simp
    · rw [if_pos rfl, if_neg (by rw [lst_len]; exact h2), List.getElem?_eq_none (by rw [lst_len]; omega)]
  · rw [if_neg h1]
    by_cases h2 : j < n * 3
    · rw [lst_at _ h2, lst_at _ h2, if_neg (fun e => h1 e.symm)]
    · rw [List.getElem?_eq_none (by rw [lst_len]; omega), List.getElem?_eq_none (by rw [lst_len]; omega)]
theorem lst_snoc (i : Int) (n : Nat) : lst (pat i) n ++ [.int .i64 (-1 - i), .int .i64 0, .int .u32 0] = lst (pat i) (n + 1) := by
  unfold lst
  rw [Nat.add_mul, Nat.one_mul, List.range_add, List.map_append]
  congr 1
  have e0 : pat i (n * 3 + 0) = .int .i64 (-1 - i) := by unfold pat; rw [if_pos (by omega)]
  have e1 : pat i (n * 3 + 1) = .int .i64 0 := by unfold pat; rw [if_neg (by omega), if_pos (by omega)]
  have e2 : pat i (n * 3 + 2) = .int .u32 0 := by unfold pat; rw [if_neg (by omega), if_neg (by omega)]
  show _ = List.map (pat i) [n * 3 + 0, n * 3 + 1, n * 3 + 2]
  simp only [List.map_cons, List.map_nil, e0, e1, e2]
theorem own_lst {w : World} {B n : Nat} {V : Value} {xs : List Value} (h : w.ownsRow B 87 3 V n xs) : ∃ f, w.ownsRow B 87 3 V n (lst f n) := by
  refine ⟨fun q => xs.getD q undef, ?_⟩
  have e : lst (fun q => xs.getD q undef) n = xs := by
    apply List.ext_getElem?
    intro j
    by_cases h2 : j < n * 3
    · rw [lst_at _ h2]
      have : j < xs.length := by rw [h.1]; exact h2
      simp [this]
    · rw [List.getElem?_eq_none (by rw [lst_len]; omega), List.getElem?_eq_none (by rw [h.1]; omega)]
  rw [e]
  exact h
theorem own_cells {w : World} {B n c g : Nat} {f : Nat → Value} (h : w.ownsRow B 87 3 (.slice (some ⟨g, 0, none⟩) n c) n (lst f n)) : (∀ q, q < n * 3 → w.cell? ⟨g, q, none⟩ = some (f q)) ∧ ∀ q, w.frozen? ⟨g, q, none⟩ = false := by
  rcases h.2 with ⟨e, _⟩ | ⟨g', cap, cur, e, _, hg, hc, hm, hs, ht⟩
  · cases e
  · cases e
    refine ⟨fun q hq => ?_, fun q => by simp [World.frozen?, hg]⟩
    have h1 : (lst f n)[q]? = cur.toList[q]? := by rw [← ht, List.getElem?_take_of_lt hq]
    rw [lst_at _ hq] at h1
    simp only [World.cell?, hg]
    simpa using h1.symm
theorem own_setq {w : World} {B n c g q : Nat} {f : Nat → Value} {v : Value} (h : w.ownsRow B 87 3 (.slice (some ⟨g, 0, none⟩) n c) n (lst f n)) (_ : q < n * 3) : (w.setCell ⟨g, q, none⟩ v).ownsRow B 87 3 (.slice (some ⟨g, 0, none⟩) n c) n (lst (fun j => if j = q then v else f j) n) := by
  rcases h.2 with ⟨e, _⟩ | ⟨g', cap, cur, e, hb, hg, hc, hm, hs, ht⟩
  · cases e
  · cases e
    refine ⟨lst_len _ _, .inr ⟨g, c, cur.setIfInBounds q v, rfl, hb, heap_setCell_at hg, hc, hm, by simp [hs], ?_⟩⟩
    rw [Array.toList_setIfInBounds, List.take_set, ht, lst_set]
/-- Entries that read as marks. -/
def AlE (w : World) (x : Value) (i : Int) : Prop := ∃ ao n c, x = .slice ao n c ∧ n ≤ 1000000 ∧ (n = 0 ∨ ∃ g, ao = some ⟨g, 0, none⟩ ∧ ∀ q, q < n * 3 → w.cell? ⟨g, q, none⟩ = some (pat i q))
theorem AlE.kept {w w' : World} {x : Value} {i : Int} {ks : List Nat} (h : AlE w x i) (hk : Kept ks w w') (hn : ∀ g, x.ownBlock = some g → g ∉ ks) : AlE w' x i := by
  obtain ⟨ao, n, c, rfl, hnb, h⟩ := h
  refine ⟨ao, n, c, rfl, hnb, ?_⟩
  rcases h with h | ⟨g, rfl, hc⟩
  · exact .inl h
  · exact .inr ⟨g, rfl, fun q hq => (World.cell?_of_block (w := w) (a := ⟨g, q, none⟩) (hk.block g (World.block_lt_of_cell? w _ (hc q hq)) (hn g rfl))).trans (hc q hq)⟩
theorem AlE.keep {w w' : World} {x : Value} {i : Int} (h : AlE w x i) (hk : Kept [] w w') : AlE w' x i := h.kept hk (by simp)
theorem own_al {w : World} {B n : Nat} {V : Value} {i : Int} (h : w.ownsRow B 87 3 V n (lst (pat i) n)) (hn : n ≤ 1000000) : AlE w V i := by
  rcases h.2 with ⟨rfl, h0⟩ | ⟨g, cap, cur, rfl, hb, hg, hc, hm, hs, ht⟩
  · exact ⟨none, 0, 0, rfl, by omega, .inl rfl⟩
  · exact ⟨_, _, _, rfl, hn, .inr ⟨g, rfl, (own_cells h).1⟩⟩
theorem own_has {w : World} {B n e g sz : Nat} {V : Value} {xs : List Value} (h : w.ownsRow B e sz V n xs) (hg : V.ownBlock = some g) : ∃ cs, w.heap[g]? = some (.cells cs e (0, 0)) := by
  rcases h.2 with ⟨rfl, _⟩ | ⟨g', cap, cur, rfl, _, h2, _⟩
  · simp [Value.ownBlock] at hg
  · simp [Value.ownBlock] at hg
    subst hg
    exact ⟨_, h2⟩
theorem wpl_app (w : World) {ops : Array Oper} {rest : List Oper} {o : Oper} {a : Act} {Q : Exit → Act → World → Prop} (hgd : o.guard = none) (s x : Operand) (t : Nat)
    (ho : o.op = .call { callee := .builtin .append, args := #[s, x], argTypes := #[t, t] }) (v1 v2 v' : Value) (w' : World)
    (hr : Sem.run Tryz.prog (Builtin.append_ #[t, t] o.type #[v1, v2]) w = .ok v' w') (hs : a.eval s = v1) (hx : a.eval x = v2) (h : wpList Tryz.prog ops Q rest (a.put o.dst v') w') : wpList Tryz.prog ops Q (o :: rest) a w := by
  refine wpList_plain hgd fun K hK => ?_
  unfold Oper.wp execOp
  simp only [ho, resolve, invoke, builtin, Sem.run_bind, Sem.run_pure, Result.andThen_ok, List.map_toArray, List.map_cons, List.map_nil, hs, hx, hr]
  exact hK _ _ h
theorem al_setCells {w : World} {x : Value} {i i' : Int} {g n : Nat} (h : AlE w x i') (he : x.ownBlock = some g → i' = i) (hc : ∀ j, j < 3 → (w.cell? ⟨g, n * 3 + j, none⟩).isSome = true) : AlE (w.setCells g (n * 3) [.int .i64 (-1 - i), .int .i64 0, .int .u32 0]) x i' := by
  obtain ⟨ao, m, c, rfl, hmb, h⟩ := h
  refine ⟨ao, m, c, rfl, hmb, ?_⟩
  rcases h with h | ⟨G, rfl, hcs⟩
  · exact .inl h
  · refine .inr ⟨G, rfl, fun q hq => ?_⟩
    by_cases hin : G = g ∧ n * 3 ≤ q ∧ q < n * 3 + 3
    · obtain ⟨rfl, h1, h2⟩ := hin
      obtain rfl := he rfl
      obtain ⟨j, rfl⟩ : ∃ j, q = n * 3 + j := ⟨q - n * 3, by omega⟩
      have := World.cell?_setCells_in G [.int .i64 (-1 - i'), .int .i64 0, .int .u32 0] (n * 3) w (fun j hj => hc j (by simpa using hj)) j (by simp; omega)
      rw [this]
      unfold pat
      rcases (by omega : j = 0 ∨ j = 1 ∨ j = 2) with rfl | rfl | rfl
      · rw [if_pos (by omega)]; rfl
      · rw [if_neg (by omega), if_pos (by omega)]; rfl
      · rw [if_neg (by omega), if_neg (by omega)]; rfl
    · rw [World.cell?_setCells_out g _ (n * 3) w ⟨G, q, none⟩ (fun h1 _ => by
        have h1' : G = g := h1
        show q < n * 3 ∨ n * 3 + 3 ≤ q
        by_cases h2 : q < n * 3
        · exact .inl h2
        · exact .inr (by
            by_cases h3 : q < n * 3 + 3
            · exact absurd ⟨h1', by omega, h3⟩ hin
            · omega))]
      exact hcs q hq
/-- A mark more in a row of its own; what reads as marks still does. -/
theorem app_mark (u : World) (X : Value) (n : Nat) (i : Int) (h : u.ownsRow 0 87 3 X n (lst (pat i) n)) (hn : n ≤ 1000000) :
    ∃ bo c ud, Sem.run Tryz.prog (Builtin.append_ #[31, 31] 31 #[X, .slice (some ⟨u.heap.size, 0, none⟩) 1 1]) (u.alloc (.cells #[.int .i64 (-1 - i), .int .i64 0, .int .u32 0] 87 (0, 0))) = .ok (.slice bo (n + 1) c) ud ∧
      ud.ownsRow 0 87 3 (.slice bo (n + 1) c) (n + 1) (lst (pat i) (n + 1)) ∧ Kept X.ownBlock.toList u ud ∧ ((Value.slice bo (n + 1) c).ownBlock = X.ownBlock ∨ ∃ g, (Value.slice bo (n + 1) c).ownBlock = some g ∧ u.heap.size ≤ g) ∧
      (∀ (g : Nat) (cs : Array Value), u.heap[g]? = some (.cells cs 87 (0, 0)) → ∃ cs' : Array Value, ud.heap[g]? = some (.cells cs' 87 (0, 0))) ∧
      ∀ y i', AlE u y i' → (∀ g, y.ownBlock = some g → X.ownBlock = some g → i' = i) → AlE ud y i' := by
  obtain ⟨i0, hi, hz0, hz1, hz2⟩ := info_parts Tryz.infoEn
  have one : ∀ v ∈ [Value.int .i64 (-1 - i), .int .i64 0, .int .u32 0], v.oneCell' = true := by simp [Value.oneCell']
  have hnew : ∀ j v, ([Value.int .i64 (-1 - i), .int .i64 0, .int .u32 0] : List Value)[j]? = some v → (u.alloc (.cells #[.int .i64 (-1 - i), .int .i64 0, .int .u32 0] 87 (0, 0))).cell? ((⟨u.heap.size, 0, none⟩ : Addr).add j) = some v := fun j v hj => by
    have hadd : (⟨u.heap.size, 0, none⟩ : Addr).add j = ⟨u.heap.size, j, none⟩ := by unfold Addr.add; split <;> simp_all
    rw [hadd]
    exact cellAt (heap_alloc_new _ _) (by rw [← Array.getElem?_toList]; exact hj)
  have k0 := (Kept.refl [] u).alloc (.cells #[.int .i64 (-1 - i), .int .i64 0, .int .u32 0] 87 (0, 0))
  have ho := k0.row h (by simp)
  obtain ⟨v', ud, hrun, h2, h3, _, h5⟩ := run_append_own_at (P := Tryz.prog) _ 0 31 31 87 i0 (.agg #[.int .i64 0, .int .i64 0, .int .u32 0]) 3 24 Tryz.underlying31 hi hz0 hz1 hz2 rfl (by decide) X n _ ho ⟨u.heap.size, 0, none⟩ 1 1 _ rfl hnew one (by unfold maxLen; omega) (by omega) (Nat.zero_le _)
  obtain ⟨bo, c, rfl⟩ : ∃ bo c, v' = .slice bo (n + 1) c := by
    rcases h2.2 with ⟨_, h0⟩ | ⟨g, cap, cur, e, _⟩
    · omega
    · exact ⟨_, _, e⟩
  rw [lst_snoc] at h2
  have hk : Kept X.ownBlock.toList u ud := (k0.mono (by simp)).trans (Kept.of_grown h3)
  refine ⟨bo, c, ud, hrun, h2, hk, ?_, ?_⟩
  · rcases h5 with h | h
    · exact .inl h
    · exact .inr ⟨_, h, by rw [World.size_alloc]; omega⟩
  rcases ho.2 with ⟨rfl, _⟩ | ⟨g, cap, cur, rfl, hb, hg, hc, hm, hs, ht⟩
  · exact ⟨fun g cs hc => ⟨cs, hk.heap hc (by simp [Value.ownBlock])⟩, fun y i' hy _ => hy.kept hk (by simp [Value.ownBlock])⟩
  · by_cases hroom : n + 1 ≤ cap
    · have hcell : ∀ j, j < 3 → ((u.alloc (.cells #[.int .i64 (-1 - i), .int .i64 0, .int .u32 0] 87 (0, 0))).cell? ⟨g, n * 3 + j, none⟩).isSome = true := fun j hj => by
        have : n * 3 + j < cur.size := by rw [hs]; omega
        simp only [World.cell?, hg]
        simp [this]
      have hrun2 := run_append_room_cells (P := Tryz.prog) (u.alloc (.cells #[.int .i64 (-1 - i), .int .i64 0, .int .u32 0] 87 (0, 0))) 31 31 87 i0 Tryz.underlying31 hi g 0 n cap ⟨u.heap.size, 0, none⟩ 1 1 _ (by simp [hz1]) hnew one hroom (fun j hj => by
          rw [hz1, Nat.zero_add]
          exact hcell j (by simpa using hj)) (fun j hj => by simp [World.frozen?, hg])
      rw [hrun] at hrun2
      cases hrun2
      rw [hz1]
      rw [hz1] at h2 hk
      refine ⟨fun g' cs hc => ?_, fun y i' hy he => ?_⟩
      · by_cases e : g' = g
        · subst e
          exact own_has h2 rfl
        · exact ⟨cs, hk.heap hc (by simpa [Value.ownBlock] using e)⟩
      · have := al_setCells (g := g) (n := n) (i := i) (hy.keep k0) (fun e => he g e rfl) hcell
        rw [Nat.zero_add]
        exact this
    · obtain ⟨v'', w'', hrun2, r1, r2⟩ := run_append_arg_grows (P := Tryz.prog) (u.alloc (.cells #[.int .i64 (-1 - i), .int .i64 0, .int .u32 0] 87 (0, 0))) 31 31 87 i0 (.agg #[.int .i64 0, .int .i64 0, .int .u32 0]) 3 24 Tryz.underlying31 hi hz0 hz1 hz2 rfl (by decide) ⟨g, 0, none⟩ n cap (lst (pat i) n) (lst_len _ _) (fun j x hx => by
          have hj : j < n * 3 := by
            rcases Nat.lt_or_ge j (n * 3) with h | h
            · exact h
            · rw [List.getElem?_eq_none (by rw [lst_len]; exact h)] at hx; cases hx
          have hadd : (⟨g, 0, none⟩ : Addr).add j = ⟨g, j, none⟩ := by unfold Addr.add; split <;> simp_all
          rw [hadd, (own_cells ho).1 j hj, ← lst_at (pat i) hj]
          exact hx) ⟨u.heap.size, 0, none⟩ 1 1 _ rfl hnew (by omega) (by unfold maxLen; omega) (by omega)
      rw [hrun] at hrun2
      cases hrun2
      exact ⟨fun g' cs hc => ⟨cs, ((Kept.of_grown r2).mono (l2 := []) (by simp)).heap (k0.heap hc (by simp)) (by simp)⟩, fun y i' hy _ => (hy.keep k0).keep ((Kept.of_grown r2).mono (by simp))⟩
end Go.Proofs.YthhegomjipbdbaaGreatDoor.Pc

namespace Go.Proofs.YthhegomjipbdbaaGreatDoor.Pc
open Go.RowKit

theorem Tryz.infoEL : (Tryz.prog.info? 31).map (fun i => (i.zero, i.size, i.bytes)) = some (some (.slice none 0 0), 1, 24) := by kernel_rfl
/-- A list of three lists of entries, each in its own row. -/
structure E3 (w : World) (LL : Nat) (V : Nat → Value) (nn : Nat → Nat) (f : Nat → Nat → Value) : Prop where
  box : w.heap[LL]? = some (.cells #[V 0, V 1, V 2] 31 (0, 0))
  row : ∀ t, t < 3 → w.ownsRow 0 87 3 (V t) (nn t) (lst (f t) (nn t))
  ap : ∀ s t, s < 3 → t < 3 → s ≠ t → ∀ g, (V s).ownBlock = some g → (V t).ownBlock ≠ some g
theorem E3.at {w : World} {LL : Nat} {V : Nat → Value} {nn : Nat → Nat} {f : Nat → Nat → Value} (h : E3 w LL V nn f) {t : Nat} (ht : t < 3) : w.cell? ⟨LL, t, none⟩ = some (V t) := by
  rcases (by omega : t = 0 ∨ t = 1 ∨ t = 2) with rfl | rfl | rfl
  · exact cellAt h.box rfl
  · exact cellAt h.box rfl
  · exact cellAt h.box rfl
theorem own_form3 {w : World} {B n : Nat} {V : Value} {xs : List Value} (h : w.ownsRow B 87 3 V n xs) : ∃ ao c, V = .slice ao n c ∧ (0 < n → ∃ g, ao = some ⟨g, 0, none⟩) := by
  rcases h.2 with ⟨rfl, rfl⟩ | ⟨g, cap, cur, rfl, _⟩
  · exact ⟨none, 0, rfl, fun h => by omega⟩
  · exact ⟨_, _, rfl, fun _ => ⟨g, rfl⟩⟩
theorem own_ty {w : World} {B n e g : Nat} {V : Value} {xs : List Value} {sz : Nat} {cs : Array Value} {t : Nat} (h : w.ownsRow B e sz V n xs) (hg : V.ownBlock = some g) (hc : w.heap[g]? = some (.cells cs t (0, 0))) : t = e := by
  rcases h.2 with ⟨rfl, _⟩ | ⟨g', cap, cur, rfl, _, h2, _⟩
  · simp [Value.ownBlock] at hg
  · simp [Value.ownBlock] at hg
    subst hg
    rw [hc] at h2
    simp at h2
    exact h2.2
theorem own_dis {w : World} {B B' n n' e e' sz sz' : Nat} {V V' : Value} {xs xs' : List Value} (h : w.ownsRow B e sz V n xs) (h' : w.ownsRow B' e' sz' V' n' xs') (he : e ≠ e') : ∀ g, V.ownBlock = some g → V'.ownBlock ≠ some g := fun g hg hg' => by
  rcases h'.2 with ⟨rfl, _⟩ | ⟨g2, cap, cur, rfl, _, h2, _⟩
  · simp [Value.ownBlock] at hg'
  · simp [Value.ownBlock] at hg'
    subst hg'
    exact he (own_ty h hg h2).symm
/-- What row t holds when the rows ahead of i, and the first k entries of i, are marked. -/
def mkd (f : Nat → Nat → Value) (i k t q : Nat) : Value := if t < i ∨ (t = i ∧ q < k * 3) then pat (t : Int) q else f t q
/-- One entry marked. -/
theorem E3.mark {w : World} {LL i k g c : Nat} {V : Nat → Value} {nn : Nat → Nat} {f : Nat → Nat → Value} (h : E3 w LL V nn (mkd f i k)) (hi : i < 3) (hk : k < nn i) (hV : V i = .slice (some ⟨g, 0, none⟩) (nn i) c) :
    E3 (((w.setCell ⟨g, k * 3, none⟩ (.int .i64 (-1 - (i : Int)))).setCell ⟨g, k * 3 + 1, none⟩ (.int .i64 0)).setCell ⟨g, k * 3 + 2, none⟩ (.int .u32 0)) LL V nn (mkd f i (k + 1)) ∧ Kept [g] w (((w.setCell ⟨g, k * 3, none⟩ (.int .i64 (-1 - (i : Int)))).setCell ⟨g, k * 3 + 1, none⟩ (.int .i64 0)).setCell ⟨g, k * 3 + 2, none⟩ (.int .u32 0)) := by
  have hk3 : Kept [g] w (((w.setCell ⟨g, k * 3, none⟩ (.int .i64 (-1 - (i : Int)))).setCell ⟨g, k * 3 + 1, none⟩ (.int .i64 0)).setCell ⟨g, k * 3 + 2, none⟩ (.int .u32 0)) := (((Kept.refl [g] w).setCell (p := ⟨g, k * 3, none⟩) (.inl (by simp)) _).setCell (p := ⟨g, k * 3 + 1, none⟩) (.inl (by simp)) _).setCell (p := ⟨g, k * 3 + 2, none⟩) (.inl (by simp)) _
  have hr := h.row i hi
  rw [hV] at hr
  have hkn : (k + 1) * 3 ≤ nn i * 3 := Nat.mul_le_mul_right _ hk
  rw [Nat.add_mul, Nat.one_mul] at hkn
  have hr3 := own_setq (v := .int .u32 0) (q := k * 3 + 2) (own_setq (v := .int .i64 0) (q := k * 3 + 1) (own_setq (v := .int .i64 (-1 - (i : Int))) (q := k * 3) hr (by omega)) (by omega)) (by omega)
  refine ⟨⟨hk3.heap h.box (fun hm => ?_), fun t ht => ?_, h.ap⟩, hk3⟩
  · simp at hm
    subst hm
    have := own_ty hr rfl h.box
    exact absurd this (by decide)
  · by_cases e : t = i
    · subst e
      rw [hV]
      rw [lst_congr (g := mkd f t (k + 1) t) (fun q hq => ?_)] at hr3
      · exact hr3
      · unfold mkd
        simp only [Nat.lt_irrefl, true_and, false_or]
        by_cases e2 : q = k * 3 + 2
        · rw [if_pos e2, if_pos (by omega)]
          unfold pat
          rw [if_neg (by omega), if_neg (by omega)]
        · rw [if_neg e2]
          by_cases e1 : q = k * 3 + 1
          · rw [if_pos e1, if_pos (by omega)]
            unfold pat
            rw [if_neg (by omega), if_pos (by omega)]
          · rw [if_neg e1]
            by_cases e0 : q = k * 3
            · rw [if_pos e0, if_pos (by omega)]
              unfold pat
              rw [if_pos (by omega)]
            · rw [if_neg e0]
              by_cases e3 : q < k * 3
              · rw [if_pos e3, if_pos (by omega)]
              · rw [if_neg e3, if_neg (by omega)]
    · have hd := hk3.row (h.row t ht) (fun g' hg' hm => by
        simp at hm
        subst hm
        exact h.ap t i ht hi e _ hg' (by rw [hV]; rfl))
      rw [lst_congr (g := mkd f i (k + 1) t) (fun q hq => ?_)] at hd
      · exact hd
      · unfold mkd
        by_cases e4 : t < i
        · rw [if_pos (.inl e4), if_pos (.inl e4)]
        · rw [if_neg (by omega), if_neg (by omega)]
end Go.Proofs.YthhegomjipbdbaaGreatDoor.Pc

namespace Go.Proofs.YthhegomjipbdbaaGreatDoor.Pc
open Go.RowKit

theorem app_el (u : World) (B : Nat) (V : Value) (n : Nat) (xs : List Value) (h : u.ownsRow B 31 1 V n xs) (hB : B ≤ u.heap.size) (x : Value) (hx : x.oneCell' = true) (hn : n ≤ 1000000) :
    ∃ bo c ud, Sem.run Tryz.prog (Builtin.append_ #[38, 38] 38 #[V, .slice (some ⟨u.heap.size, 0, none⟩) 1 1]) (u.alloc (.cells #[x] 31 (0, 0))) = .ok (.slice bo (n + 1) c) ud ∧ ud.ownsRow B 31 1 (.slice bo (n + 1) c) (n + 1) (xs ++ [x]) ∧ Kept V.ownBlock.toList u ud := by
  obtain ⟨i0, hi, hz0, hz1, hz2⟩ := info_parts Tryz.infoEL
  obtain ⟨v', ud, hrun, h2, h3, _, _⟩ := run_append_own_at (P := Tryz.prog) (u.alloc (.cells #[x] 31 (0, 0))) B 38 38 31 i0 (.slice none 0 0) 1 24 Tryz.underlying38 hi hz0 hz1 hz2 rfl (by decide) V n xs (h.alloc _) ⟨u.heap.size, 0, none⟩ 1 1 [x] rfl (cell_one_new _ _ _) (fun v hv => by simp at hv; subst hv; exact hx) (by unfold maxLen; omega) (by omega) (by rw [World.size_alloc]; omega)
  obtain ⟨bo, c, rfl⟩ : ∃ bo c, v' = .slice bo (n + 1) c := by
    rcases h2.2 with ⟨_, h0⟩ | ⟨g, cap, cur, e, _⟩
    · omega
    · exact ⟨_, _, e⟩
  exact ⟨bo, c, ud, hrun, h2, (((Kept.refl [] u).alloc _).mono (by simp)).trans (Kept.of_grown h3)⟩
theorem app_in (u : World) (B : Nat) (V : Value) (n : Nat) (xs : List Value) (h : u.ownsRow B 3 1 V n xs) (hB : B ≤ u.heap.size) (x : Value) (hx : x.oneCell' = true) (hn : n ≤ 1000000) :
    ∃ bo c ud, Sem.run Tryz.prog (Builtin.append_ #[78, 78] 78 #[V, .slice (some ⟨u.heap.size, 0, none⟩) 1 1]) (u.alloc (.cells #[x] 3 (0, 0))) = .ok (.slice bo (n + 1) c) ud ∧ ud.ownsRow B 3 1 (.slice bo (n + 1) c) (n + 1) (xs ++ [x]) ∧ Kept V.ownBlock.toList u ud := by
  obtain ⟨i0, hi, hz0, hz1, hz2⟩ := info_parts Tryz.infoLn
  obtain ⟨v', ud, hrun, h2, h3, _, _⟩ := run_append_own_at (P := Tryz.prog) (u.alloc (.cells #[x] 3 (0, 0))) B 78 78 3 i0 (.int .i64 0) 1 8 Tryz.underlying78 hi hz0 hz1 hz2 rfl (by decide) V n xs (h.alloc _) ⟨u.heap.size, 0, none⟩ 1 1 [x] rfl (cell_one_new _ _ _) (fun v hv => by simp at hv; subst hv; exact hx) (by unfold maxLen; omega) (by omega) (by rw [World.size_alloc]; omega)
  obtain ⟨bo, c, rfl⟩ : ∃ bo c, v' = .slice bo (n + 1) c := by
    rcases h2.2 with ⟨_, h0⟩ | ⟨g, cap, cur, e, _⟩
    · omega
    · exact ⟨_, _, e⟩
  exact ⟨bo, c, ud, hrun, h2, (((Kept.refl [] u).alloc _).mono (by simp)).trans (Kept.of_grown h3)⟩
def upz {α : Type} (f : Nat → α) (n : Nat) (x : α) : Nat → α := fun i => if i = n then x else f i
theorem range_upz {α β : Type} (f : Nat → α) (k : α → β) (n : Nat) (x : α) : (List.range (n + 1)).map (fun j => k (upz f n x j)) = (List.range n).map (fun j => k (f j)) ++ [k x] := by
  rw [List.range_succ, List.map_append]
  congr 1
  · apply List.map_congr_left
    intro i hi
    have := List.mem_range.1 hi
    unfold upz
    rw [if_neg (by omega)]
  · simp [upz]
/-- What is held so far: aliases that read as marks, and which. -/
structure S3 (W u : World) (VA VW : Value) (na : Nat) (LA : Nat → Value) (LM : Nat → Nat) (ks : List Nat) : Prop where
  all : u.ownsRow W.heap.size 31 1 VA na ((List.range na).map fun j => id (LA j))
  wh : u.ownsRow W.heap.size 3 1 VW na ((List.range na).map fun j => Value.int .i64 (LM j : Int))
  al : ∀ j, j < na → AlE u (LA j) (LM j : Int)
  aty : ∀ j, j < na → ∀ g, (LA j).ownBlock = some g → ∃ cs, u.heap[g]? = some (.cells cs 87 (0, 0))
  kept : Kept ks W u
  lm : ∀ j, j < na → LM j < 3
structure S2 (W u : World) (LL : Nat) (V : Nat → Value) (nn : Nat → Nat) (i : Nat) (X : Value) (n : Nat) (VA VW : Value) (na : Nat) (LA : Nat → Value) (LM : Nat → Nat) (ks : List Nat) : Prop where
  s3 : S3 W u VA VW na LA LM ks
  rest : ∀ t, i < t → t < 3 → u.ownsRow 0 87 3 (V t) (nn t) (lst (pat (t : Int)) (nn t))
  x : u.ownsRow 0 87 3 X n (lst (pat (i : Int)) n)
  xfar : ∀ t, i < t → t < 3 → ∀ g, X.ownBlock = some g → (V t).ownBlock ≠ some g
  afar : ∀ j, j < na → ∀ g, (LA j).ownBlock = some g → (LM j ≠ i → X.ownBlock ≠ some g) ∧ ∀ t, i < t → t < 3 → (V t).ownBlock ≠ some g
  xk : ∀ g, X.ownBlock = some g → g ∈ ks ∨ W.heap.size ≤ g
/-- One alias more. -/
theorem S2.push {W u : World} {LL i n na : Nat} {V : Nat → Value} {nn : Nat → Nat} {X VA VW : Value} {LA : Nat → Value} {LM : Nat → Nat} {ks : List Nat} (h : S2 W u LL V nn i X n VA VW na LA LM ks) (hi : i < 3) (hn : n ≤ 1000000) (hna : na ≤ 1000) :
    ∃ ba ca ua bw cw uw, Sem.run Tryz.prog (Builtin.append_ #[38, 38] 38 #[VA, .slice (some ⟨u.heap.size, 0, none⟩) 1 1]) (u.alloc (.cells #[X] 31 (0, 0))) = .ok (.slice ba (na + 1) ca) ua ∧
      Sem.run Tryz.prog (Builtin.append_ #[78, 78] 78 #[VW, .slice (some ⟨ua.heap.size, 0, none⟩) 1 1]) (ua.alloc (.cells #[.int .i64 (i : Int)] 3 (0, 0))) = .ok (.slice bw (na + 1) cw) uw ∧
      S2 W uw LL V nn i X n (.slice ba (na + 1) ca) (.slice bw (na + 1) cw) (na + 1) (upz LA na X) (upz LM na i) ks := by
  have hX1 : X.oneCell' = true := by
    obtain ⟨ao, c, rfl, _⟩ := own_form3 h.x
    rfl
  obtain ⟨ba, ca, ua, r1, o1, k1⟩ := app_el u W.heap.size VA na _ h.s3.all h.s3.kept.size X hX1 (by omega)
  have hwu : W.heap.size ≤ ua.heap.size := Nat.le_trans h.s3.kept.size k1.size
  have w1 := k1.row h.s3.wh (fun g hg hm => own_dis h.s3.wh h.s3.all (by decide) g hg (by simpa using hm))
  obtain ⟨bw, cw, uw, r2, o2, k2⟩ := app_in ua W.heap.size VW na _ w1 hwu (.int .i64 (i : Int)) rfl (by omega)
  have o1' := k2.row o1 (fun g hg hm => own_dis o1 w1 (by decide) g hg (by simpa using hm))
  have far : ∀ {g : Nat} {cs : Array Value}, u.heap[g]? = some (.cells cs 87 (0, 0)) → ua.heap[g]? = some (.cells cs 87 (0, 0)) ∧ uw.heap[g]? = some (.cells cs 87 (0, 0)) := fun {g cs} hg => by
    have a1 := k1.heap hg (fun hm => absurd (own_ty h.s3.all (by simpa using hm) hg) (by decide))
    exact ⟨a1, k2.heap a1 (fun hm => absurd (own_ty w1 (by simpa using hm) a1) (by decide))⟩
  have rows : ∀ {B m : Nat} {v : Value} {xs : List Value}, u.ownsRow B 87 3 v m xs → uw.ownsRow B 87 3 v m xs := fun {B m v xs} hr => by
    have a1 := k1.row hr (fun g hg hm => own_dis hr h.s3.all (by decide) g hg (by simpa using hm))
    exact k2.row a1 (fun g hg hm => own_dis a1 w1 (by decide) g hg (by simpa using hm))
  have als : ∀ {y : Value} {j : Int}, AlE u y j → (∀ g, y.ownBlock = some g → ∃ cs, u.heap[g]? = some (.cells cs 87 (0, 0))) → AlE uw y j := fun {y j} ha ht => by
    have a1 := ha.kept k1 (fun g hg hm => by
      obtain ⟨cs, hc⟩ := ht g hg
      exact absurd (own_ty h.s3.all (by simpa using hm) hc) (by decide))
    refine a1.kept k2 (fun g hg hm => ?_)
    obtain ⟨cs, hc⟩ := ht g hg
    exact absurd (own_ty w1 (by simpa using hm) (far hc).1) (by decide)
  refine ⟨ba, ca, ua, bw, cw, uw, r1, r2, ⟨?_, ?_, ?_, ?_, ?_, ?_⟩, fun t h1 h2 => rows (h.rest t h1 h2), rows h.x, h.xfar, fun j hj g hg => ?_, h.xk⟩
  · rw [range_upz LA id na X]; exact o1'
  · rw [range_upz LM (fun x => Value.int .i64 (x : Int)) na i]; exact o2
  · intro j hj
    by_cases e : j = na
    · subst e
      unfold upz
      rw [if_pos rfl, if_pos rfl]
      exact als (own_al h.x hn) (fun g hg => own_has h.x hg)
    · unfold upz
      rw [if_neg e, if_neg e]
      exact als (h.s3.al j (by omega)) (h.s3.aty j (by omega))
  · intro j hj g hg
    by_cases e : j = na
    · subst e
      unfold upz at hg
      rw [if_pos rfl] at hg
      obtain ⟨cs, hc⟩ := own_has h.x hg
      exact ⟨cs, (far hc).2⟩
    · unfold upz at hg
      rw [if_neg e] at hg
      obtain ⟨cs, hc⟩ := h.s3.aty j (by omega) g hg
      exact ⟨cs, (far hc).2⟩
  · refine (h.s3.kept.step k1 (fun x hx => .inr (h.s3.all.lt x (by simpa using hx)).1)).step k2 (fun x hx => .inr (h.s3.wh.lt x (by simpa using hx)).1)
  · intro j hj
    by_cases e : j = na
    · subst e; unfold upz; rw [if_pos rfl]; exact hi
    · unfold upz; rw [if_neg e]; exact h.s3.lm j (by omega)
  · by_cases e : j = na
    · subst e
      unfold upz at hg ⊢
      rw [if_pos rfl] at hg
      rw [if_pos rfl]
      exact ⟨fun hne => absurd rfl hne, fun t h1 h2 => h.xfar t h1 h2 g hg⟩
    · unfold upz at hg ⊢
      rw [if_neg e] at hg
      rw [if_neg e]
      exact h.afar j (by omega) g hg
/-- The list grows by a mark. -/
theorem S2.grow {W u : World} {LL i n na : Nat} {V : Nat → Value} {nn : Nat → Nat} {X VA VW : Value} {LA : Nat → Value} {LM : Nat → Nat} {ks : List Nat} (h : S2 W u LL V nn i X n VA VW na LA LM ks) (hn : n ≤ 1000000) :
    ∃ bo c ud, Sem.run Tryz.prog (Builtin.append_ #[31, 31] 31 #[X, .slice (some ⟨u.heap.size, 0, none⟩) 1 1]) (u.alloc (.cells #[.int .i64 (-1 - (i : Int)), .int .i64 0, .int .u32 0] 87 (0, 0))) = .ok (.slice bo (n + 1) c) ud ∧
      S2 W ud LL V nn i (.slice bo (n + 1) c) (n + 1) VA VW na LA LM ks := by
  obtain ⟨bo, c, ud, r, o, k, l, ty, a⟩ := app_mark u X n (i : Int) h.x hn
  have hnew : ∀ {g : Nat}, g < u.heap.size → X.ownBlock ≠ some g → (Value.slice bo (n + 1) c).ownBlock ≠ some g := fun {g} hg hne e => by
    rcases l with l | ⟨g', l, hl⟩
    · rw [l] at e; exact hne e
    · rw [l] at e
      simp at e
      omega
  refine ⟨bo, c, ud, r, ⟨k.row h.s3.all (fun g hg hm => own_dis h.s3.all h.x (by decide) g hg (by simpa using hm)), k.row h.s3.wh (fun g hg hm => own_dis h.s3.wh h.x (by decide) g hg (by simpa using hm)), fun j hj => ?_, fun j hj g hg => ?_, ?_, h.s3.lm⟩, fun t h1 h2 => k.row (h.rest t h1 h2) (fun g hg hm => h.xfar t h1 h2 g (by simpa using hm) hg), o, fun t h1 h2 g hg => ?_, fun j hj g hg => ⟨fun hne => ?_, (h.afar j hj g hg).2⟩, fun g hg => ?_⟩
  · refine a _ _ (h.s3.al j hj) (fun g hg hx => ?_)
    by_cases e : LM j = i
    · rw [e]
    · exact absurd hx ((h.afar j hj g hg).1 e)
  · obtain ⟨cs, hc⟩ := h.s3.aty j hj g hg
    exact ty g cs hc
  · exact h.s3.kept.step k (fun x hx => h.xk x (by simpa using hx))
  · rcases l with l | ⟨g', l, hl⟩
    · rw [l] at hg; exact h.xfar t h1 h2 g hg
    · rw [l] at hg
      simp at hg
      subst hg
      intro e
      have := ((h.rest t h1 h2).lt _ e).2
      omega
  · obtain ⟨cs, hc⟩ := h.s3.aty j hj g hg
    exact hnew (lt_of_block hc) ((h.afar j hj g hg).1 hne)
  · rcases l with l | ⟨g', l, hl⟩
    · rw [l] at hg; exact h.xk g hg
    · rw [l] at hg
      simp at hg
      subst hg
      exact .inr (Nat.le_trans h.s3.kept.size hl)
end Go.Proofs.YthhegomjipbdbaaGreatDoor.Pc

namespace Go.Proofs.YthhegomjipbdbaaGreatDoor.Pc
open Go.RowKit

/-- Between two lists. -/
theorem S2.next {W u : World} {LL i n na : Nat} {V : Nat → Value} {nn : Nat → Nat} {X VA VW : Value} {LA : Nat → Value} {LM : Nat → Nat} {ks : List Nat} (h : S2 W u LL V nn i X n VA VW na LA LM ks) (hi : i + 1 < 3) (hap : ∀ s t, s < 3 → t < 3 → s ≠ t → ∀ g, (V s).ownBlock = some g → (V t).ownBlock ≠ some g) (hV : ∀ g, (V (i + 1)).ownBlock = some g → g ∈ ks) :
    S2 W u LL V nn (i + 1) (V (i + 1)) (nn (i + 1)) VA VW na LA LM ks :=
  ⟨h.s3, fun t h1 h2 => h.rest t (by omega) h2, h.rest (i + 1) (by omega) hi, fun t h1 h2 g hg => hap (i + 1) t hi h2 (by omega) g hg, fun j hj g hg => ⟨fun _ => (h.afar j hj g hg).2 (i + 1) (by omega) hi, fun t h1 h2 => (h.afar j hj g hg).2 t (by omega) h2⟩, fun g hg => .inl (hV g hg)⟩
theorem S3.fin {W u u' : World} {VA VW : Value} {na : Nat} {LA : Nat → Value} {LM : Nat → Nat} {ks : List Nat} (h : S3 W u VA VW na LA LM ks) (hk : Kept [] u u') : S3 W u' VA VW na LA LM ks :=
  ⟨hk.row h.all (by simp), hk.row h.wh (by simp), fun j hj => (h.al j hj).keep hk, fun j hj g hg => by
    obtain ⟨cs, hc⟩ := h.aty j hj g hg
    exact ⟨cs, hk.heap hc (by simp)⟩, h.kept.step hk (by simp), h.lm⟩
theorem own_some1 {w : World} {base e n : Nat} {v : Value} {xs : List Value} (h : w.ownsRow base e 1 v n xs) (hn : 0 < n) : ∃ g cap, v = .slice (some ⟨g, 0, none⟩) n cap := by
  rcases h.2 with ⟨_, h1⟩ | ⟨g, cap, cur, h1, _⟩
  · omega
  · exact ⟨g, cap, h1⟩

set_option maxHeartbeats 16000000 in
set_option maxRecDepth 1000000 in
/-- entriesOwn. -/
theorem eown_any (LL : Nat) (V : Nat → Value) (nn : Nat → Nat) (f : Nat → Nat → Value) (w : World) (h : E3 w LL V nn f) (hn : ∀ t, t < 3 → nn t ≤ 100000) :
    Calls Tryz.prog 11 #[.slice (some ⟨LL, 0, none⟩) 3 3] w fun e w' => e = .returned (.bool true) ∧ Kept ((V 0).ownBlock.toList ++ ((V 1).ownBlock.toList ++ (V 2).ownBlock.toList)) w w' := by
  obtain ⟨ks, eks⟩ : ∃ ks, (V 0).ownBlock.toList ++ ((V 1).ownBlock.toList ++ (V 2).ownBlock.toList) = ks := ⟨_, rfl⟩
  have HKS : Hid (∀ t, t < 3 → ∀ g, (V t).ownBlock = some g → g ∈ ks) := Hid.mk (fun t ht g hg => by
    rw [← eks]
    rcases (by omega : t = 0 ∨ t = 1 ∨ t = 2) with rfl | rfl | rfl <;> simp [hg])
  have HLK : Hid (LL ∉ ks) := Hid.mk (fun hm => by
    rw [← eks] at hm
    simp only [List.mem_append, Option.mem_toList] at hm
    rcases hm with e | e | e
    · exact absurd (own_ty (h.row 0 (by omega)) e h.box) (by decide)
    · exact absurd (own_ty (h.row 1 (by omega)) e h.box) (by decide)
    · exact absurd (own_ty (h.row 2 (by omega)) e h.box) (by decide))
  rw [eks]
  have HN := Hid.mk hn
  have HAP := Hid.mk h.ap
  have HE : Hid (E3 w LL V nn (mkd f 0 0)) := Hid.mk ⟨h.box, fun t ht => by
    have := h.row t ht
    rw [lst_congr (g := mkd f 0 0 t) (fun q _ => by unfold mkd; rw [if_neg (by omega)])] at this
    exact this, h.ap⟩
  clear h hn eks
  go_enter Tryz.func11, Tryz.ntmps11
  go_wp2
  go_loopw [5, 6] (fun i _ wr => ∃ t : Nat, t ≤ 3 ∧ i = .int .i64 (t : Int) ∧ E3 wr LL V nn (mkd f t 0) ∧ Kept ks w wr) (fun i _ _ => 3 - (intOf i).toNat)
  case atStart => exact ⟨0, by omega, rfl, HE.out, Kept.refl _ _⟩
  case round =>
    obtain ⟨t, ht, rfl, hE, hkr⟩ := hrel
    have HE1 := Hid.mk hE
    have HK1 := Hid.mk hkr
    clear hE hkr
    by_cases hlt : t < 3
    · have it : (t : Int) < 3 := by omega
      have c0 := HE1.out.at hlt
      obtain ⟨ao, c, eV, hao⟩ := own_form3 (HE1.out.row t hlt)
      rw [eV] at c0
      obtain ⟨n, en⟩ : ∃ n, nn t = n := ⟨_, rfl⟩
      have hn := HN.out t hlt
      rw [en] at c0 eV hao hn
      have HV := Hid.mk (And.intro eV hao)
      have EN := Hid.mk en
      clear eV hao en
      go_wp2
      go_loopw [6] (fun k wr => ∃ j : Nat, j ≤ n ∧ k = .int .i64 (j : Int) ∧ E3 wr LL V nn (mkd f t j) ∧ Kept ks w wr) (fun k _ => n - (intOf k).toNat)
      case atStart => exact ⟨0, by omega, rfl, HE1.out, HK1.out⟩
      case round =>
        obtain ⟨j, hj, rfl, hE, hkr⟩ := hrel
        have HE2 := Hid.mk hE
        have HK2 := Hid.mk hkr
        have c1 := hE.at hlt
        rw [HV.out.1] at c1
        clear hE hkr c0
        by_cases hlj : j < n
        · have ij : (j : Int) < (n : Int) := by omega
          obtain ⟨g, rfl⟩ := HV.out.2 (by omega)
          have hr := HE2.out.row t hlt
          rw [HV.out.1, EN.out] at hr
          obtain ⟨oc, of⟩ := own_cells hr
          have l0 := oc (j * 3) (by omega)
          have l1 := oc (j * 3 + 1) (by omega)
          have l2 := oc (j * 3 + 2) (by omega)
          have f0 := of (j * 3)
          have f1 := of (j * 3 + 1)
          have f2 := of (j * 3 + 2)
          have hm := HE2.out.mark hlt (by rw [EN.out]; exact hlj) (by rw [HV.out.1, EN.out])
          have HM := Hid.mk (And.intro hm.1 (HK2.out.trans (hm.2.mono (fun x hx => .inl (by rw [List.mem_singleton] at hx; rw [hx]; exact HKS.out t hlt g (by rw [HV.out.1]; rfl))))))
          have v1 : IntKind.i64.wrap (-1 - (t : Int)) = -1 - (t : Int) := Tl.wrap_i (by omega) (by omega)
          clear hr oc of hm
          go_wp2
          exact ⟨⟨j + 1, by omega, by go_num, HM.out⟩, by simp [intOf]; omega⟩
        · obtain rfl : j = n := by omega
          have HM : Hid (E3 _ LL V nn (mkd f (t + 1) 0)) := Hid.mk ⟨HE2.out.box, fun s hs => by
            have := HE2.out.row s hs
            rw [lst_congr (g := mkd f (t + 1) 0 s) (fun q hq => by
              unfold mkd
              by_cases e : s = t
              · subst e
                rw [EN.out] at hq
                rw [if_pos (.inr ⟨rfl, hq⟩), if_pos (.inl (by omega))]
              · by_cases e2 : s < t
                · rw [if_pos (.inl e2), if_pos (.inl (by omega))]
                · rw [if_neg (by omega), if_neg (by omega)])] at this
            exact this, HE2.out.ap⟩
          go_wp2
          exact ⟨⟨t + 1, by omega, by go_num, HM.out, HK2.out⟩, by simp [intOf]; omega⟩
    · obtain ⟨t3, et3⟩ : ∃ t3, t3 = t := ⟨_, rfl⟩
      rw [← et3] at HE1 ⊢
      obtain ⟨W, eW⟩ : ∃ W, W = wr := ⟨_, rfl⟩
      rw [← eW] at HE1 HK1 ⊢
      have ht3 : ¬ ((t3 : Nat) : Int) < 3 := by omega
      have hT3 : 3 ≤ t3 := by omega
      have HRW : Hid (∀ s, s < 3 → W.ownsRow 0 87 3 (V s) (nn s) (lst (pat (s : Int)) (nn s))) := Hid.mk (fun s hs => by
        have := HE1.out.row s hs
        rw [lst_congr (g := pat (s : Int)) (fun q _ => by unfold mkd; rw [if_pos (.inl (by omega))])] at this
        exact this)
      have HBX := Hid.mk HE1.out.box
      have HS0 : Hid (S2 W W LL V nn 0 (V 0) (nn 0) (.slice none 0 0) (.slice none 0 0) 0 (fun _ => .slice none 0 0) (fun _ => 0) ks) := Hid.mk ⟨⟨World.ownsRow_nil _ _ _ _, World.ownsRow_nil _ _ _ _, fun j hj => by omega, fun j hj => by omega, Kept.refl _ _, fun j hj => by omega⟩, fun s h1 h2 => HRW.out s h2, HRW.out 0 (by omega), fun s h1 h2 g hg => HAP.out 0 s (by omega) h2 (by omega) g hg, fun j hj => by omega, fun g hg => .inl (HKS.out 0 (by omega) g hg)⟩
      have HLL : Hid (LL < W.heap.size ∧ LL ∉ ks) := Hid.mk ⟨lt_of_block HBX.out, HLK.out⟩
      clear et3 eW hlt ht HE1 HE
      go_wp2
      go_loopw [3, 4, 7, 8, 9] (fun va vw i _ _ wr => ∃ (s : Nat) (LA : Nat → Value) (LM : Nat → Nat), s ≤ 3 ∧ i = .int .i64 (s : Int) ∧ S3 W wr va vw (21 * s) LA LM ks ∧ (s < 3 → S2 W wr LL V nn s (V s) (nn s) va vw (21 * s) LA LM ks)) (fun _ _ i _ _ _ => 3 - (intOf i).toNat)
      case atStart => exact ⟨0, _, _, by omega, rfl, HS0.out.s3, fun _ => HS0.out⟩
      case round =>
        obtain ⟨s, LA, LM, hs, rfl, h3, h2⟩ := hrel
        have H3 := Hid.mk h3
        have H2 := Hid.mk h2
        have hbx := h3.kept.heap HBX.out HLL.out.2
        clear h3 h2
        by_cases hls : s < 3
        · have is : (s : Int) < 3 := by omega
          have c0 : wr.cell? ⟨LL, s, none⟩ = some (V s) := by
            rcases (by omega : s = 0 ∨ s = 1 ∨ s = 2) with rfl | rfl | rfl
            · exact cellAt hbx rfl
            · exact cellAt hbx rfl
            · exact cellAt hbx rfl
          have HS := Hid.mk (H2.out hls)
          obtain ⟨n, en⟩ : ∃ n, nn s = n := ⟨_, rfl⟩
          have hnb := HN.out s hls
          rw [en] at HS hnb
          have EN := Hid.mk en
          clear hbx H2 en H3
          go_wp2
          go_loopw [3, 4, 8, 9] (fun va vw x k wr => ∃ (j : Nat) (LA : Nat → Value) (LM : Nat → Nat), j ≤ 20 ∧ k = .int .i64 (j : Int) ∧ S2 W wr LL V nn s x (n + j) va vw (21 * s + j) LA LM ks) (fun _ _ _ k _ => 20 - (intOf k).toNat)
          case atStart => exact ⟨0, LA, LM, by omega, rfl, HS.out⟩
          case round =>
            obtain ⟨j, LA', LM', hj, rfl, hS⟩ := hrel
            obtain ⟨xo, xc, ex, _⟩ := own_form3 hS.x
            subst ex
            obtain ⟨ba, ca, ua, bw, cw, uw, r1, r2, hS2⟩ := hS.push hls (by omega) (by omega)
            have R1 := Hid.mk r1
            have R2 := Hid.mk r2
            clear hS c0 r1 r2
            by_cases hlj : j < 20
            · have ij : (j : Int) < 20 := by omega
              obtain ⟨bo, cx, ud, r3, hS3⟩ := hS2.grow (by omega)
              have HS3 := Hid.mk hS3
              have R3 := Hid.mk r3
              have v1 : IntKind.i64.wrap (-1 - (s : Int)) = -1 - (s : Int) := Tl.wrap_i (by omega) (by omega)
              clear hS2 hS3 r3
              go_wp2_with (first | (at_builtin; refine wpl_app _ rfl _ _ 38 rfl _ _ _ _ R1.out rfl rfl ?_) | (at_builtin; refine wpl_app _ rfl _ _ 78 rfl _ _ _ _ R2.out rfl rfl ?_) | (at_builtin; refine wpl_app _ rfl _ _ 31 rfl _ _ _ _ R3.out rfl rfl ?_))
              exact ⟨⟨j + 1, _, _, by omega, by go_num, HS3.out⟩, by simp [intOf]; omega⟩
            · obtain ⟨j5, ej5⟩ : ∃ j5, j5 = j := ⟨_, rfl⟩
              rw [← ej5] at hS2 R1 R2 ⊢
              have ij : ¬ (j5 : Int) < 20 := by omega
              have hj5 : 21 * s + j5 + 1 = 21 * (s + 1) := by omega
              rw [hj5] at hS2
              have HS3 := Hid.mk hS2.s3
              have HS4 := Hid.mk (fun (hs3 : s + 1 < 3) => hS2.next hs3 HAP.out (HKS.out (s + 1) hs3))
              clear ej5 hS2 hlj hj
              go_wp2_with (first | (at_builtin; refine wpl_app _ rfl _ _ 38 rfl _ _ _ _ R1.out rfl rfl ?_) | (at_builtin; refine wpl_app _ rfl _ _ 78 rfl _ _ _ _ R2.out rfl rfl ?_))
              exact ⟨⟨s + 1, _, _, by omega, by go_num, HS3.out, fun h => HS4.out h⟩, by simp [intOf]; omega⟩
        · obtain ⟨na, ena⟩ : ∃ na, 21 * s = na := ⟨_, rfl⟩
          have h3 := H3.out
          rw [ena] at h3
          obtain ⟨gA, cA, eA⟩ := own_some1 h3.all (by omega)
          obtain ⟨gW, cW, eW⟩ := own_some1 h3.wh (by omega)
          subst eA
          subst eW
          have H4 := Hid.mk h3
          have iNA : na ≤ 63 := by omega
          have is : ¬ (s : Int) < 3 := by omega
          clear H2 h3 hbx ena H3 hs hls
          go_wp2
          obtain ⟨we, ewe⟩ : ∃ we, we = wr := ⟨_, rfl⟩
          rw [← ewe] at H4 ⊢
          clear ewe
          go_loopw [10, 11] (fun i _ wx => ∃ j : Nat, j ≤ na ∧ i = .int .i64 (j : Int) ∧ Kept [] we wx) (fun i _ _ => na - (intOf i).toNat)
          case atStart => exact ⟨0, by omega, rfl, Kept.refl _ _⟩
          case round =>
            obtain ⟨j, hj, rfl, hkj⟩ := hrel
            have HJ := Hid.mk hkj
            by_cases hlj : j < na
            · have ij : (j : Int) < (na : Int) := by omega
              obtain ⟨ao, m, c, ela, hmb, hal⟩ := H4.out.al j hlj
              have cA1 : we.cell? ⟨gA, j, none⟩ = some (.slice ao m c) := by
                rw [← ela, H4.out.all.cellAt j (by omega)]
                simp [hlj]
              have cW1 : we.cell? ⟨gW, j, none⟩ = some (.int .i64 (LM j : Int)) := by
                rw [H4.out.wh.cellAt j (by omega)]
                simp [hlj]
              have hlm := H4.out.lm j hlj
              obtain ⟨lm, elm⟩ : ∃ lm, LM j = lm := ⟨_, rfl⟩
              rw [elm] at cW1 hlm hal
              have HAL := Hid.mk hal
              have CA := Hid.mk (And.intro cA1 cW1)
              have cA2 := Tl.cell_keep hkj cA1 (by simp)
              clear hal ela elm hkj cA1 cW1
              go_wp2
              go_loopw [11] (fun k wx => ∃ q : Nat, q ≤ m ∧ k = .int .i64 (q : Int) ∧ Kept [] we wx) (fun k _ => m - (intOf k).toNat)
              case atStart => exact ⟨0, by omega, rfl, HJ.out⟩
              case round =>
                obtain ⟨q, hq, rfl, hkq⟩ := hrel
                have HQ := Hid.mk hkq
                have cA3 := Tl.cell_keep hkq CA.out.1 (by simp)
                have cW3 := Tl.cell_keep hkq CA.out.2 (by simp)
                clear cA2
                by_cases hlq : q < m
                · have iq : (q : Int) < (m : Int) := by omega
                  obtain ⟨g, rfl, hc⟩ := HAL.out.resolve_left (by omega)
                  have l0 := Tl.cell_keep hkq (hc (q * 3) (by omega)) (by simp)
                  have l1 := Tl.cell_keep hkq (hc (q * 3 + 1) (by omega)) (by simp)
                  have l2 := Tl.cell_keep hkq (hc (q * 3 + 2) (by omega)) (by simp)
                  rw [show pat (lm : Int) (q * 3) = .int .i64 (-1 - (lm : Int)) by unfold pat; rw [if_pos (by omega)]] at l0
                  rw [show pat (lm : Int) (q * 3 + 1) = .int .i64 0 by unfold pat; rw [if_neg (by omega), if_pos (by omega)]] at l1
                  rw [show pat (lm : Int) (q * 3 + 2) = .int .u32 0 by unfold pat; rw [if_neg (by omega), if_neg (by omega)]] at l2
                  have v1 : IntKind.i64.wrap (-1 - (lm : Int)) = -1 - (lm : Int) := Tl.wrap_i (by omega) (by omega)
                  clear hkq hc
                  go_wp2_with (fail)
                  go_quiet (fail)
                  clear l0 l1 l2 cA3 cW3
                  go_wp2
                  exact ⟨⟨q + 1, by omega, by go_num, HQ.out.drewN _⟩, by simp [intOf]; omega⟩
                · obtain rfl : q = m := by omega
                  clear hkq
                  go_wp2
                  exact ⟨⟨j + 1, by omega, by go_num, HQ.out⟩, by simp [intOf]; omega⟩
            · have ij : ¬ (j : Int) < (na : Int) := fun h => hlj (Int.ofNat_lt.1 h)
              clear hkj
              have HF := Hid.mk (HK1.out.trans (H4.out.kept.trans (HJ.out.mono (by simp))))
              clear H4 HJ HS0 HRW HAP HKS HN hlj hj iNA
              go_wp2
              trace_state
              go_ret
              exact ⟨rfl, HF.out⟩
end Go.Proofs.YthhegomjipbdbaaGreatDoor.Pc
