import Derived.Test.YtgjjnkhkjnkahaaDoorLa
namespace Go.Proofs.YtgjjnkhkjnkahaaDoor
open Go.RowKit

/-- append of one value onto a list of one's own. -/
theorem wpList_app1 (w : World) {ops : Array Oper} {rest : List Oper} {o : Oper} {a : Act} {Q : Exit → Act → World → Prop} (hgd : o.guard = none) (s x : Operand) (t B e : Nat) (i0 : TypeInfo) (z : Value) (by_ : Nat)
    (hu : Tryd.prog.underlying t = some (.slice e)) (hi : Tryd.prog.info? e = some i0) (hz0 : i0.zero = some z) (hz1 : i0.size = 1) (hz2 : i0.bytes = by_) (hzz : z.cells.size = 1)
    (ho : o.op = .call { callee := .builtin .append, args := #[s, x], argTypes := #[t, t] })
    (v : Value) (n : Nat) (xs : List Value) (hs : a.eval s = v) (hown : w.ownsRow B e 1 v n xs) (y : Value) (hx : a.eval x = .slice (some ⟨w.heap.size, 0, none⟩) 1 1) (hone : y.oneCell' = true) (hB : B ≤ w.heap.size) (hb : n + 1 ≤ 140737488355328) (hb2 : (n + 1) * by_ ≤ 140737488355328)
    (h : ∀ v' w', w'.ownsRow B e 1 v' (n + 1) (xs ++ [y]) → Kept v.ownBlock.toList w w' → Lies w v v' → wpList Tryd.prog ops Q rest (a.put o.dst v') w') :
    wpList Tryd.prog ops Q (o :: rest) a (w.alloc (.cells #[y] e)) := by
  refine wpList_append_own_at _ hgd s x t ho B e i0 z 1 by_ hu hi hz0 hz1 hz2 hzz (by decide) v n xs hs (hown.alloc _) ⟨w.heap.size, 0, none⟩ 1 1 [y] hx rfl (cell_one_new _ _ _) (fun u hu => by simp at hu; subst hu; exact hone) (by unfold maxLen; omega) (by exact hb2) (by rw [World.size_alloc]; omega) ?_
  intro v' w' h2 h3 _ h5
  refine h v' w' h2 (((Kept.refl _ w).alloc _).step (Kept.of_grown h3) (fun x hx => .inl hx)) ?_
  rcases h5 with h | h
  · exact .inl h
  · exact .inr ⟨_, h, by rw [World.size_alloc]; omega⟩

theorem own_suc {W : World} {base : Nat} {e : TypeId} {size : Nat} {v : Value} {k : Nat} {xs : List Value} (h : W.ownsRow base e size v (k + 1) xs) : ∃ g cap, v = .slice (some ⟨g, 0, none⟩) (k + 1) cap := by
  rcases h.2 with ⟨_, h0⟩ | ⟨g, cap, _, rfl, _⟩
  · omega
  · exact ⟨g, cap, rfl⟩
/-- A row as a value. -/
abbrev slv (b n c : Nat) : Value := .slice (some ⟨b, 0, none⟩) n c
theorem own_row {w : World} {B n b m : Nat} {V : Value} {xs : List Value} {f : Nat → Nat} (h : w.ownsRow B 37 1 V n xs) (hr : Row w b m f) : V.ownBlock ≠ some b := by
  intro e
  rcases h.2 with ⟨rfl, _⟩ | ⟨g, cap, cur, rfl, _, hg, _⟩
  · simp [Value.ownBlock] at e
  · simp [Value.ownBlock] at e
    subst e
    unfold Row at hr
    rw [hg] at hr
    simp at hr
theorem own_other {w : World} {B n b t : Nat} {V : Value} {xs : List Value} {cs : Array Value} (h : w.ownsRow B 37 1 V n xs) (hb : w.heap[b]? = some (.cells cs t (0, 0))) (ht : t ≠ 37) : V.ownBlock ≠ some b := by
  intro e
  rcases h.2 with ⟨rfl, _⟩ | ⟨g, cap, cur, rfl, _, hg, _⟩
  · simp [Value.ownBlock] at e
  · simp [Value.ownBlock] at e
    subst e
    rw [hg] at hb
    simp at hb
    exact ht hb.2.symm
/-- A list of rows that grows. -/
structure Gx (B : Nat) (w : World) (V : Value) (k : Nat) (bs ln : Nat → Nat) (F : Nat → Nat → Nat) : Prop where
  own : w.ownsRow B 37 1 V k (fl (fun i => slv (bs i) (ln i) (ln i)) k)
  row : ∀ i, i < k → Row w (bs i) (ln i) (F i)
  mon : ∀ i j, i < j → j < k → bs i < bs j
  lo : ∀ i, i < k → B ≤ bs i
theorem Gx.start (B : Nat) (w : World) (bs ln : Nat → Nat) (F : Nat → Nat → Nat) : Gx B w (.slice none 0 0) 0 bs ln F :=
  ⟨⟨rfl, .inl ⟨rfl, rfl⟩⟩, fun i h => by omega, fun i j h1 h2 => by omega, fun i h => by omega⟩
theorem Gx.keep {B : Nat} {w w' : World} {V : Value} {k : Nat} {bs ln : Nat → Nat} {F : Nat → Nat → Nat} {ks : List Nat} (h : Gx B w V k bs ln F) (hk : Kept ks w w') (h1 : ∀ g, V.ownBlock = some g → g ∉ ks) (h2 : ∀ i, i < k → bs i ∉ ks) : Gx B w' V k bs ln F :=
  ⟨hk.row h.own h1, fun i hi => (h.row i hi).keep hk (h2 i hi), h.mon, h.lo⟩
theorem Gx.keep0 {B : Nat} {w w' : World} {V : Value} {k : Nat} {bs ln : Nat → Nat} {F : Nat → Nat → Nat} (h : Gx B w V k bs ln F) (hk : Kept [] w w') : Gx B w' V k bs ln F := h.keep hk (by simp) (by simp)
/-- One row more. -/
theorem Gx.step {B : Nat} {w w' : World} {V V' : Value} {k b : Nat} {bs ln : Nat → Nat} {F : Nat → Nat → Nat} (h : Gx B w V k bs ln F) (hr : Row w b (ln k) (F k)) (hb : ∀ i, i < k → bs i < b) (hB : B ≤ b)
    (ho : w'.ownsRow B 37 1 V' (k + 1) (fl (fun i => slv (bs i) (ln i) (ln i)) k ++ [slv b (ln k) (ln k)])) (hk : Kept V.ownBlock.toList w w') : Gx B w' V' (k + 1) (nx bs k b) ln F := by
  refine ⟨?_, fun i hi => ?_, fun i j h1 h2 => ?_, fun i hi => ?_⟩
  · rw [show [slv b (ln k) (ln k)] = fl (fun _ => slv b (ln k) (ln k)) 1 from rfl, fl_append] at ho
    rw [fl_congr (g := fun i => if i < k then slv (bs i) (ln i) (ln i) else slv b (ln k) (ln k))]
    · exact ho
    · intro i hi
      by_cases e : i = k
      · subst e; rw [if_neg (by omega), show nx bs i b i = b from if_pos rfl]
      · rw [if_pos (by omega), show nx bs k b i = bs i from if_neg e]
  · by_cases e : i = k
    · subst e
      rw [show nx bs i b i = b from if_pos rfl]
      exact hr.keep hk (by rw [mem_own]; exact own_row h.own hr)
    · rw [show nx bs k b i = bs i from if_neg e]
      have := h.row i (by omega)
      exact this.keep hk (by rw [mem_own]; exact own_row h.own this)
  · rw [show nx bs k b i = bs i from if_neg (by omega)]
    by_cases e : j = k
    · subst e; rw [show nx bs j b j = b from if_pos rfl]; exact hb i h1
    · rw [show nx bs k b j = bs j from if_neg e]; exact h.mon i j h1 (by omega)
  · by_cases e : i = k
    · subst e; rw [show nx bs i b i = b from if_pos rfl]; exact hB
    · rw [show nx bs k b i = bs i from if_neg e]; exact h.lo i (by omega)
/-- Its cells. -/
theorem Gx.cell {B : Nat} {w : World} {V : Value} {k : Nat} {bs ln : Nat → Nat} {F : Nat → Nat → Nat} (h : Gx B w V k bs ln F) (hk : 0 < k) : ∃ g cap, V = .slice (some ⟨g, 0, none⟩) k cap ∧ B ≤ g ∧ g < w.heap.size ∧ (∃ cs, w.heap[g]? = some (.cells cs 37 (0, 0))) ∧ ∀ i, i < k → w.cell? ⟨g, i, none⟩ = some (slv (bs i) (ln i) (ln i)) := by
  rcases h.own.2 with ⟨_, h0⟩ | ⟨g, cap, cur, rfl, hb, hg, _⟩
  · omega
  · refine ⟨g, cap, rfl, hb, lt_of_block hg, ⟨_, hg⟩, fun i hi => ?_⟩
    have hc := h.own.cells (g := g) rfl i _ (fl_at _ k i hi)
    have hadd : (⟨g, 0, none⟩ : Addr).add i = ⟨g, 0 + i, none⟩ := by unfold Addr.add; split <;> simp_all
    rw [hadd, Nat.zero_add] at hc
    exact hc

/-- What stands in a lent frame's list. -/
def lsC (bs ln : Nat → Nat) (k : Nat) : Nat → Value := fun i => if i < k then slv (bs i) (ln i) (ln i + 7) else .slice none 0 0
/-- A frame that is lent. -/
structure Ln (w0 w : World) (LB : Nat) (V : Value) (n : Nat) (bs ln : Nat → Nat) (F : Nat → Nat → Nat) : Prop where
  lst : w.heap[LB]? = some (.cells (fl (lsC bs ln n) (n + 2)).toArray 37 (0, 0))
  all : Gx w0.heap.size w V n bs (fun i => ln i + 7) F
  new : w0.heap.size ≤ LB
  oth : V.ownBlock ≠ some LB
  kept : Kept [] w0 w
/-- Seven cells. -/
theorem seven {w : World} {B t : Nat} {a b c d e f g : Value} (h : w.heap[B]? = some (.cells #[a, b, c, d, e, f, g] t (0, 0))) :
    (w.cell? ⟨B, 0, none⟩ = some a ∧ w.cell? ⟨B, 1, none⟩ = some b ∧ w.cell? ⟨B, 2, none⟩ = some c ∧ w.cell? ⟨B, 3, none⟩ = some d ∧ w.cell? ⟨B, 4, none⟩ = some e ∧ w.cell? ⟨B, 5, none⟩ = some f ∧ w.cell? ⟨B, 6, none⟩ = some g) ∧
    (w.frozen? ⟨B, 0, none⟩ = false ∧ w.frozen? ⟨B, 1, none⟩ = false ∧ w.frozen? ⟨B, 2, none⟩ = false ∧ w.frozen? ⟨B, 3, none⟩ = false ∧ w.frozen? ⟨B, 4, none⟩ = false ∧ w.frozen? ⟨B, 5, none⟩ = false ∧ w.frozen? ⟨B, 6, none⟩ = false) := by
  refine ⟨⟨?_, ?_, ?_, ?_, ?_, ?_, ?_⟩, ⟨?_, ?_, ?_, ?_, ?_, ?_, ?_⟩⟩
  all_goals first | (rw [cell_of_row _ _ _ _ _ _ h]; rfl) | (simp [World.frozen?, h])
/-- Seven cells are written. -/
theorem set7 {w : World} {B t : Nat} {a b c d e f g : Value} (a' b' c' d' e' f' g' : Value) (h : w.heap[B]? = some (.cells #[a, b, c, d, e, f, g] t (0, 0))) :
    (((((((w.setCell ⟨B, 0, none⟩ a').setCell ⟨B, 1, none⟩ b').setCell ⟨B, 2, none⟩ c').setCell ⟨B, 3, none⟩ d').setCell ⟨B, 4, none⟩ e').setCell ⟨B, 5, none⟩ f').setCell ⟨B, 6, none⟩ g').heap[B]? = some (.cells #[a', b', c', d', e', f', g'] t (0, 0)) ∧
    Kept [B] w (((((((w.setCell ⟨B, 0, none⟩ a').setCell ⟨B, 1, none⟩ b').setCell ⟨B, 2, none⟩ c').setCell ⟨B, 3, none⟩ d').setCell ⟨B, 4, none⟩ e').setCell ⟨B, 5, none⟩ f').setCell ⟨B, 6, none⟩ g') :=
by
  have h0 : (w.setCell ⟨B, 0, none⟩ a').heap[B]? = some (.cells #[a', b, c, d, e, f, g] t (0, 0)) := heap_setCell_at h
  have k0 : Kept [B] w (w.setCell ⟨B, 0, none⟩ a') := (Kept.refl [B] w).setCell (p := ⟨B, 0, none⟩) (.inl (by simp)) _
  generalize w.setCell ⟨B, 0, none⟩ a' = w0 at h0 k0 ⊢
  have h1 : (w0.setCell ⟨B, 1, none⟩ b').heap[B]? = some (.cells #[a', b', c, d, e, f, g] t (0, 0)) := heap_setCell_at h0
  have k1 := k0.setCell (p := ⟨B, 1, none⟩) (.inl (by simp)) b'
  generalize w0.setCell ⟨B, 1, none⟩ b' = w1 at h1 k1 ⊢
  have h2 : (w1.setCell ⟨B, 2, none⟩ c').heap[B]? = some (.cells #[a', b', c', d, e, f, g] t (0, 0)) := heap_setCell_at h1
  have k2 := k1.setCell (p := ⟨B, 2, none⟩) (.inl (by simp)) c'
  generalize w1.setCell ⟨B, 2, none⟩ c' = w2 at h2 k2 ⊢
  have h3 : (w2.setCell ⟨B, 3, none⟩ d').heap[B]? = some (.cells #[a', b', c', d', e, f, g] t (0, 0)) := heap_setCell_at h2
  have k3 := k2.setCell (p := ⟨B, 3, none⟩) (.inl (by simp)) d'
  generalize w2.setCell ⟨B, 3, none⟩ d' = w3 at h3 k3 ⊢
  have h4 : (w3.setCell ⟨B, 4, none⟩ e').heap[B]? = some (.cells #[a', b', c', d', e', f, g] t (0, 0)) := heap_setCell_at h3
  have k4 := k3.setCell (p := ⟨B, 4, none⟩) (.inl (by simp)) e'
  generalize w3.setCell ⟨B, 4, none⟩ e' = w4 at h4 k4 ⊢
  have h5 : (w4.setCell ⟨B, 5, none⟩ f').heap[B]? = some (.cells #[a', b', c', d', e', f', g] t (0, 0)) := heap_setCell_at h4
  have k5 := k4.setCell (p := ⟨B, 5, none⟩) (.inl (by simp)) f'
  generalize w4.setCell ⟨B, 5, none⟩ f' = w5 at h5 k5 ⊢
  exact ⟨heap_setCell_at h5, k5.setCell (p := ⟨B, 6, none⟩) (.inl (by simp)) g'⟩
/-- A lent frame as a value. -/
abbrev lnv (W H D : Int) (A : Bool) (p q r : Value) : Value := .agg #[.int .i64 W, .int .i64 H, .int .i64 D, .bool A, p, q, r]

end Go.Proofs.YtgjjnkhkjnkahaaDoor
