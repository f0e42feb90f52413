import Derived.Test.YthkpligodbkofaaGreatDoortB2Z
import Derived.Maps.AppendAt
import Derived.Test.YthkpligodbkofaaGreatDoorpGZ
namespace Go.Proofs.YthkpligodbkofaaGreatDoor.Tl
open Go.RowKit

/-- Making a list of samples, as long as may be. -/
theorem make_long (r : Nat) (m : Int) (hm : m = (r : Int)) (hr : r ≤ 140737488355328) : ∃ mkW : World → World, (∀ w, Sem.run Tryz.prog (Instr.makeSlice 66 (.int .i64 m) (.int .i64 m)) w = .ok (.slice (some ⟨w.heap.size, 0, none⟩) r r) (mkW w)) ∧ ∀ w, Row (mkW w) w.heap.size r (fun _ => 0) ∧ Kept [] w (mkW w) := by
  subst hm
  obtain ⟨j0, gi, gz0, gz1, gz2⟩ := info_parts Tryz.info67
  have h : ∀ w : World, ∃ w', Sem.run Tryz.prog (Instr.makeSlice 66 (.int .i64 (r : Int)) (.int .i64 (r : Int))) w = .ok (.slice (some ⟨w.heap.size, 0, none⟩) r r) w' ∧ Row w' w.heap.size r (fun _ => 0) ∧ Kept [] w w' := fun w => by
    obtain ⟨w', hrun, r1, r2⟩ := run_make_full (P := Tryz.prog) w 0 66 67 j0 (.int .u16 0) 1 Tryz.underlying66 gi gz0 gz1 .i64 .i64 r (by rw [gz2]; omega) (by unfold maxLen; omega) (by omega)
    have hr3 := row_heap r1 rfl
    rw [show (madeCells (Value.int .u16 0).cells (r * 1)).toList = List.replicate r (.int .u16 0) by rw [Nat.mul_one]; exact toList_madeCells_one _ _, fl_none] at hr3
    exact ⟨w', hrun, hr3, (Kept.of_grown r2).mono (by simp)⟩
  obtain ⟨mkW, hm⟩ := Classical.axiomOfChoice h
  exact ⟨mkW, fun w => (hm w).1, fun w => (hm w).2⟩
theorem fl_nilS (n : Nat) : List.replicate n (Value.slice none 0 0) = fl (fun _ => .slice none 0 0) n := by
  apply List.ext_getElem?
  intro i
  by_cases h : i < n
  · rw [List.getElem?_replicate, if_pos h, fl_at _ _ _ h]
  · rw [List.getElem?_eq_none (by simp; omega), List.getElem?_eq_none (by simp [fl_length]; omega)]
/-- Making a list of lists, as long as may be. -/
theorem make_lists (r : Nat) (m : Int) (hm : m = (r : Int)) (hr : r ≤ 11728124029610) : ∃ mkW : World → World, (∀ w, Sem.run Tryz.prog (Instr.makeSlice 36 (.int .i64 m) (.int .i64 m)) w = .ok (.slice (some ⟨w.heap.size, 0, none⟩) r r) (mkW w)) ∧ ∀ w, (mkW w).heap[w.heap.size]? = some (.cells (fl (fun _ => .slice none 0 0) r).toArray 66 (0, 0)) ∧ Kept [] w (mkW w) := by
  subst hm
  obtain ⟨j0, gi, gz0, gz1, gz2⟩ := info_parts Tryz.infoR
  have h : ∀ w : World, ∃ w', Sem.run Tryz.prog (Instr.makeSlice 36 (.int .i64 (r : Int)) (.int .i64 (r : Int))) w = .ok (.slice (some ⟨w.heap.size, 0, none⟩) r r) w' ∧ w'.heap[w.heap.size]? = some (.cells (fl (fun _ => .slice none 0 0) r).toArray 66 (0, 0)) ∧ Kept [] w w' := fun w => by
    obtain ⟨w', hrun, r1, r2⟩ := run_make_full (P := Tryz.prog) w 0 36 66 j0 (.slice none 0 0) 1 Tryz.underlying36 gi gz0 gz1 .i64 .i64 r (by rw [gz2]; omega) (by unfold maxLen; omega) (by omega)
    have hr3 := row_heap r1 rfl
    rw [show (madeCells (Value.slice none 0 0).cells (r * 1)).toList = List.replicate r (.slice none 0 0) by rw [Nat.mul_one]; exact toList_madeCells_one _ _, fl_nilS] at hr3
    exact ⟨w', hrun, hr3, (Kept.of_grown r2).mono (by simp)⟩
  obtain ⟨mkW, hm⟩ := Classical.axiomOfChoice h
  exact ⟨mkW, fun w => (hm w).1, fun w => (hm w).2⟩

theorem Row.set {w : World} {b n i v : Nat} {f : Nat → Nat} (h : Row w b n f) : Row (w.setCell ⟨b, i, none⟩ (.int .u16 (v : Int))) b n (fun t => if t = i then v else f t) := by
  unfold Row at h ⊢
  rw [heap_setCell_at h, List.setIfInBounds_toArray]
  congr 3
  apply List.ext_getElem?
  intro t
  rw [List.getElem?_set, fl_length]
  by_cases ht : t < n
  · rw [fl_at _ _ _ ht, fl_at _ _ _ ht]
    by_cases e : i = t
    · subst e; simp [ht, vU]
    · rw [if_neg e]
      show some (Value.int .u16 (f t : Int)) = some (Value.int .u16 ((if t = i then v else f t : Nat) : Int))
      rw [if_neg (Ne.symm e)]
  · rw [List.getElem?_eq_none (by rw [fl_length]; omega), List.getElem?_eq_none (by rw [fl_length]; omega)]
    split
    · rw [if_neg (by omega)]
    · rfl
theorem mem_own {V : Value} {x : Nat} : x ∈ V.ownBlock.toList ↔ V.ownBlock = some x := by
  cases V.ownBlock <;> simp [eq_comm]

/-- What stands in a list that is lent. -/
def ltF (f : Nat → Nat) (n : Nat) : Nat → Nat := fun j => if j < n then f j else 60000

theorem fl_append (f g : Nat → Value) (n m : Nat) : fl f n ++ fl g m = fl (fun i => if i < n then f i else g (i - n)) (n + m) := by
  apply List.ext_getElem?
  intro i
  by_cases h : i < n
  · rw [List.getElem?_append_left (by rw [fl_length]; exact h), fl_at _ _ _ h, fl_at _ _ _ (by omega), if_pos h]
  · rw [List.getElem?_append_right (by rw [fl_length]; omega), fl_length]
    by_cases h2 : i < n + m
    · rw [fl_at _ _ _ (by omega), fl_at _ _ _ h2, if_neg h]
    · rw [List.getElem?_eq_none (by rw [fl_length]; omega), List.getElem?_eq_none (by rw [fl_length]; omega)]
theorem fl_drop (f : Nat → Value) (n m : Nat) (h : m ≤ n) : (fl f n).drop m = fl (fun i => f (m + i)) (n - m) := by
  apply List.ext_getElem?
  intro i
  rw [List.getElem?_drop]
  by_cases h2 : m + i < n
  · rw [fl_at _ _ _ h2, fl_at _ _ _ (by omega)]
  · rw [List.getElem?_eq_none (by rw [fl_length]; omega), List.getElem?_eq_none (by rw [fl_length]; omega)]

end Go.Proofs.YthkpligodbkofaaGreatDoor.Tl

namespace Go.Proofs.YthkpligodbkofaaGreatDoor.Tl
open Go.RowKit

/-- append of one value onto a list of one's own. -/
theorem wpList_app1 (w : World) {ops : Array Oper} {rest : List Oper} {o : Oper} {a : Act} {Q : Exit → Act → World → Prop} (hgd : o.guard = none) (s x : Operand) (t B e : Nat) (i0 : TypeInfo) (z : Value) (by_ : Nat)
    (hu : Tryz.prog.underlying t = some (.slice e)) (hi : Tryz.prog.info? e = some i0) (hz0 : i0.zero = some z) (hz1 : i0.size = 1) (hz2 : i0.bytes = by_) (hzz : z.cells.size = 1)
    (ho : o.op = .call { callee := .builtin .append, args := #[s, x], argTypes := #[t, t] })
    (v : Value) (n : Nat) (xs : List Value) (hs : a.eval s = v) (hown : w.ownsRow B e 1 v n xs) (y : Value) (hx : a.eval x = .slice (some ⟨w.heap.size, 0, none⟩) 1 1) (hone : y.oneCell' = true) (hB : B ≤ w.heap.size) (hb : n + 1 ≤ 140737488355328) (hb2 : (n + 1) * by_ ≤ 140737488355328)
    (h : ∀ v' w', w'.ownsRow B e 1 v' (n + 1) (xs ++ [y]) → Kept v.ownBlock.toList w w' → Lies w v v' → wpList Tryz.prog ops Q rest (a.put o.dst v') w') :
    wpList Tryz.prog ops Q (o :: rest) a (w.alloc (.cells #[y] e)) := by
  refine wpList_append_own_at _ hgd s x t ho B e i0 z 1 by_ hu hi hz0 hz1 hz2 hzz (by decide) v n xs hs (hown.alloc _) ⟨w.heap.size, 0, none⟩ 1 1 [y] hx rfl (cell_one_new _ _ _) (fun u hu => by simp at hu; subst hu; exact hone) (by unfold maxLen; omega) (by exact hb2) (by rw [World.size_alloc]; omega) ?_
  intro v' w' h2 h3 _ h5
  refine h v' w' h2 (((Kept.refl _ w).alloc _).step (Kept.of_grown h3) (fun x hx => .inl hx)) ?_
  rcases h5 with h | h
  · exact .inl h
  · exact .inr ⟨_, h, by rw [World.size_alloc]; omega⟩

theorem own_suc {W : World} {base : Nat} {e : TypeId} {size : Nat} {v : Value} {k : Nat} {xs : List Value} (h : W.ownsRow base e size v (k + 1) xs) : ∃ g cap, v = .slice (some ⟨g, 0, none⟩) (k + 1) cap := by
  rcases h.2 with ⟨_, h0⟩ | ⟨g, cap, _, rfl, _⟩
  · omega
  · exact ⟨g, cap, rfl⟩
/-- A row as a value. -/
abbrev slv (b n c : Nat) : Value := .slice (some ⟨b, 0, none⟩) n c
theorem own_row {w : World} {B n b m : Nat} {V : Value} {xs : List Value} {f : Nat → Nat} (h : w.ownsRow B 66 1 V n xs) (hr : Row w b m f) : V.ownBlock ≠ some b := by
  intro e
  rcases h.2 with ⟨rfl, _⟩ | ⟨g, cap, cur, rfl, _, hg, _⟩
  · simp [Value.ownBlock] at e
  · simp [Value.ownBlock] at e
    subst e
    unfold Row at hr
    rw [hg] at hr
    simp at hr
theorem own_other {w : World} {B n b t : Nat} {V : Value} {xs : List Value} {cs : Array Value} (h : w.ownsRow B 66 1 V n xs) (hb : w.heap[b]? = some (.cells cs t (0, 0))) (ht : t ≠ 66) : V.ownBlock ≠ some b := by
  intro e
  rcases h.2 with ⟨rfl, _⟩ | ⟨g, cap, cur, rfl, _, hg, _⟩
  · simp [Value.ownBlock] at e
  · simp [Value.ownBlock] at e
    subst e
    rw [hg] at hb
    simp at hb
    exact ht hb.2.symm
/-- A list of rows that grows. -/
structure Gx (B : Nat) (w : World) (V : Value) (k : Nat) (bs ln : Nat → Nat) (F : Nat → Nat → Nat) : Prop where
  own : w.ownsRow B 66 1 V k (fl (fun i => slv (bs i) (ln i) (ln i)) k)
  row : ∀ i, i < k → Row w (bs i) (ln i) (F i)
  mon : ∀ i j, i < j → j < k → bs i < bs j
  lo : ∀ i, i < k → B ≤ bs i
theorem Gx.start (B : Nat) (w : World) (bs ln : Nat → Nat) (F : Nat → Nat → Nat) : Gx B w (.slice none 0 0) 0 bs ln F :=
  ⟨⟨rfl, .inl ⟨rfl, rfl⟩⟩, fun i h => by omega, fun i j h1 h2 => by omega, fun i h => by omega⟩
theorem Gx.keep {B : Nat} {w w' : World} {V : Value} {k : Nat} {bs ln : Nat → Nat} {F : Nat → Nat → Nat} {ks : List Nat} (h : Gx B w V k bs ln F) (hk : Kept ks w w') (h1 : ∀ g, V.ownBlock = some g → g ∉ ks) (h2 : ∀ i, i < k → bs i ∉ ks) : Gx B w' V k bs ln F :=
  ⟨hk.row h.own h1, fun i hi => (h.row i hi).keep hk (h2 i hi), h.mon, h.lo⟩
theorem Gx.keep0 {B : Nat} {w w' : World} {V : Value} {k : Nat} {bs ln : Nat → Nat} {F : Nat → Nat → Nat} (h : Gx B w V k bs ln F) (hk : Kept [] w w') : Gx B w' V k bs ln F := h.keep hk (by simp) (by simp)
/-- One row more. -/
theorem Gx.step {B : Nat} {w w' : World} {V V' : Value} {k b : Nat} {bs ln : Nat → Nat} {F : Nat → Nat → Nat} (h : Gx B w V k bs ln F) (hr : Row w b (ln k) (F k)) (hb : ∀ i, i < k → bs i < b) (hB : B ≤ b)
    (ho : w'.ownsRow B 66 1 V' (k + 1) (fl (fun i => slv (bs i) (ln i) (ln i)) k ++ [slv b (ln k) (ln k)])) (hk : Kept V.ownBlock.toList w w') : Gx B w' V' (k + 1) (nx bs k b) ln F := by
  refine ⟨?_, fun i hi => ?_, fun i j h1 h2 => ?_, fun i hi => ?_⟩
  · rw [show [slv b (ln k) (ln k)] = fl (fun _ => slv b (ln k) (ln k)) 1 from rfl, fl_append] at ho
    rw [fl_congr (g := fun i => if i < k then slv (bs i) (ln i) (ln i) else slv b (ln k) (ln k))]
    · exact ho
    · intro i hi
      by_cases e : i = k
      · subst e; rw [if_neg (by omega), show nx bs i b i = b from if_pos rfl]
      · rw [if_pos (by omega), show nx bs k b i = bs i from if_neg e]
  · by_cases e : i = k
    · subst e
      rw [show nx bs i b i = b from if_pos rfl]
      exact hr.keep hk (by rw [mem_own]; exact own_row h.own hr)
    · rw [show nx bs k b i = bs i from if_neg e]
      have := h.row i (by omega)
      exact this.keep hk (by rw [mem_own]; exact own_row h.own this)
  · rw [show nx bs k b i = bs i from if_neg (by omega)]
    by_cases e : j = k
    · subst e; rw [show nx bs j b j = b from if_pos rfl]; exact hb i h1
    · rw [show nx bs k b j = bs j from if_neg e]; exact h.mon i j h1 (by omega)
  · by_cases e : i = k
    · subst e; rw [show nx bs i b i = b from if_pos rfl]; exact hB
    · rw [show nx bs k b i = bs i from if_neg e]; exact h.lo i (by omega)
/-- Its cells. -/
theorem Gx.cell {B : Nat} {w : World} {V : Value} {k : Nat} {bs ln : Nat → Nat} {F : Nat → Nat → Nat} (h : Gx B w V k bs ln F) (hk : 0 < k) : ∃ g cap, V = .slice (some ⟨g, 0, none⟩) k cap ∧ B ≤ g ∧ g < w.heap.size ∧ (∃ cs, w.heap[g]? = some (.cells cs 66 (0, 0))) ∧ ∀ i, i < k → w.cell? ⟨g, i, none⟩ = some (slv (bs i) (ln i) (ln i)) := by
  rcases h.own.2 with ⟨_, h0⟩ | ⟨g, cap, cur, rfl, hb, hg, _⟩
  · omega
  · refine ⟨g, cap, rfl, hb, lt_of_block hg, ⟨_, hg⟩, fun i hi => ?_⟩
    have hc := h.own.cells (g := g) rfl i _ (fl_at _ k i hi)
    have hadd : (⟨g, 0, none⟩ : Addr).add i = ⟨g, 0 + i, none⟩ := by unfold Addr.add; split <;> simp_all
    rw [hadd, Nat.zero_add] at hc
    exact hc

/-- What stands in a lent frame's list. -/
def lsC (bs ln : Nat → Nat) (k : Nat) : Nat → Value := fun i => if i < k then slv (bs i) (ln i) (ln i + 7) else .slice none 0 0
/-- A frame that is lent. -/
structure Ln (w0 w : World) (LB : Nat) (V : Value) (n : Nat) (bs ln : Nat → Nat) (F : Nat → Nat → Nat) : Prop where
  lst : w.heap[LB]? = some (.cells (fl (lsC bs ln n) (n + 2)).toArray 66 (0, 0))
  all : Gx w0.heap.size w V n bs (fun i => ln i + 7) F
  new : w0.heap.size ≤ LB
  oth : V.ownBlock ≠ some LB
  kept : Kept [] w0 w
/-- Seven cells. -/
theorem seven {w : World} {B t : Nat} {a b c d e f g : Value} (h : w.heap[B]? = some (.cells #[a, b, c, d, e, f, g] t (0, 0))) :
    (w.cell? ⟨B, 0, none⟩ = some a ∧ w.cell? ⟨B, 1, none⟩ = some b ∧ w.cell? ⟨B, 2, none⟩ = some c ∧ w.cell? ⟨B, 3, none⟩ = some d ∧ w.cell? ⟨B, 4, none⟩ = some e ∧ w.cell? ⟨B, 5, none⟩ = some f ∧ w.cell? ⟨B, 6, none⟩ = some g) ∧
    (w.frozen? ⟨B, 0, none⟩ = false ∧ w.frozen? ⟨B, 1, none⟩ = false ∧ w.frozen? ⟨B, 2, none⟩ = false ∧ w.frozen? ⟨B, 3, none⟩ = false ∧ w.frozen? ⟨B, 4, none⟩ = false ∧ w.frozen? ⟨B, 5, none⟩ = false ∧ w.frozen? ⟨B, 6, none⟩ = false) := by
  refine ⟨⟨?_, ?_, ?_, ?_, ?_, ?_, ?_⟩, ⟨?_, ?_, ?_, ?_, ?_, ?_, ?_⟩⟩
  all_goals first | (rw [cell_of_row _ _ _ _ _ _ h]; rfl) | (simp [World.frozen?, h])
/-- Seven cells are written. -/
theorem set7 {w : World} {B t : Nat} {a b c d e f g : Value} (a' b' c' d' e' f' g' : Value) (h : w.heap[B]? = some (.cells #[a, b, c, d, e, f, g] t (0, 0))) :
    (((((((w.setCell ⟨B, 0, none⟩ a').setCell ⟨B, 1, none⟩ b').setCell ⟨B, 2, none⟩ c').setCell ⟨B, 3, none⟩ d').setCell ⟨B, 4, none⟩ e').setCell ⟨B, 5, none⟩ f').setCell ⟨B, 6, none⟩ g').heap[B]? = some (.cells #[a', b', c', d', e', f', g'] t (0, 0)) ∧
    Kept [B] w (((((((w.setCell ⟨B, 0, none⟩ a').setCell ⟨B, 1, none⟩ b').setCell ⟨B, 2, none⟩ c').setCell ⟨B, 3, none⟩ d').setCell ⟨B, 4, none⟩ e').setCell ⟨B, 5, none⟩ f').setCell ⟨B, 6, none⟩ g') :=
by
  have h0 : (w.setCell ⟨B, 0, none⟩ a').heap[B]? = some (.cells #[a', b, c, d, e, f, g] t (0, 0)) := heap_setCell_at h
  have k0 : Kept [B] w (w.setCell ⟨B, 0, none⟩ a') := (Kept.refl [B] w).setCell (p := ⟨B, 0, none⟩) (.inl (by simp)) _
  generalize w.setCell ⟨B, 0, none⟩ a' = w0 at h0 k0 ⊢
  have h1 : (w0.setCell ⟨B, 1, none⟩ b').heap[B]? = some (.cells #[a', b', c, d, e, f, g] t (0, 0)) := heap_setCell_at h0
  have k1 := k0.setCell (p := ⟨B, 1, none⟩) (.inl (by simp)) b'
  generalize w0.setCell ⟨B, 1, none⟩ b' = w1 at h1 k1 ⊢
  have h2 : (w1.setCell ⟨B, 2, none⟩ c').heap[B]? = some (.cells #[a', b', c', d, e, f, g] t (0, 0)) := heap_setCell_at h1
  have k2 := k1.setCell (p := ⟨B, 2, none⟩) (.inl (by simp)) c'
  generalize w1.setCell ⟨B, 2, none⟩ c' = w2 at h2 k2 ⊢
  have h3 : (w2.setCell ⟨B, 3, none⟩ d').heap[B]? = some (.cells #[a', b', c', d', e, f, g] t (0, 0)) := heap_setCell_at h2
  have k3 := k2.setCell (p := ⟨B, 3, none⟩) (.inl (by simp)) d'
  generalize w2.setCell ⟨B, 3, none⟩ d' = w3 at h3 k3 ⊢
  have h4 : (w3.setCell ⟨B, 4, none⟩ e').heap[B]? = some (.cells #[a', b', c', d', e', f, g] t (0, 0)) := heap_setCell_at h3
  have k4 := k3.setCell (p := ⟨B, 4, none⟩) (.inl (by simp)) e'
  generalize w3.setCell ⟨B, 4, none⟩ e' = w4 at h4 k4 ⊢
  have h5 : (w4.setCell ⟨B, 5, none⟩ f').heap[B]? = some (.cells #[a', b', c', d', e', f', g] t (0, 0)) := heap_setCell_at h4
  have k5 := k4.setCell (p := ⟨B, 5, none⟩) (.inl (by simp)) f'
  generalize w4.setCell ⟨B, 5, none⟩ f' = w5 at h5 k5 ⊢
  exact ⟨heap_setCell_at h5, k5.setCell (p := ⟨B, 6, none⟩) (.inl (by simp)) g'⟩
/-- A lent frame as a value. -/
abbrev lnv (W H D : Int) (A : Bool) (p q r : Value) : Value := .agg #[.int .i64 W, .int .i64 H, .int .i64 D, .bool A, p, q, r]

end Go.Proofs.YthkpligodbkofaaGreatDoor.Tl

namespace Go.Proofs.YthkpligodbkofaaGreatDoor.Pc
open Go.RowKit

/-- The lent list of planes, of which k are written. -/
def lpC (bs ln : Nat → Nat) (k : Nat) : Nat → Value := fun i => if i < k then .slice (some ⟨bs i, 0, none⟩) (ln i) (ln i + 5) else .slice none 0 0
/-- Planes that are lent. -/
structure Lf (w : World) (LB k m : Nat) (bs ln : Nat → Nat) (F : Nat → Nat → Nat) : Prop where
  lst : w.heap[LB]? = some (.cells (Tl.fl (lpC bs ln k) (m + 2)).toArray 66 (0, 0))
  row : ∀ i, i < k → Tl.Row w (bs i) (ln i + 5) (F i)
  mon : ∀ i j, i < j → j < k → bs i < bs j
  gt : ∀ i, i < k → LB < bs i
theorem Lf.keep {w w' : World} {LB k m : Nat} {bs ln : Nat → Nat} {F : Nat → Nat → Nat} {ks : List Nat} (h : Lf w LB k m bs ln F) (hk : Kept ks w w') (h1 : LB ∉ ks) (h2 : ∀ i, i < k → bs i ∉ ks) : Lf w' LB k m bs ln F :=
  ⟨hk.heap h.lst h1, fun i hi => (h.row i hi).keep hk (h2 i hi), h.mon, h.gt⟩
theorem Lf.keep0 {w w' : World} {LB k m : Nat} {bs ln : Nat → Nat} {F : Nat → Nat → Nat} (h : Lf w LB k m bs ln F) (hk : Kept [] w w') : Lf w' LB k m bs ln F := h.keep hk (by simp) (by simp)
theorem lpC_set (bs ln : Nat → Nat) (k m b : Nat) : (Tl.fl (lpC bs ln k) (m + 2)).set k (.slice (some ⟨b, 0, none⟩) (ln k) (ln k + 5)) = Tl.fl (lpC (fun i => if i = k then b else bs i) ln (k + 1)) (m + 2) := by
  apply List.ext_getElem?
  intro i
  rw [List.getElem?_set, Tl.fl_length]
  by_cases hi : i < m + 2
  · rw [Tl.fl_at _ _ _ hi, Tl.fl_at _ _ _ hi]
    unfold lpC
    by_cases e : k = i
    · subst e
      simp [hi]
    · rw [if_neg e]
      by_cases h2 : i < k
      · rw [if_pos h2, if_pos (by omega)]
        show some (Value.slice (some ⟨bs i, 0, none⟩) (ln i) (ln i + 5)) = some (Value.slice (some ⟨if i = k then b else bs i, 0, none⟩) (ln i) (ln i + 5))
        rw [if_neg (by omega)]
      · rw [if_neg h2, if_neg (by omega)]
  · rw [List.getElem?_eq_none (by rw [Tl.fl_length]; omega), List.getElem?_eq_none (by rw [Tl.fl_length]; omega)]
    by_cases e : k = i
    · rw [if_pos e, if_neg (by omega)]
    · rw [if_neg e]
/-- A frame that is lent, as a value. -/
abbrev lfv (W H D : Int) (A : Bool) (LB m : Nat) (V : Value) : Value := .agg #[.int .i64 W, .int .i64 H, .int .i64 D, .bool A, .slice (some ⟨LB, 0, none⟩) m (m + 2), .slice (some ⟨LB, 0, none⟩) (m + 2) (m + 2), V]
theorem Tryz.infoLf : (Tryz.prog.info? 57).map (·.size) = some 7 := by kernel_rfl
theorem Tryz.infoLl : (Tryz.prog.info? 66).map (fun i => (i.zero, i.size, i.bytes)) = some (some (.slice none 0 0), 1, 24) := by kernel_rfl

set_option maxRecDepth 100000 in
/-- A plane, copied. -/
theorem copy_plane (u : World) (b NK : Nat) (ao : Option Addr) (n c : Nat) (f : Nat → Nat) (hR : Tl.Row u b NK (fun _ => 0)) (hr : Tl.Rd u ao n f) (hn : n ≤ NK) :
    ∃ w2, Sem.run Tryz.prog (Builtin.copy_ #[66, 66] 3 #[.slice (some ⟨b, 0, none⟩) NK NK, .slice ao n c]) u = .ok (goInt n) w2 ∧ Tl.Row w2 b NK (fun j => if j < n then f j else 0) ∧ Kept [b] u w2 := by
  obtain ⟨w2, h1, h2, h3⟩ := Tl.copy_run u b NK NK ao n c (Tl.fl (Tl.vU fun _ => 0) NK) (Tl.fl (Tl.vU f) n) hR (Tl.fl_length _ _) (Tl.fl_length _ _) hn (fun hp => by
    rcases hr with h | ⟨g, off, e, hc⟩
    · omega
    · refine ⟨_, e, fun j u hu => ?_⟩
      by_cases hj : j < n
      · rw [Tl.fl_at _ _ _ hj] at hu
        cases hu
        rw [show (⟨g, off, none⟩ : Addr).add j = ⟨g, off + j, none⟩ by unfold Addr.add; split <;> simp_all]
        exact hc j hj
      · rw [List.getElem?_eq_none (by rw [Tl.fl_length]; omega)] at hu
        cases hu) (fun v hv => by
    simp only [Tl.fl, Tl.vU, List.mem_map] at hv
    obtain ⟨i, _, rfl⟩ := hv
    rfl)
  refine ⟨w2, h1, ?_, h3⟩
  rw [Tl.fl_drop _ _ _ hn, Tl.fl_append, show n + (NK - n) = NK by omega] at h2
  unfold Tl.Row
  rw [h2]
  congr 3
  apply Tl.fl_congr
  intro j hj
  show (if j < n then Value.int .u16 (f j : Int) else Value.int .u16 ((0 : Nat) : Int)) = Value.int .u16 ((if j < n then f j else 0 : Nat) : Int)
  split <;> rfl

set_option maxHeartbeats 16000000 in
set_option maxRecDepth 1000000 in
theorem plend_any (W H D : Int) (A : Bool) (po : Option Addr) (m d : Nat) (ln : Nat → Nat) (F : Nat → Nat → Nat) (w : World) (hP : Tl.Pl w po m ln F) (hm : m ≤ 4) (hln : ∀ i, i < m → ln i ≤ 16777216) :
    Calls Tryz.prog 20 #[Tl.frv W H D A po m d] w fun e w' => ∃ LB bs vo vc, e = .returned (lfv W H D A LB m (.slice vo m vc)) ∧ w.heap.size ≤ LB ∧ Lf w' LB m m bs ln (fun i => Tl.ltF (F i) (ln i)) ∧ Kept [] w w' := by
  obtain ⟨w1, e1⟩ : ∃ w1, w.alloc (.cells #[.int .i64 W, .int .i64 H, .int .i64 D, .bool A, .slice po m d] 38 (0, 0)) = w1 := ⟨_, rfl⟩
  obtain ⟨w2, e2⟩ : ∃ w2, w1.alloc (.cells #[.int .i64 0, .int .i64 0, .int .i64 0, .bool false, .slice none 0 0, .slice none 0 0, .slice none 0 0] 57 (0, 0)) = w2 := ⟨_, rfl⟩
  obtain ⟨B, eB⟩ : ∃ B, w.heap.size = B := ⟨_, rfl⟩
  have z1 : w1.heap.size = B + 1 := by rw [← e1, ← eB]; exact Array.size_push _
  have k1 : Kept [] w w1 := by rw [← e1]; exact (Kept.refl [] w).alloc _
  have k2 : Kept [] w1 w2 := by rw [← e2]; exact (Kept.refl [] w1).alloc _
  have HF := Hid.mk (k2.heap (show w1.heap[B]? = some (.cells #[.int .i64 W, .int .i64 H, .int .i64 D, .bool A, .slice po m d] 38 (0, 0)) by rw [← e1, ← eB]; exact heap_alloc_new _ _) (by simp))
  have HR := Hid.mk (show w2.heap[B + 1]? = some (.cells #[.int .i64 0, .int .i64 0, .int .i64 0, .bool false, .slice none 0 0, .slice none 0 0, .slice none 0 0] 57 (0, 0)) by rw [← e2, ← z1]; exact heap_alloc_new _ _)
  have K2 := Hid.mk (k1.trans k2)
  have HB := Hid.mk eB
  have HPl := Hid.mk (hP.keep K2.out)
  have HLN := Hid.mk hln
  have HM := Hid.mk hm
  obtain ⟨N, eN⟩ : ∃ N, m + 2 = N := ⟨_, rfl⟩
  have v1 : wrap64 ((m : Int) + 2) = (N : Int) := by rw [show (m : Int) + 2 = ((m + 2 : Nat) : Int) by omega, eN]; exact Tl.w64_in (by omega) (by omega)
  have v2 : IntKind.i64.wrap ((m : Int) + 2) = (N : Int) := by rw [show (m : Int) + 2 = ((m + 2 : Nat) : Int) by omega, eN]; exact Tl.wrap_i (by omega) (by omega)
  obtain ⟨mkW, mk1, mk2⟩ := Tl.make_lists N (N : Int) rfl (by omega)
  have M2 := Hid.mk mk2
  have EN := Hid.mk eN
  obtain ⟨t0, t1, t2, t3, t4⟩ := cel5 HF.out
  have RK : Hid (∀ u, Kept [] w2 u → u.cell? ⟨B, 0, none⟩ = some (.int .i64 W) ∧ u.cell? ⟨B, 1, none⟩ = some (.int .i64 H) ∧ u.cell? ⟨B, 2, none⟩ = some (.int .i64 D) ∧ u.cell? ⟨B, 3, none⟩ = some (.bool A) ∧ u.cell? ⟨B, 4, none⟩ = some (.slice po m d)) := Hid.mk (fun u k => cel5 (k.heap HF.out (by simp)))
  clear mk2 hP hm hln k1 k2 eN
  go_enter Tryz.func20, Tryz.ntmps20
  go_wp2_with (fail)
  clear e1 e2 z1 eB
  go_cut [3] (fun s wc => ∃ XB LB : Nat, s = .pointer (some ⟨XB, 0, none⟩) ∧ Hid (w2.heap.size ≤ XB ∧ w2.heap.size ≤ LB ∧ XB ≠ LB ∧ wc.heap[XB]? = some (.cells #[.int .i64 W, .int .i64 H, .int .i64 D, .bool A, .slice po m d, .slice (some ⟨LB, 0, none⟩) N N, .slice none 0 0] 57 (0, 0)) ∧ wc.heap[LB]? = some (.cells (Tl.fl (fun _ => .slice none 0 0) N).toArray 66 (0, 0)) ∧ Kept [] w2 wc))
  case first =>
    have RK0 := RK.out _ (Kept.refl [] w2).drew
    refine wp_region_held_drew (S := fun u => u.cell? ⟨B, 0, none⟩ = some (.int .i64 W) ∧ u.cell? ⟨B, 1, none⟩ = some (.int .i64 H) ∧ u.cell? ⟨B, 2, none⟩ = some (.int .i64 D) ∧ u.cell? ⟨B, 3, none⟩ = some (.bool A) ∧ u.cell? ⟨B, 4, none⟩ = some (.slice po m d)) (by kernel_rfl) RK0 (fun hH0 => ?_)
    clear RK0
    refine wpAnyH_take (i := 0) (oi := _) (v := ?_) rfl (by kernel_rfl) (by kernel_rfl) (by kernel_rfl) (fun _ _ _ h => h) (Or.inl ⟨by rfl, ?y0⟩) (by assumption) ?r0
    case y0 => (intro w hSw; (try dsimp only at hSw); go_simp; try with_reducible rfl)
    refine wpAnyH_take (i := 1) (oi := _) (v := ?_) rfl (by kernel_rfl) (by kernel_rfl) (by kernel_rfl) (fun _ _ _ h => h) (Or.inl ⟨by rfl, ?y1⟩) (by assumption) ?r1
    case y1 => (intro w hSw; (try dsimp only at hSw); go_simp; try with_reducible rfl)
    refine wpAnyH_take (i := 2) (oi := _) (v := ?_) rfl (by kernel_rfl) (by kernel_rfl) (by kernel_rfl) (fun _ _ _ h => h) (Or.inl ⟨by rfl, ?y2⟩) (by assumption) ?r2
    case y2 => (intro w hSw; (try dsimp only at hSw); go_simp; try with_reducible rfl)
    refine wpAnyH_take (i := 3) (oi := _) (v := ?_) rfl (by kernel_rfl) (by kernel_rfl) (by kernel_rfl) (fun _ _ _ h => h) (Or.inl ⟨by rfl, ?y3⟩) (by assumption) ?r3
    case y3 => (intro w hSw; (try dsimp only at hSw); go_simp; try with_reducible rfl)
    refine wpAnyH_take (i := 4) (oi := _) (v := ?_) rfl (by kernel_rfl) (by kernel_rfl) (by kernel_rfl) (fun _ _ _ h => h) (Or.inl ⟨by rfl, ?y4⟩) (by assumption) ?r4
    case y4 => (intro w hSw; (try dsimp only at hSw); go_simp; try with_reducible rfl)
    refine wpAnyH_ready (rs := [5, 7]) (by kernel_rfl) (by simp) ?_
    refine AllReadyH.cons rfl (fun K hK => ?_) (AllReadyH.cons rfl (fun K hK => ?_) AllReadyH.nil)
    · go_simp
      obtain ⟨h7, k7'⟩ := M2.out w2.drew
      have k7 : Kept [] w2 (mkW w2.drew) := ((Kept.refl [] w2).drew).trans k7'
      have HL7 := Hid.mk h7
      have K7 := Hid.mk k7
      refine hK.out _ _ (RK.out _ k7) (fun hH1 => ?_)
      clear hK K hH0 h7 k7 k7'
      refine wpAnyH_take (i := 6) (oi := _) (v := ?_) rfl (by kernel_rfl) (by kernel_rfl) (by kernel_rfl) (fun _ _ _ h => h) (Or.inl ⟨by rfl, ?y6a⟩) (by assumption) ?r6a
      case y6a => (intro w hSw; (try dsimp only at hSw); go_simp; try with_reducible rfl)
      refine wpAnyH_ready (rs := [7]) (by kernel_rfl) (by simp) ?_
      refine AllReadyH.cons rfl (fun K hK => ?_) AllReadyH.nil
      go_simp
      have hX : ((mkW w2.drew).alloc (.cells #[.int .i64 0, .int .i64 0, .int .i64 0, .bool false, .slice none 0 0, .slice none 0 0, .slice none 0 0] 57 (0, 0))).heap[(mkW w2.drew).heap.size]? = some (.cells #[.int .i64 0, .int .i64 0, .int .i64 0, .bool false, .slice none 0 0, .slice none 0 0, .slice none 0 0] 57 (0, 0)) := heap_alloc_new _ _
      have kX : Kept [] w2 ((mkW w2.drew).alloc (.cells #[.int .i64 0, .int .i64 0, .int .i64 0, .bool false, .slice none 0 0, .slice none 0 0, .slice none 0 0] 57 (0, 0))) := K7.out.alloc _
      have HLX := Hid.mk (((Kept.refl [] (mkW w2.drew)).alloc (.cells #[.int .i64 0, .int .i64 0, .int .i64 0, .bool false, .slice none 0 0, .slice none 0 0, .slice none 0 0] 57 (0, 0))).heap HL7.out (by simp))
      have HLT : Hid (w2.heap.size < (mkW w2.drew).heap.size) := Hid.mk (lt_of_block HL7.out)
      refine hK.out _ _ (RK.out _ kX) (fun hH2 => ?_)
      clear hK K hH1
      generalize (mkW w2.drew).alloc (.cells #[.int .i64 0, .int .i64 0, .int .i64 0, .bool false, .slice none 0 0, .slice none 0 0, .slice none 0 0] 57 (0, 0)) = wX at *
      generalize (mkW w2.drew).heap.size = XB at *
      refine wpAnyH_ready (rs := [8]) (by kernel_rfl) (by simp) ?_
      refine AllReadyH.cons rfl (fun K hK => ?_) AllReadyH.nil
      rw [if_pos (by rfl)]
      obtain ⟨w8, e8, h8, k8⟩ := row_set #[.int .i64 W, .int .i64 H, .int .i64 D, .bool A, .slice po m d, .slice (some ⟨w2.heap.size, 0, none⟩) N N, .slice none 0 0] hX
      refine wp_store_row 57 (.tmp 3) (.tmp 13) rfl XB #[.int .i64 W, .int .i64 H, .int .i64 D, .bool A, .slice po m d, .slice (some ⟨w2.heap.size, 0, none⟩) N N, .slice none 0 0] rfl rfl 57 _ hX Tryz.infoLf rfl (by simp [Value.oneCell']) ?_
      rw [e8]
      have K8 : Hid (Kept [] w2 w8) := Hid.mk (kX.step k8 (fun x hx => by simp at hx; subst hx; exact .inr (Nat.le_of_lt HLT.out)))
      have HL8 := Hid.mk (k8.heap HLX.out (by have := HLT.out; simp; omega))
      have H8 := Hid.mk h8
      refine hK.out _ _ (RK.out _ K8.out) (fun hH3 => ?_)
      clear hK K hH2 hX kX e8 h8 k8
      refine wpAnyH_done (by kernel_rfl) ?_ _
      clear hH3
      go_wp2
      go_meet
      exact ⟨XB, w2.heap.size, rfl, Hid.mk ⟨Nat.le_of_lt HLT.out, Nat.le_refl _, Nat.ne_of_gt HLT.out, H8.out, HL8.out, K8.out⟩⟩
    · go_simp
      have hX : ((w2.alloc (.cells #[.int .i64 0, .int .i64 0, .int .i64 0, .bool false, .slice none 0 0, .slice none 0 0, .slice none 0 0] 57 (0, 0))).drew).heap[w2.heap.size]? = some (.cells #[.int .i64 0, .int .i64 0, .int .i64 0, .bool false, .slice none 0 0, .slice none 0 0, .slice none 0 0] 57 (0, 0)) := heap_alloc_new w2 _
      have kX : Kept [] w2 ((w2.alloc (.cells #[.int .i64 0, .int .i64 0, .int .i64 0, .bool false, .slice none 0 0, .slice none 0 0, .slice none 0 0] 57 (0, 0))).drew) := ((Kept.refl [] w2).alloc _).drew
      have sX : ((w2.alloc (.cells #[.int .i64 0, .int .i64 0, .int .i64 0, .bool false, .slice none 0 0, .slice none 0 0, .slice none 0 0] 57 (0, 0))).drew).heap.size = w2.heap.size + 1 := Array.size_push _
      refine hK.out _ _ (RK.out _ kX) (fun hH1 => ?_)
      clear hK K hH0
      refine wpAnyH_ready (rs := [5]) (by kernel_rfl) (by simp) ?_
      refine AllReadyH.cons rfl (fun K hK => ?_) AllReadyH.nil
      go_simp
      obtain ⟨h7, k7⟩ := M2.out ((w2.alloc (.cells #[.int .i64 0, .int .i64 0, .int .i64 0, .bool false, .slice none 0 0, .slice none 0 0, .slice none 0 0] 57 (0, 0))).drew)
      rw [sX] at h7
      have HX7 := Hid.mk (k7.heap hX (by simp))
      have HL7 := Hid.mk h7
      have K7 := Hid.mk (kX.trans k7)
      refine hK.out _ _ (RK.out _ K7.out) (fun hH2 => ?_)
      clear hK K hH1 hX kX sX h7 k7
      refine wpAnyH_take (i := 6) (oi := _) (v := ?_) rfl (by kernel_rfl) (by kernel_rfl) (by kernel_rfl) (fun _ _ _ h => h) (Or.inl ⟨by rfl, ?y6b⟩) (by assumption) ?r6b
      case y6b => (intro w hSw; (try dsimp only at hSw); go_simp; try with_reducible rfl)
      generalize mkW ((w2.alloc (.cells #[.int .i64 0, .int .i64 0, .int .i64 0, .bool false, .slice none 0 0, .slice none 0 0, .slice none 0 0] 57 (0, 0))).drew) = w7 at *
      refine wpAnyH_ready (rs := [8]) (by kernel_rfl) (by simp) ?_
      refine AllReadyH.cons rfl (fun K hK => ?_) AllReadyH.nil
      rw [if_pos (by rfl)]
      obtain ⟨w8, e8, h8, k8⟩ := row_set #[.int .i64 W, .int .i64 H, .int .i64 D, .bool A, .slice po m d, .slice (some ⟨w2.heap.size + 1, 0, none⟩) N N, .slice none 0 0] HX7.out
      refine wp_store_row 57 (.tmp 3) (.tmp 13) rfl w2.heap.size #[.int .i64 W, .int .i64 H, .int .i64 D, .bool A, .slice po m d, .slice (some ⟨w2.heap.size + 1, 0, none⟩) N N, .slice none 0 0] rfl rfl 57 _ HX7.out Tryz.infoLf rfl (by simp [Value.oneCell']) ?_
      rw [e8]
      have K8 : Hid (Kept [] w2 w8) := Hid.mk (K7.out.step k8 (fun x hx => by simp at hx; subst hx; exact .inr (Nat.le_refl _)))
      have HL8 := Hid.mk (k8.heap HL7.out (by simp))
      have H8 := Hid.mk h8
      refine hK.out _ _ (RK.out _ K8.out) (fun hH3 => ?_)
      clear hK K hH2 e8 h8 k8
      refine wpAnyH_done (by kernel_rfl) ?_ _
      clear hH3
      go_wp2
      go_meet
      exact ⟨w2.heap.size, w2.heap.size + 1, rfl, Hid.mk ⟨Nat.le_refl _, Nat.le_succ _, by omega, H8.out, HL8.out, K8.out⟩⟩
  case rest =>
    obtain ⟨XB, LB, rfl, hcut⟩ := hcut
    generalize wc = w3 at *
    have HX3 := Hid.mk hcut.out.2.2.2.1
    have HL3 := Hid.mk hcut.out.2.2.2.2.1
    have K3 := Hid.mk hcut.out.2.2.2.2.2
    have HXL : Hid (w2.heap.size ≤ XB ∧ w2.heap.size ≤ LB ∧ XB ≠ LB ∧ XB < w3.heap.size ∧ LB < w3.heap.size) := Hid.mk ⟨hcut.out.1, hcut.out.2.1, hcut.out.2.2.1, lt_of_block hcut.out.2.2.2.1, lt_of_block hcut.out.2.2.2.2.1⟩
    obtain ⟨S, eS⟩ : ∃ S, w3.heap.size = S := ⟨_, rfl⟩
    have ES := Hid.mk eS
    clear hcut eS v1 v2 mk1 M2
    go_wp2
    go_loopw [4] (fun i wr => ∃ (k : Nat) (vo : Option Addr) (vc : Nat) (bs : Nat → Nat), k ≤ m ∧ i = .int .i64 (k : Int) ∧ Hid (wr.heap[XB]? = some (.cells #[.int .i64 W, .int .i64 H, .int .i64 D, .bool A, .slice po m d, .slice (some ⟨LB, 0, none⟩) N N, .slice vo k vc] 57 (0, 0)) ∧ Lf wr LB k m bs ln (fun i => Tl.ltF (F i) (ln i)) ∧ (∀ i, i < k → S ≤ bs i) ∧ (∃ xs, wr.ownsRow S 66 1 (.slice vo k vc) k xs) ∧ Kept [] w2 wr ∧ S ≤ wr.heap.size)) (fun i _ => m - (intOf i).toNat)
    case atStart =>
      refine ⟨0, none, 0, fun _ => 0, Nat.zero_le _, rfl, Hid.mk ⟨HX3.out, ⟨?_, fun i hi => by omega, fun i j h1 h2 => by omega, fun i hi => by omega⟩, fun i hi => by omega, ⟨[], rfl, .inl ⟨rfl, rfl⟩⟩, K3.out, Nat.le_of_eq ES.out.symm⟩⟩
      have h9 := HL3.out
      rw [← EN.out] at h9
      exact h9
    case round =>
      obtain ⟨k, vo, vc, bs, hk, rfl, HI⟩ := hrel
      by_cases hlt : k < m
      · have ik : (k : Int) < (m : Int) := by omega
        have HK := Hid.mk hlt
        have KR := Hid.mk HI.out.2.2.2.2.1
        have hPk := HPl.out
        rcases hPk with h0 | ⟨gp, offp, rfl, hc⟩
        · exact absurd h0 (by omega)
        obtain ⟨ao, ck, hcell2, hrd2⟩ := hc k hlt
        have hcell := Tl.cell_keep KR.out hcell2 (by simp)
        have hrd := hrd2.keep KR.out
        have hlk := HLN.out k hlt
        have HEQ : Hid (∀ bs', Lf wr LB k m bs' ln (fun i => Tl.ltF (F i) (ln i)) → Lf wr LB k m bs' ln (fun i => Tl.ltF (F i) (ln i))) := Hid.mk (fun _ h => h)
        obtain ⟨nk, enk⟩ : ∃ x, ln k = x := ⟨_, rfl⟩
        obtain ⟨f, ef⟩ : ∃ x, F k = x := ⟨_, rfl⟩
        rw [enk] at hcell hrd hlk hcell2
        have HC2 := Hid.mk hcell2
        clear hcell2 hrd2
        rw [ef] at hrd
        obtain ⟨NK, eNK⟩ : ∃ x, nk + 5 = x := ⟨_, rfl⟩
        obtain ⟨mk, mk1, mk2⟩ := Tl.make_long NK (NK : Int) rfl (by omega)
        have m5 := mk1 wr
        obtain ⟨hr5, k5⟩ := mk2 wr
        obtain ⟨b, eb⟩ : ∃ x, wr.heap.size = x := ⟨_, rfl⟩
        rw [eb] at m5 hr5
        obtain ⟨w5, ew5⟩ : ∃ x, mk wr = x := ⟨_, rfl⟩
        rw [ew5] at m5 hr5 k5
        obtain ⟨w6, m6, hr6, k6⟩ := copy_plane w5 b NK ao nk ck f hr5 (hrd.keep k5) (by omega)
        have K6 := Hid.mk (k5.step k6 (fun x hx => by simp at hx; subst hx; exact .inr (Nat.le_of_eq eb)))
        have RK2 : Hid (∀ u, Kept [] wr u → u.cell? ⟨B, 4, none⟩ = some (.slice (some ⟨gp, offp, none⟩) m d) ∧ u.cell? ⟨gp, offp + k, none⟩ = some (.slice ao nk ck)) := Hid.mk (fun u ku => ⟨cellAt (i := 4) ((KR.out.trans ku).heap HF.out (by simp)) rfl, Tl.cell_keep ku hcell (by simp)⟩)
        have v5 : wrap64 ((nk : Int) + 5) = (NK : Int) := by rw [show (nk : Int) + 5 = ((nk + 5 : Nat) : Int) by omega, eNK]; exact Tl.w64_in (by omega) (by omega)
        have v6 : IntKind.i64.wrap ((nk : Int) + 5) = (NK : Int) := by rw [show (nk : Int) + 5 = ((nk + 5 : Nat) : Int) by omega, eNK]; exact Tl.wrap_i (by omega) (by omega)
        have R6 : Hid (Tl.Row w6 b NK (fun j => if j < nk then f j else if j < nk then 60000 else 0)) := Hid.mk (hr6.congr (fun j _ => by split <;> simp_all))
        obtain ⟨c0, p0⟩ := RK2.out wr (Kept.refl _ _)
        obtain ⟨c1, p1⟩ := RK2.out w5 k5
        obtain ⟨c2, p2⟩ := RK2.out w6 K6.out
        have HNK : Hid (nk + 5 = NK ∧ nk ≤ 16777216) := Hid.mk ⟨eNK, hlk⟩
        have EB := Hid.mk eb
        have ENK := Hid.mk enk
        have EF := Hid.mk ef
        clear mk1 mk2 hc hcell hrd hr5 k5 hr6 k6 ew5 eb eNK enk ef hlk hlt hk HEQ
        go_wp2
        clear m5 m6 v5 v6 c0 c1 c2 p0 p1 p2
        generalize wr = wo at *
        go_loopw [6] (fun j wq => ∃ t : Nat, nk ≤ t ∧ t ≤ NK ∧ j = .int .i64 (t : Int) ∧ Hid (Tl.Row wq b NK (fun j => if j < nk then f j else if j < t then 60000 else 0) ∧ Kept [b] w6 wq)) (fun j _ => NK - (intOf j).toNat)
        case atStart => exact ⟨nk, Nat.le_refl _, by have := HNK.out; omega, rfl, Hid.mk ⟨R6.out, Kept.refl _ _⟩⟩
        case round =>
          obtain ⟨t, ht1, ht2, rfl, HJ⟩ := hrel
          by_cases htl : t < NK
          · have hc := HJ.out.1.at htl
            have hfz := HJ.out.1.fz t
            have ix : (t : Int) < (NK : Int) := by omega
            have HRS := Hid.mk (HJ.out.1.set (i := t) (v := 60000))
            have HKS := Hid.mk (HJ.out.2.setCell (p := ⟨b, t, none⟩) (.inl (by simp)) (.int .u16 60000))
            have HT := Hid.mk (And.intro ht1 htl)
            have hkb : t + 1 ≤ 100000000 := by have := HNK.out; omega
            have hk1 : wrap64 ((t : Int) + 1) = ((t + 1 : Nat) : Int) := w64_add (b := 1) rfl hkb
            have hk2 : IntKind.i64.wrap ((t : Int) + 1) = ((t + 1 : Nat) : Int) := wi_add (b := 1) rfl hkb
            clear ht1 ht2 htl hkb ik
            go_wp2
            clear hk1 hk2
            go_roundw
            case rel =>
              refine ⟨t + 1, by have := HT.out; omega, by have := HT.out; omega, rfl, Hid.mk ⟨HRS.out.congr (fun j hj => ?_), HKS.out⟩⟩
              have h9 := HT.out
              by_cases e : j = t
              · subst e; simp only [if_true]; rw [if_neg (by omega), if_pos (by omega)]
              · simp only [if_neg e]
                by_cases h2 : j < nk
                · rw [if_pos h2, if_pos h2]
                · rw [if_neg h2, if_neg h2]
                  by_cases h3 : j < t
                  · rw [if_pos h3, if_pos (by omega)]
                  · rw [if_neg h3, if_neg (by omega)]
            case measure => (clear ix; simp [intOf]; have := HT.out; omega)
          · obtain rfl : NK = t := by omega
            have hRq : Tl.Row wr b NK (Tl.ltF f nk) := by
              refine HJ.out.1.congr (fun j hj => ?_)
              unfold Tl.ltF
              by_cases h2 : j < nk
              · rw [if_pos h2, if_pos h2]
              · rw [if_neg h2, if_neg h2, if_pos hj]
            have HRQ := Hid.mk hRq
            have KQ := Hid.mk (K6.out.step HJ.out.2 (fun x hx => by simp at hx; subst hx; exact .inr (Nat.le_of_eq EB.out)))
            obtain ⟨xs, hown⟩ := HI.out.2.2.2.1
            have HOW := Hid.mk (KQ.out.row hown (by simp))
            have HXQ := Hid.mk (KQ.out.heap HI.out.1 (by simp))
            have HSZ : Hid (S ≤ wo.heap.size ∧ wo.heap.size ≤ wr.heap.size ∧ XB < S ∧ LB < S) := Hid.mk ⟨HI.out.2.2.2.2.2, KQ.out.size, by have := HXL.out; have := ES.out; omega, by have := HXL.out; have := ES.out; omega⟩
            have x6 := cellAt (i := 6) HXQ.out rfl
            have HON : Hid (XB ∉ (Value.slice vo k vc).ownBlock.toList ∧ LB ∉ (Value.slice vo k vc).ownBlock.toList) := Hid.mk (by
              have h9 := HSZ.out
              rcases HOW.out.2 with ⟨e, _⟩ | ⟨g', cap', cur', e, hg', _⟩
              · cases e; simp [Value.ownBlock]
              · cases e; simp [Value.ownBlock]; omega)
            obtain ⟨i0, gi, gz0, gz1, gz2⟩ := info_parts Tryz.infoLl
            have HB1 : Hid (S ≤ wr.heap.size) := Hid.mk (by have := HSZ.out; omega)
            have HK4 : Hid (k + 1 ≤ 140737488355328 ∧ (k + 1) * 24 ≤ 140737488355328) := Hid.mk (by have := HK.out; have := HM.out; omega)
            clear ht1 ht2 htl hRq hown ik
            go_upto_region 12 with (at_builtin; refine Tl.wpList_app1 wr rfl _ _ 36 S 66 i0 (.slice none 0 0) 24 Tryz.underlying36 gi gz0 gz1 gz2 rfl rfl (.slice vo k vc) k xs rfl HOW.out _ rfl rfl HB1.out HK4.out.1 HK4.out.2 ?_; intro V5 w7 ho7 k7 L7; obtain ⟨g7, c7, rfl⟩ := Tl.own_suc ho7; have hX7 := k7.heap HXQ.out HON.out.1; have x7 := cellAt (i := 6) hX7 rfl; have z7 := row_fz hX7)
            have S8 := Hid.mk (heap_setCell_at (i := 6) (u := .slice (some ⟨g7, 0, none⟩) (k + 1) c7) hX7)
            have k8 : Kept [XB] w7 (w7.setCell ⟨XB, 6, none⟩ (.slice (some ⟨g7, 0, none⟩) (k + 1) c7)) := (Kept.refl [XB] w7).setCell (p := ⟨XB, 6, none⟩) (.inl (by simp)) _
            have K7 : Hid (Kept [] w2 w7) := Hid.mk (by
              refine (HI.out.2.2.2.2.1.trans KQ.out).step k7 (fun x hx => .inr ?_)
              have h9 := HSZ.out
              rcases HOW.out.2 with ⟨e, _⟩ | ⟨g', cap', cur', e, hg', _⟩
              · cases e; simp [Value.ownBlock] at hx
              · cases e
                simp [Value.ownBlock] at hx
                subst hx
                have := HXL.out
                omega)
            have LF7 : Hid (Lf w7 LB k m bs ln (fun i => Tl.ltF (F i) (ln i)) ∧ Tl.Row w7 b NK (Tl.ltF f nk)) := Hid.mk (by
              have hne : ∀ x n9 f9, Tl.Row wr x n9 f9 → x ∉ (Value.slice vo k vc).ownBlock.toList := fun x n9 f9 hrx hm => Tl.own_row HOW.out hrx (Tl.mem_own.1 hm)
              exact ⟨(HI.out.2.1.keep0 KQ.out).keep k7 HON.out.2 (fun i hi => hne _ _ _ ((HI.out.2.1.keep0 KQ.out).row i hi)), HRQ.out.keep k7 (hne _ _ _ HRQ.out)⟩)
            have hbS : Hid (S ≤ b ∧ ∀ i, i < k → bs i < b) := Hid.mk ⟨by have := HSZ.out; have := EB.out; omega, fun i hi => by have h1 := (HI.out.2.1.row i hi).lt; have := EB.out; omega⟩
            have O8 := Hid.mk (k8.row ho7 (fun gg hg hm => by
              simp [Value.ownBlock] at hg
              simp at hm
              have h1 := (own_block ho7).1
              have := HSZ.out
              omega))
            have LF8 := Hid.mk (LF7.out.1.keep k8 (by have := HXL.out; simp; omega) (fun i hi => by have h1 := HI.out.2.2.1 i hi; have := HSZ.out; simp; omega))
            have R8 := Hid.mk (LF7.out.2.keep k8 (by have h1 := hbS.out.1; have := HSZ.out; simp; omega))
            have KW8 := Hid.mk (K7.out.step k8 (fun x hx => by simp at hx; subst hx; exact .inr (by have := HXL.out; omega)))
            have GP8 : Hid ((w7.setCell ⟨XB, 6, none⟩ (.slice (some ⟨g7, 0, none⟩) (k + 1) c7)).cell? ⟨B, 4, none⟩ = some (.slice (some ⟨gp, offp, none⟩) m d) ∧ (w7.setCell ⟨XB, 6, none⟩ (.slice (some ⟨g7, 0, none⟩) (k + 1) c7)).cell? ⟨gp, offp + k, none⟩ = some (.slice ao nk ck)) := Hid.mk ⟨cellAt (i := 4) (KW8.out.heap HF.out (by simp)) rfl, Tl.cell_keep KW8.out HC2.out (by simp)⟩
            generalize w7.setCell ⟨XB, 6, none⟩ (.slice (some ⟨g7, 0, none⟩) (k + 1) c7) = w8 at *
            clear k8 k7 ho7 L7 hX7 x7 z7 x6
            have RS : Hid (∀ u, Kept [LB] w8 u → u.cell? ⟨XB, 5, none⟩ = some (.slice (some ⟨LB, 0, none⟩) N N) ∧ u.cell? ⟨B, 4, none⟩ = some (.slice (some ⟨gp, offp, none⟩) m d) ∧ u.cell? ⟨gp, offp + k, none⟩ = some (.slice ao nk ck)) := Hid.mk (fun u ku => ⟨Tl.cell_keep ku (cellAt (i := 5) S8.out rfl) (by have := HXL.out; simp; omega), Tl.cell_keep ku GP8.out.1 (by
              have h1 := lt_of_block HF.out
              have := HXL.out
              simp
              omega), Tl.cell_keep ku GP8.out.2 (by
              have h1 := World.block_lt_of_cell? _ _ HC2.out
              have := HXL.out
              simp at h1 ⊢
              omega)⟩)
            have RS0 := RS.out _ ((Kept.refl [LB] w8).drew)
            have ik : (k : Int) < (m : Int) := by have := HK.out; omega
            have iN : (k : Int) < (N : Int) := by have := HK.out; have := EN.out; omega
            have iK : (nk : Int) ≤ (NK : Int) := by have := HNK.out; omega
            have lc : w8.cell? ⟨LB, k, none⟩ = some (.slice none 0 0) := cellAt LF8.out.lst (by rw [List.getElem?_toArray, Tl.fl_at _ _ _ (by have := HK.out; omega)]; unfold lpC; rw [if_neg (by omega)])
            have lz := row_fz LF8.out.lst
            have lcd : w8.drew.cell? ⟨LB, k, none⟩ = some (.slice none 0 0) := lc
            have lzd : ∀ i, w8.drew.frozen? ⟨LB, i, none⟩ = false := lz
            have S9 := Hid.mk (heap_setCell_at (i := k) (u := .slice (some ⟨b, 0, none⟩) nk NK) LF8.out.lst)
            have k9 : Kept [LB] w8 ((w8.setCell ⟨LB, k, none⟩ (.slice (some ⟨b, 0, none⟩) nk NK)).drew) := ((Kept.refl [LB] w8).setCell (p := ⟨LB, k, none⟩) (.inl (by simp)) _).drew
            have K9 := Hid.mk k9
            clear k9 lc lz
            refine wp_region_held_drew (S := fun u => u.cell? ⟨XB, 5, none⟩ = some (.slice (some ⟨LB, 0, none⟩) N N) ∧ u.cell? ⟨B, 4, none⟩ = some (.slice (some ⟨gp, offp, none⟩) m d) ∧ u.cell? ⟨gp, offp + k, none⟩ = some (.slice ao nk ck)) (by kernel_rfl) RS0 (fun hH0 => ?_)
            clear RS0
            refine wpAnyH_take (i := 0) (oi := _) (v := ?_) rfl (by kernel_rfl) (by kernel_rfl) (by kernel_rfl) (fun _ _ _ h => h) (Or.inl ⟨by rfl, ?y0c⟩) (by assumption) ?r0c
            case y0c => (intro w hSw; (try dsimp only at hSw); go_simp; try with_reducible rfl)
            refine wpAnyH_take (i := 1) (oi := _) (v := ?_) rfl (by kernel_rfl) (by kernel_rfl) (by kernel_rfl) (fun _ _ _ h => h) (Or.inl ⟨by rfl, ?y1c⟩) (by assumption) ?r1c
            case y1c => (intro w hSw; (try dsimp only at hSw); go_simp; try with_reducible rfl)
            refine wpAnyH_take (i := 2) (oi := _) (v := ?_) rfl (by kernel_rfl) (by kernel_rfl) (by kernel_rfl) (fun _ _ _ h => h) (Or.inl ⟨by rfl, ?y2c⟩) (by assumption) ?r2c
            case y2c => (intro w hSw; (try dsimp only at hSw); go_simp; try with_reducible rfl)
            refine wpAnyH_take (i := 3) (oi := _) (v := ?_) rfl (by kernel_rfl) (by kernel_rfl) (by kernel_rfl) (fun _ _ _ h => h) (Or.inl ⟨by rfl, ?y3c⟩) (by assumption) ?r3c
            case y3c => (intro w hSw; (try dsimp only at hSw); go_simp; try with_reducible rfl)
            refine wpAnyH_take (i := 4) (oi := _) (v := ?_) rfl (by kernel_rfl) (by kernel_rfl) (by kernel_rfl) (fun _ _ _ h => h) (Or.inl ⟨by rfl, ?y4c⟩) (by assumption) ?r4c
            case y4c => (intro w hSw; (try dsimp only at hSw); go_simp; try with_reducible rfl)
            refine wpAnyH_take (i := 5) (oi := _) (v := ?_) rfl (by kernel_rfl) (by kernel_rfl) (by kernel_rfl) (fun _ _ _ h => h) (Or.inl ⟨by rfl, ?y5c⟩) (by assumption) ?r5c
            case y5c => (intro w hSw; (try dsimp only at hSw); go_simp; try with_reducible rfl)
            refine wpAnyH_take (i := 6) (oi := _) (v := ?_) rfl (by kernel_rfl) (by kernel_rfl) (by kernel_rfl) (fun _ _ _ h => h) (Or.inl ⟨by rfl, ?y6c⟩) (by assumption) ?r6c
            case y6c => (intro w hSw; (try dsimp only at hSw); go_simp; try with_reducible rfl)
            refine wpAnyH_take (i := 7) (oi := _) (v := ?_) rfl (by kernel_rfl) (by kernel_rfl) (by kernel_rfl) (fun _ _ _ h => h) (Or.inl ⟨by rfl, ?y7c⟩) (by assumption) ?r7c
            case y7c => (intro w hSw; (try dsimp only at hSw); go_simp; try with_reducible rfl)
            refine wpAnyH_take (i := 8) (oi := _) (v := ?_) rfl (by kernel_rfl) (by kernel_rfl) (by kernel_rfl) (fun _ _ _ h => h) (Or.inl ⟨by rfl, ?y8c⟩) (by assumption) ?r8c
            case y8c => (intro w hSw; (try dsimp only at hSw); go_simp; try with_reducible rfl)
            refine wpAnyH_take (i := 9) (oi := _) (v := ?_) rfl (by kernel_rfl) (by kernel_rfl) (by kernel_rfl) (fun _ _ _ h => h) (Or.inl ⟨by rfl, ?y9c⟩) (by assumption) ?r9c
            case y9c => (intro w hSw; (try dsimp only at hSw); go_simp; try with_reducible rfl)
            refine wpAnyH_take (i := 10) (oi := _) (v := ?_) rfl (by kernel_rfl) (by kernel_rfl) (by kernel_rfl) (fun _ _ _ h => h) (Or.inl ⟨by rfl, ?y10c⟩) (by assumption) ?r10c
            case y10c => (intro w hSw; (try dsimp only at hSw); go_simp; try with_reducible rfl)
            refine wpAnyH_take (i := 11) (oi := _) (v := ?_) rfl (by kernel_rfl) (by kernel_rfl) (by kernel_rfl) (fun _ _ _ h => h) (Or.inl ⟨by rfl, ?y11c⟩) (by assumption) ?r11c
            case y11c => (intro w hSw; (try dsimp only at hSw); go_simp; try with_reducible rfl)
            refine wpAnyH_ready (rs := [12]) (by kernel_rfl) (by simp) ?_
            refine AllReadyH.cons rfl (fun K hK => ?_) AllReadyH.nil
            go_simp
            refine hK.out _ _ (RS.out _ K9.out) (fun hH1 => ?_)
            clear hK K hH0
            refine wpAnyH_done (by kernel_rfl) ?_ _
            have XB9 := Hid.mk (K9.out.heap S8.out (by have := HXL.out; simp; omega))
            have LB9 : Hid (((w8.setCell ⟨LB, k, none⟩ (.slice (some ⟨b, 0, none⟩) nk NK)).drew).heap[LB]? = some (.cells (Tl.fl (lpC (fun i => if i = k then b else bs i) ln (k + 1)) (m + 2)).toArray 66 (0, 0))) := Hid.mk (by
              have h9 := S9.out
              rw [List.setIfInBounds_toArray, ← HNK.out.1, ← ENK.out, lpC_set] at h9
              rw [← HNK.out.1, ← ENK.out]
              exact h9)
            have R9 := Hid.mk (R8.out.keep K9.out (by have h1 := hbS.out.1; have := HSZ.out; simp; omega))
            have RW9 := Hid.mk (fun i (hi : i < k) => (LF8.out.row i hi).keep K9.out (by have h1 := HI.out.2.2.1 i hi; have := HSZ.out; simp; omega))
            have O9 := Hid.mk (K9.out.row O8.out (fun gg hg hm => by
              simp [Value.ownBlock] at hg
              simp at hm
              have h1 := (own_block O8.out).1
              have := HSZ.out
              omega))
            have KW9 := Hid.mk (KW8.out.step K9.out (fun x hx => by simp at hx; subst hx; exact .inr HXL.out.2.1))
            have SZ9 : Hid (S ≤ ((w8.setCell ⟨LB, k, none⟩ (.slice (some ⟨b, 0, none⟩) nk NK)).drew).heap.size) := Hid.mk (by
              have h1 := R9.out.lt
              have h2 := hbS.out.1
              omega)
            generalize (w8.setCell ⟨LB, k, none⟩ (.slice (some ⟨b, 0, none⟩) nk NK)).drew = w9 at *
            have hkb : k + 1 ≤ 100000000 := by have := HK.out; have := HM.out; omega
            have hk1 : wrap64 ((k : Int) + 1) = ((k + 1 : Nat) : Int) := w64_add (b := 1) rfl hkb
            have hk2 : IntKind.i64.wrap ((k : Int) + 1) = ((k + 1 : Nat) : Int) := wi_add (b := 1) rfl hkb
            clear hkb hH1 lcd lzd iN iK ik
            go_wp2
            clear hk1 hk2
            go_roundw
            case rel =>
              refine ⟨k + 1, some ⟨g7, 0, none⟩, c7, fun i => if i = k then b else bs i, HK.out, rfl, Hid.mk ⟨XB9.out, ⟨LB9.out, fun i hi => ?_, fun i j h1 h2 => ?_, fun i hi => ?_⟩, fun i hi => ?_, ⟨_, O9.out⟩, KW9.out, SZ9.out⟩⟩
              · by_cases e : i = k
                · subst e
                  simp only [if_true]
                  rw [ENK.out, EF.out, HNK.out.1]
                  exact R9.out
                · simp only [if_neg e]
                  exact RW9.out i (by omega)
              · by_cases e : j = k
                · subst e
                  simp only [if_true, if_neg (show i ≠ j by omega)]
                  exact hbS.out.2 i (by omega)
                · simp only [if_neg e, if_neg (show i ≠ k by omega)]
                  exact HI.out.2.1.mon i j h1 (by omega)
              · by_cases e : i = k
                · subst e
                  simp only [if_true]
                  have h1 := hbS.out.1
                  have := HSZ.out
                  omega
                · simp only [if_neg e]
                  exact HI.out.2.1.gt i (by omega)
              · by_cases e : i = k
                · subst e
                  simp only [if_true]
                  exact hbS.out.1
                · simp only [if_neg e]
                  exact HI.out.2.2.1 i (by omega)
            case measure => (simp [intOf]; have := HK.out; omega)
      · obtain rfl : m = k := by omega
        have HXr := Hid.mk HI.out.1
        have KR := Hid.mk HI.out.2.2.2.2.1
        have x5 := cellAt (i := 5) HXr.out rfl
        have x4 := cellAt (i := 4) HXr.out rfl
        have xz := row_fz HXr.out
        have c4 := cellAt (i := 4) (KR.out.heap HF.out (by simp)) rfl
        have iN : (m : Int) ≤ (N : Int) := by have := EN.out; omega
        have S9 := Hid.mk (heap_setCell_at (i := 4) (u := .slice (some ⟨LB, 0, none⟩) m N) HXr.out)
        have k9 : Kept [XB] wr (wr.setCell ⟨XB, 4, none⟩ (.slice (some ⟨LB, 0, none⟩) m N)) := (Kept.refl [XB] wr).setCell (p := ⟨XB, 4, none⟩) (.inl (by simp)) _
        have K9 := Hid.mk k9
        clear hlt hk k9
        go_upto_region 14 with (fail)
        generalize wr.setCell ⟨XB, 4, none⟩ (.slice (some ⟨LB, 0, none⟩) m N) = w9 at *
        have X9 : Hid (w9.heap[XB]? = some (.cells #[.int .i64 W, .int .i64 H, .int .i64 D, .bool A, .slice (some ⟨LB, 0, none⟩) m N, .slice (some ⟨LB, 0, none⟩) N N, .slice vo m vc] 57 (0, 0))) := Hid.mk S9.out
        clear x5 x4 xz c4 iN S9
        have R9 := Hid.mk (K9.out.heap (KR.out.heap HR.out (by simp)) (by have h1 := lt_of_block HR.out; have := HXL.out; simp; omega))
        obtain ⟨⟨y0, y1, y2, y3, y4, y5, y6⟩, _⟩ := Tl.seven X9.out
        obtain ⟨⟨r0, r1, r2, r3, r4, r5, r6⟩, _⟩ := Tl.seven R9.out
        have rz := row_fz R9.out
        have SA := Hid.mk (setAll_row [.int .i64 W, .int .i64 H, .int .i64 D, .bool A, .slice (some ⟨LB, 0, none⟩) m N, .slice (some ⟨LB, 0, none⟩) N N, .slice vo m vc] 0 w9 [] _ R9.out rfl rfl)
        simp only [setAll] at SA
        have LF9 := Hid.mk (HI.out.2.1.keep K9.out (by have := HXL.out; simp; omega) (fun i hi => by have h1 := HI.out.2.2.1 i hi; have := HXL.out; have := ES.out; simp; omega))
        have KW9 := Hid.mk (KR.out.step K9.out (fun x hx => by simp at hx; subst hx; exact .inr HXL.out.1))
        have HBB : Hid (B + 1 < w2.heap.size) := Hid.mk (lt_of_block HR.out)
        go_wp2
        refine bodyPost_ret (v := .agg #[.int .i64 W, .int .i64 H, .int .i64 D, .bool A, .slice (some ⟨LB, 0, none⟩) m N, .slice (some ⟨LB, 0, none⟩) N N, .slice vo m vc]) ?_ rfl ⟨LB, bs, vo, vc, ?_, ?_, ?_, ?_⟩
        · exact results_cell_row rfl _ _ (B + 1) 57 _ (0, 0) _ rfl SA.out.1 Tryz.underlying57 rfl Tryz.infoLf
        · simp only [lfv, EN.out]
        · have h1 := K2.out.size
          have := HXL.out
          omega
        · exact LF9.out.keep SA.out.2 (by have := HXL.out; have := HBB.out; simp; omega) (fun i hi => by have h1 := HI.out.2.2.1 i hi; have := HXL.out; have := ES.out; have := HBB.out; simp; omega)
        · exact (K2.out.trans KW9.out).step SA.out.2 (fun x hx => by simp at hx; subst hx; exact .inr (by have := HB.out; omega))
end Go.Proofs.YthkpligodbkofaaGreatDoor.Pc
