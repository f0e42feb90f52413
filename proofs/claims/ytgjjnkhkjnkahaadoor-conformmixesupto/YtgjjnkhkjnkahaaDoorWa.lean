import Derived.Test.YtgjjnkhkjnkahaaDoorGb
import Derived.Maps.AppendAt
namespace Go.Proofs.YtgjjnkhkjnkahaaDoor
open Go.RowKit

/-- A list whose elements are read. -/
def Sv (w : World) (ao : Option Addr) (n : Nat) (f : Nat → Value) : Prop := n = 0 ∨ ∃ g off, ao = some ⟨g, off, none⟩ ∧ ∀ i, i < n → w.cell? ⟨g, off + i, none⟩ = some (f i)
theorem Sv.kept {w w' : World} {ao : Option Addr} {n : Nat} {f : Nat → Value} {ks : List Nat} (h : Sv w ao n f) (hk : Kept ks w w') (hn : ∀ g off, ao = some ⟨g, off, none⟩ → g ∉ ks) : Sv w' ao n f := by
  rcases h with h | ⟨g, off, e, hc⟩
  · exact .inl h
  · exact .inr ⟨g, off, e, fun i hi => cell_keep hk (hc i hi) (hn g off e)⟩
theorem Sv.keep {w w' : World} {ao : Option Addr} {n : Nat} {f : Nat → Value} (h : Sv w ao n f) (hk : Kept [] w w') : Sv w' ao n f := h.kept hk (by simp)
theorem Sv.at {w : World} {ao : Option Addr} {n : Nat} {f : Nat → Value} (h : Sv w ao n f) {i : Nat} (hi : i < n) : ∃ g off, ao = some ⟨g, off, none⟩ ∧ w.cell? ⟨g, off + i, none⟩ = some (f i) := by
  rcases h with h | ⟨g, off, e, hc⟩
  · omega
  · exact ⟨g, off, e, hc i hi⟩
theorem fl_app (f g : Nat → Value) (n m : Nat) : fl f n ++ fl g m = fl (fun i => if i < n then f i else g (i - n)) (n + m) := by
  apply List.ext_getElem?
  intro i
  by_cases h : i < n + m
  · rw [fl_at _ _ _ h]
    by_cases h1 : i < n
    · rw [List.getElem?_append_left (by rw [fl_length]; exact h1), fl_at _ _ _ h1, if_pos h1]
    · rw [List.getElem?_append_right (by rw [fl_length]; omega), fl_length, fl_at _ _ _ (by omega), if_neg h1]
  · rw [List.getElem?_eq_none (by rw [List.length_append, fl_length, fl_length]; omega), List.getElem?_eq_none (by rw [fl_length]; omega)]
theorem own_sv {w : World} {B e n : Nat} {V : Value} {f : Nat → Value} (h : w.ownsRow B e 1 V n (fl f n)) : ∃ ao cap, V = .slice ao n cap ∧ Sv w ao n f ∧ (∀ g off, ao = some ⟨g, off, none⟩ → B ≤ g) ∧ (ao = none → cap = 0) := by
  rcases h.2 with ⟨h1, h2⟩ | ⟨g, cap, cur, h1, hb, _⟩
  · subst h2
    exact ⟨none, 0, h1, .inl rfl, by simp, fun _ => rfl⟩
  · refine ⟨_, cap, h1, .inr ⟨g, 0, rfl, fun i hi => ?_⟩, fun g2 off e => by cases e; exact hb, by simp⟩
    subst h1
    have hc := h.cells (g := g) rfl i (f i) (fl_at f n i hi)
    have hadd : (⟨g, 0, none⟩ : Addr).add i = ⟨g, 0 + i, none⟩ := by unfold Addr.add; split <;> simp_all
    rw [hadd] at hc
    exact hc

/-- append of a list that is read onto one of one's own. -/
theorem wpList_app (w : World) {ops : Array Oper} {rest : List Oper} {o : Oper} {a : Act} {Q : Exit → Act → World → Prop} (hgd : o.guard = none) (s x : Operand) (t B e : Nat) (i0 : TypeInfo) (z : Value) (by_ : Nat)
    (hu : Tryd.prog.underlying t = some (.slice e)) (hi : Tryd.prog.info? e = some i0) (hz0 : i0.zero = some z) (hz1 : i0.size = 1) (hz2 : i0.bytes = by_) (hzz : z.cells.size = 1) (hby : by_ ≤ 24)
    (ho : o.op = .call { callee := .builtin .append, args := #[s, x], argTypes := #[t, t] })
    (v : Value) (n : Nat) (xs : List Value) (hs : a.eval s = v) (hown : w.ownsRow B e 1 v n xs) (uo : Option Addr) (m uc : Nat) (f : Nat → Value) (hx : a.eval x = .slice uo m uc) (hsrc : Sv w uo m f) (hnil : uo = none → m = 0 ∧ uc = 0) (h1 : ∀ i, i < m → (f i).oneCell' = true)
    (hBw : B ≤ w.heap.size) (hb : n + m ≤ 1000000000000)
    (h : ∀ v' w', w'.ownsRow B e 1 v' (n + m) (xs ++ fl f m) → Kept v.ownBlock.toList w w' → Lies w v v' → wpList Tryd.prog ops Q rest (a.put o.dst v') w') :
    wpList Tryd.prog ops Q (o :: rest) a w := by
  cases uo with
  | none =>
    obtain ⟨rfl, rfl⟩ := hnil rfl
    refine wpList_plain hgd fun K hK => ?_
    have hrun := run_append_owned_none (P := Tryd.prog) (w := w) B t o.type e i0 1 hu hi v n xs hown
    unfold Oper.wp execOp
    simp only [ho, resolve, invoke, builtin, Sem.run_bind, Sem.run_pure, Result.andThen_ok, List.map_toArray, List.map_cons, List.map_nil, hs, hx, hrun]
    exact hK _ _ (h v w (by simpa [fl] using hown) (Kept.refl _ _) (Lies.refl _ _))
  | some ad =>
    refine wpList_append_own_at w hgd s x t ho B e i0 z 1 by_ hu hi hz0 hz1 hz2 hzz (by decide) v n xs hs hown ad m uc (fl f m) hx (by rw [fl_length, Nat.mul_one]) (fun j u hj => ?_) (fun u hu2 => ?_) (by unfold maxLen; omega) ?_ hBw ?_
    · have hjm : j < m := by
        rcases Nat.lt_or_ge j m with h | h
        · exact h
        · rw [List.getElem?_eq_none (by rw [fl_length]; exact h)] at hj; cases hj
      rw [fl_at _ _ _ hjm] at hj
      cases hj
      obtain ⟨g, off, e2, hc⟩ := hsrc.at hjm
      cases e2
      have hadd : (⟨g, off, none⟩ : Addr).add j = ⟨g, off + j, none⟩ := by unfold Addr.add; split <;> simp_all
      rw [hadd]; exact hc
    · simp only [fl, List.mem_map, List.mem_range] at hu2
      obtain ⟨i, hi2, rfl⟩ := hu2
      exact h1 i hi2
    · have : (n + m) * by_ ≤ 1000000000000 * 24 := Nat.mul_le_mul hb hby
      omega
    · intro v' w' h2 h3 _ h5
      refine h v' w' h2 (Kept.of_grown h3) ?_
      rcases h5 with h | h
      · exact .inl h
      · exact .inr ⟨_, h, Nat.le_refl _⟩

theorem step_app {ops : Array Oper} {o : Oper} {a : Act} {w : World} {K : Act → World → Prop} {Q : Exit → Act → World → Prop} {E : Prop} (hg : o.guard = none) (s x : Operand) (t : Nat)
    (hop : o.op = Op.call { callee := Callee.builtin Builtin.append, args := #[s, x], argTypes := #[t, t] }) (v1 v2 v' : Value) (w' : World) (hs : a.eval s = v1) (hx : a.eval x = v2)
    (hr : Sem.run Tryd.prog (Builtin.append_ #[t, t] o.type #[v1, v2]) w = .ok v' w') (hK : K (a.put o.dst v') w') :
    if Region.wanted o (yielded ops a.tmps) = true then Oper.wp Tryd.prog o a w K Q else E := by
  have hw : Region.wanted o (yielded ops a.tmps) = true := by simp [Region.wanted, hg]
  rw [if_pos hw]
  unfold Oper.wp
  simp [execOp, hop, resolve, invoke, builtin, hs, hx, hr, Result.andThen]
  exact hK
theorem own_lt {w : World} {B e n : Nat} {V : Value} {xs : List Value} (h : w.ownsRow B e 1 V n xs) : ∀ x, V.ownBlock = some x → B ≤ x ∧ x < w.heap.size := fun x hx => by
  rcases h.2 with ⟨e, _⟩ | ⟨g, cap, cur, e, hb, hg, _⟩
  · rw [e] at hx; simp [Value.ownBlock] at hx
  · rw [e] at hx; simp [Value.ownBlock] at hx; subst hx; exact ⟨hb, lt_of_block hg⟩
/-- append of one list onto a list of lists, as an equation. -/
theorem app_one (u : World) (B k : Nat) (V y : Value) (xs : List Value) (ho : u.ownsRow B 37 1 V k xs) (hy : y.oneCell' = true) (hB : B ≤ u.heap.size) (hk : k ≤ 5864062014700) :
    ∃ g2 c2 ud, Sem.run Tryd.prog (Builtin.append_ #[27, 27] 27 #[V, .slice (some ⟨u.heap.size, 0, none⟩) 1 1]) (u.alloc (.cells #[y] 37)) = .ok (slv g2 (k + 1) c2) ud ∧ ud.ownsRow B 37 1 (slv g2 (k + 1) c2) (k + 1) (xs ++ [y]) ∧ Kept V.ownBlock.toList u ud ∧ Lies u V (slv g2 (k + 1) c2) := by
  obtain ⟨j0, gi, gz0, gz1, gz2⟩ := info_parts Tryd.infoR
  obtain ⟨v', w', hrun, h2, h3, _, h5⟩ := run_append_own_at (P := Tryd.prog) (u.alloc (.cells #[y] 37)) B 27 27 37 j0 (.slice none 0 0) 1 24 Tryd.underlying27 gi gz0 gz1 gz2 rfl (by decide) V k xs (ho.alloc _) ⟨u.heap.size, 0, none⟩ 1 1 [y] rfl (cell_one_new _ _ _) (fun x hx => by simp at hx; subst hx; exact hy) (by unfold maxLen; omega) (by omega) (by rw [World.size_alloc]; omega)
  obtain ⟨g2, c2, rfl⟩ := own_suc h2
  refine ⟨g2, c2, w', hrun, h2, ((Kept.refl _ u).alloc _).step (Kept.of_grown h3) (fun x hx => .inl hx), ?_⟩
  rcases h5 with h | h
  · exact .inl h
  · exact .inr ⟨_, h, by rw [World.size_alloc]; omega⟩


/-- A row whose first m samples are f, in a block of its own (with room). -/
def Wr (w : World) (g m : Nat) (f : Nat → Nat) : Prop := ∃ cs : Array Value, w.heap[g]? = some (.cells cs 38 (0, 0)) ∧ ∀ i, i < m → cs[i]? = some (.int .u16 (f i : Int))
theorem Wr.lt {w : World} {g m : Nat} {f : Nat → Nat} (h : Wr w g m f) : g < w.heap.size := by
  obtain ⟨cs, h1, -⟩ := h
  exact lt_of_block h1
theorem Wr.keep {w w' : World} {g m : Nat} {f : Nat → Nat} {ks : List Nat} (h : Wr w g m f) (hk : Kept ks w w') (hg : g ∉ ks) : Wr w' g m f := by
  obtain ⟨cs, h1, h2⟩ := h
  exact ⟨cs, hk.heap h1 hg, h2⟩
theorem Wr.at {w : World} {g m : Nat} {f : Nat → Nat} (h : Wr w g m f) {i : Nat} (hi : i < m) : w.cell? ⟨g, i, none⟩ = some (.int .u16 (f i : Int)) := by
  obtain ⟨cs, h1, h2⟩ := h
  rw [cell_of_row _ _ _ _ _ _ h1]
  exact h2 i hi
theorem Wr.fz {w : World} {g m : Nat} {f : Nat → Nat} (h : Wr w g m f) (i : Nat) : w.frozen? ⟨g, i, none⟩ = false := by
  obtain ⟨cs, h1, -⟩ := h
  simp [World.frozen?, h1]
theorem Wr.rd {w : World} {g m : Nat} {f : Nat → Nat} (h : Wr w g m f) : Rd w (some ⟨g, 0, none⟩) m f := .inr ⟨g, 0, rfl, fun i hi => by rw [Nat.zero_add]; exact h.at hi⟩
theorem Wr.congr {w : World} {g m : Nat} {f f' : Nat → Nat} (h : Wr w g m f) (hf : ∀ i, i < m → f i = f' i) : Wr w g m f' := by
  obtain ⟨cs, h1, h2⟩ := h
  exact ⟨cs, h1, fun i hi => by rw [h2 i hi, hf i hi]⟩
theorem Wr.less {w : World} {g m m' : Nat} {f : Nat → Nat} (h : Wr w g m f) (hm : m' ≤ m) : Wr w g m' f := by
  obtain ⟨cs, h1, h2⟩ := h
  exact ⟨cs, h1, fun i hi => h2 i (by omega)⟩
theorem Wr.set {w : World} {g m i v : Nat} {f : Nat → Nat} (h : Wr w g m f) : Wr (w.setCell ⟨g, i, none⟩ (.int .u16 (v : Int))) g m (fun t => if t = i then v else f t) := by
  obtain ⟨cs, h1, h2⟩ := h
  refine ⟨_, heap_setCell_at h1, fun t ht => ?_⟩
  have h3 := h2 t ht
  rw [Array.getElem?_setIfInBounds]
  by_cases e : i = t
  · subst e
    have hl : i < cs.size := by
      rcases Nat.lt_or_ge i cs.size with h | h
      · exact h
      · rw [Array.getElem?_eq_none h] at h3; cases h3
    simp [hl]
  · rw [if_neg e]
    show cs[t]? = some (.int .u16 ((if t = i then v else f t : Nat) : Int))
    rw [if_neg (Ne.symm e)]
    exact h3
theorem wr_of_own {w : World} {B g n c : Nat} {f : Nat → Nat} (h : w.ownsRow B 38 1 (slv g n c) n (fl (vU f) n)) : Wr w g n f ∧ B ≤ g ∧ n ≤ c := by
  rcases h.2 with ⟨e, _⟩ | ⟨g2, cap, cur, e, hb, hg, hc, _⟩
  · cases e
  · cases e
    refine ⟨⟨cur, hg, fun i hi => ?_⟩, hb, hc⟩
    have hcc := h.cells (g := g) rfl i _ (fl_at _ n i hi)
    rw [show (⟨g, 0, none⟩ : Addr).add i = ⟨g, 0 + i, none⟩ by unfold Addr.add; split <;> simp_all, Nat.zero_add, cell_of_row _ _ _ _ _ _ hg] at hcc
    exact hcc
/-- Planes that were copied so far, each with two samples behind it, in blocks of their own, one behind the other. -/
structure Cz (B : Nat) (w : World) (V : Value) (k : Nat) (gs cs ln : Nat → Nat) (F : Nat → Nat → Nat) : Prop where
  own : w.ownsRow B 37 1 V k (fl (fun i => slv (gs i) (ln i) (cs i)) k)
  row : ∀ i, i < k → ln i + 2 ≤ cs i ∧ B ≤ gs i ∧ Wr w (gs i) (ln i + 2) (F i)
  mon : ∀ i j, i < j → j < k → gs i < gs j
theorem Cz.start (B : Nat) (w : World) (gs cs ln : Nat → Nat) (F : Nat → Nat → Nat) : Cz B w (.slice none 0 0) 0 gs cs ln F := ⟨⟨rfl, .inl ⟨rfl, rfl⟩⟩, fun i h => by omega, fun i j _ h => by omega⟩
theorem Cz.keep {B : Nat} {w w' : World} {V : Value} {k : Nat} {gs cs ln : Nat → Nat} {F : Nat → Nat → Nat} {ks : List Nat} (h : Cz B w V k gs cs ln F) (hk : Kept ks w w') (hs : ∀ x ∈ ks, x < B ∨ w.heap.size ≤ x) : Cz B w' V k gs cs ln F := by
  refine ⟨hk.row h.own (fun g hg hm => ?_), fun i hi => ?_, h.mon⟩
  · have := own_lt h.own g hg
    have := hs g hm
    omega
  · obtain ⟨h1, h2, h3⟩ := h.row i hi
    exact ⟨h1, h2, h3.keep hk (fun hm => by have := hs _ hm; have := h3.lt; omega)⟩
theorem own_form {w : World} {B e n : Nat} {V : Value} {xs : List Value} (h : w.ownsRow B e 1 V n xs) (hn : V.ownBlock ≠ none) : ∃ g c, V = slv g n c := by
  rcases h.2 with ⟨e, _⟩ | ⟨g, cap, cur, e, _⟩
  · rw [e] at hn; exact absurd rfl hn
  · exact ⟨g, cap, e⟩
theorem Cz.keepx {B : Nat} {w w' : World} {V : Value} {k X : Nat} {gs cs ln : Nat → Nat} {F : Nat → Nat → Nat} {vs : Array Value} (h : Cz B w V k gs cs ln F) (hk : Kept [X] w w') (hX : w.heap[X]? = some (.cells vs 29 (0, 0))) : Cz B w' V k gs cs ln F := by
  refine ⟨hk.row h.own (fun g hg hm => ?_), fun i hi => ?_, h.mon⟩
  · simp at hm; subst hm; exact own_other h.own hX (by decide) hg
  · obtain ⟨h1, h2, h3⟩ := h.row i hi
    refine ⟨h1, h2, h3.keep hk (fun hm => ?_)⟩
    simp at hm
    obtain ⟨cs', h4, -⟩ := h3
    rw [hm, hX] at h4
    simp at h4
theorem own_wr {w : World} {B n g m : Nat} {V : Value} {xs : List Value} {f : Nat → Nat} (h : w.ownsRow B 37 1 V n xs) (hr : Wr w g m f) : V.ownBlock ≠ some g := by
  obtain ⟨cs, h1, -⟩ := hr
  exact own_other h h1 (by decide)
/-- One row more. -/
theorem Cz.step {B : Nat} {w wA w' : World} {V V' : Value} {k gn c : Nat} {gs cs ln : Nat → Nat} {F : Nat → Nat → Nat} (h : Cz B w V k gs cs ln F) (hB : B ≤ w.heap.size) (hk : Kept [] w wA) (hc : ln k + 2 ≤ c) (hgn : w.heap.size ≤ gn) (hr : Wr wA gn (ln k + 2) (F k))
    (ho : w'.ownsRow B 37 1 V' (k + 1) (fl (fun i => slv (gs i) (ln i) (cs i)) k ++ [slv gn (ln k) c])) (hk2 : Kept V.ownBlock.toList wA w') : Cz B w' V' (k + 1) (fun i => if i = k then gn else gs i) (fun i => if i = k then c else cs i) ln F := by
  have hA := h.keep hk (by simp)
  refine ⟨?_, fun i hi => ?_, fun i j hij hj => ?_⟩
  · rw [show fl (fun i => slv (gs i) (ln i) (cs i)) k ++ [slv gn (ln k) c] = fl (fun i => slv (gs i) (ln i) (cs i)) k ++ fl (fun _ => slv gn (ln k) c) 1 from rfl, fl_append] at ho
    rw [fl_congr (g := fun i => if i < k then slv (gs i) (ln i) (cs i) else slv gn (ln k) c)]
    · exact ho
    · intro i hi
      by_cases e : i = k
      · subst e; simp
      · simp [e, show i < k by omega]
  · by_cases e : i = k
    · subst e
      simp only [if_pos]
      exact ⟨hc, by omega, hr.keep hk2 (fun hm => own_wr hA.own hr (mem_own.1 hm))⟩
    · simp only [if_neg e]
      obtain ⟨h1, h2, h3⟩ := hA.row i (by omega)
      exact ⟨h1, h2, h3.keep hk2 (fun hm => own_wr hA.own h3 (mem_own.1 hm))⟩
  · have hlt : ∀ i, i < k → gs i < w.heap.size := fun i hi => (h.row i hi).2.2.lt
    by_cases e : j = k
    · subst e
      rw [if_pos rfl, if_neg (by omega)]
      have := hlt i hij
      omega
    · rw [if_neg (show i ≠ k by omega), if_neg e]
      exact h.mon i j hij (by omega)
theorem Cz.pl {B : Nat} {w : World} {k : Nat} {ao : Option Addr} {c : Nat} {gs cs ln : Nat → Nat} {F : Nat → Nat → Nat} (h : Cz B w (.slice ao k c) k gs cs ln F) : Pl w ao k ln F := by
  rcases h.own.2 with ⟨e, h0⟩ | ⟨g, cap, cur, e, hb, hg, _⟩
  · exact .inl h0
  · cases e
    refine .inr ⟨g, 0, rfl, fun i hi => ?_⟩
    obtain ⟨h1, h2, h3⟩ := h.row i hi
    have hc := h.own.cells (g := g) rfl i _ (fl_at _ k i hi)
    have hadd : (⟨g, 0, none⟩ : Addr).add i = ⟨g, 0 + i, none⟩ := by unfold Addr.add; split <;> simp_all
    rw [hadd] at hc
    exact ⟨_, cs i, hc, (h3.less (by omega)).rd⟩
theorem Cz.form {B : Nat} {w : World} {V : Value} {k : Nat} {gs cs ln : Nat → Nat} {F : Nat → Nat → Nat} (h : Cz B w V k gs cs ln F) : ∃ ao c, V = .slice ao k c := by
  rcases h.own.2 with ⟨e, h0⟩ | ⟨g, cap, cur, e, _⟩
  · subst h0; exact ⟨_, _, e⟩
  · exact ⟨_, _, e⟩
/-- A frame's rows as they came in: one that is nil has no room. -/
def Pn (w : World) (po : Option Addr) (n : Nat) (ln : Nat → Nat) (F : Nat → Nat → Nat) : Prop := n = 0 ∨ ∃ g off, po = some ⟨g, off, none⟩ ∧ ∀ i, i < n → ∃ bo c, w.cell? ⟨g, off + i, none⟩ = some (.slice bo (ln i) c) ∧ Rd w bo (ln i) (F i) ∧ (bo = none → ln i = 0 ∧ c = 0)
theorem Pn.pl {w : World} {po : Option Addr} {n : Nat} {ln : Nat → Nat} {F : Nat → Nat → Nat} (h : Pn w po n ln F) : Pl w po n ln F := by
  rcases h with h | ⟨g, off, e, hc⟩
  · exact .inl h
  · exact .inr ⟨g, off, e, fun i hi => by obtain ⟨bo, c, h1, h2, -⟩ := hc i hi; exact ⟨bo, c, h1, h2⟩⟩
theorem Pn.keep {w w' : World} {po : Option Addr} {n : Nat} {ln : Nat → Nat} {F : Nat → Nat → Nat} (h : Pn w po n ln F) (hk : Kept [] w w') : Pn w' po n ln F := by
  rcases h with h | ⟨g, off, e, hc⟩
  · exact .inl h
  · refine .inr ⟨g, off, e, fun i hi => ?_⟩
    obtain ⟨bo, c, h1, h2, h3⟩ := hc i hi
    exact ⟨bo, c, cell_keep hk h1 (by simp), h2.keep hk, h3⟩
theorem Pn.at {w : World} {po : Option Addr} {n : Nat} {ln : Nat → Nat} {F : Nat → Nat → Nat} (h : Pn w po n ln F) {i : Nat} (hi : i < n) : ∃ g off bo c, po = some ⟨g, off, none⟩ ∧ w.cell? ⟨g, off + i, none⟩ = some (.slice bo (ln i) c) ∧ Rd w bo (ln i) (F i) ∧ (bo = none → ln i = 0 ∧ c = 0) := by
  rcases h with h | ⟨g, off, e, hc⟩
  · omega
  · obtain ⟨bo, c, h1, h2, h3⟩ := hc i hi
    exact ⟨g, off, bo, c, e, h1, h2, h3⟩
theorem Rd.sv {w : World} {ao : Option Addr} {n : Nat} {f : Nat → Nat} (h : Rd w ao n f) : Sv w ao n (vU f) := h
/-- make of an empty list with room, as an equation. -/
theorem make_room (w : World) (m : Nat) (hm : m ≤ 1048576) : ∃ w', Sem.run Tryd.prog (Instr.makeSlice 37 (.int .i64 0) (.int .i64 ((m : Int) + 2))) w = .ok (slv w.heap.size 0 (m + 2)) w' ∧ w'.ownsRow w.heap.size 38 1 (slv w.heap.size 0 (m + 2)) 0 [] ∧ Kept [] w w' := by
  obtain ⟨j0, gi, gz0, gz1, gz2⟩ := info_parts Tryd.info38
  obtain ⟨w', hrun, r1, r2⟩ := run_make_own (P := Tryd.prog) w w.heap.size 37 38 j0 (.int .u16 0) 1 Tryd.underlying37 gi gz0 gz1 .i64 .i64 (m + 2) (by rw [gz2]; omega) (by unfold maxLen; omega) (Nat.le_refl _)
  exact ⟨w', hrun, r1, (Kept.of_grown r2).mono (by simp)⟩
/-- What was copied of a row, with two samples behind it. -/
def cpF (f : Nat → Nat) (n : Nat) : Nat → Nat := fun j => if j < n then f j else if j = n then 60001 else 60002
/-- append of the two samples, as an equation. -/
theorem app_two (u : World) (B r m c : Nat) (f : Nat → Nat) (ho : u.ownsRow B 38 1 (slv r m c) m (fl (vU f) m)) (hB : B ≤ u.heap.size) (hm : m ≤ 1048576) :
    ∃ g2 c2 ud, Sem.run Tryd.prog (Builtin.append_ #[37, 37] 37 #[slv r m c, .slice (some ⟨u.heap.size, 0, none⟩) 2 2]) (u.alloc (.cells #[.int .u16 60001, .int .u16 60002] 38)) = .ok (slv g2 (m + 2) c2) ud ∧ ud.ownsRow B 38 1 (slv g2 (m + 2) c2) (m + 2) (fl (vU (cpF f m)) (m + 2)) ∧ Kept [r] u ud := by
  obtain ⟨j0, gi, gz0, gz1, gz2⟩ := info_parts Tryd.info38
  obtain ⟨v', w', hrun, h2, h3, _, h5⟩ := run_append_own_at (P := Tryd.prog) (u.alloc (.cells #[.int .u16 60001, .int .u16 60002] 38)) B 37 37 38 j0 (.int .u16 0) 1 2 Tryd.underlying37 gi gz0 gz1 gz2 rfl (by decide) (slv r m c) m _ (ho.alloc _) ⟨u.heap.size, 0, none⟩ 2 2 [.int .u16 60001, .int .u16 60002] rfl (fun j x hj => by
    have hb := heap_alloc_new u (.cells #[.int .u16 60001, .int .u16 60002] 38)
    rw [show (⟨u.heap.size, 0, none⟩ : Addr).add j = ⟨u.heap.size, j, none⟩ by unfold Addr.add; split <;> simp_all, cell_of_row _ _ _ _ _ _ hb]
    simpa using hj) (fun x hx => by simp at hx; rcases hx with rfl | rfl <;> rfl) (by unfold maxLen; omega) (by omega) (by rw [World.size_alloc]; omega)
  obtain ⟨g2, c2, rfl⟩ := own_suc (k := m + 1) h2
  refine ⟨g2, c2, w', hrun, ?_, ((Kept.refl _ u).alloc _).step (Kept.of_grown h3) (fun x hx => .inl hx)⟩
  have e : fl (vU f) m ++ [Value.int .u16 60001, .int .u16 60002] = fl (vU (cpF f m)) (m + 2) := by
    rw [show [Value.int .u16 60001, .int .u16 60002] = fl (fun i => if i = 0 then .int .u16 60001 else .int .u16 60002) 2 from rfl, fl_append]
    refine fl_congr (fun j hj => ?_)
    unfold vU cpF
    by_cases h1 : j < m
    · simp [h1]
    · by_cases h4 : j = m
      · subst h4; simp
      · simp [h1, h4, show j - m ≠ 0 by omega]
  rw [← e]
  exact h2
end Go.Proofs.YtgjjnkhkjnkahaaDoor
