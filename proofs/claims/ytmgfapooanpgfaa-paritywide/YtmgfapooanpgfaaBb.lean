import Derived.Test.YtmgfapooanpgfaaBa
namespace Go.Proofs.Ytmgfapooanpgfaa
open Go.RowKit

/-- append of one value onto a row of one's own. -/
theorem wpList_app1 (w : World) {ops : Array Oper} {rest : List Oper} {o : Oper} {a : Act} {Q : Exit → Act → World → Prop} (hgd : o.guard = none) (s x : Operand) (t B e : Nat) (i0 : TypeInfo) (z : Value) (by_ : Nat)
    (hu : Try.prog.underlying t = some (.slice e)) (hi : Try.prog.info? e = some i0) (hz0 : i0.zero = some z) (hz1 : i0.size = 1) (hz2 : i0.bytes = by_) (hzz : z.cells.size = 1) (hby : by_ ≤ 24)
    (ho : o.op = .call { callee := .builtin .append, args := #[s, x], argTypes := #[t, t] })
    (v : Value) (n : Nat) (xs : List Value) (hs : a.eval s = v) (hown : w.ownsRow B e 1 v n xs) (y : Value) (hx : a.eval x = .slice (some ⟨w.heap.size, 0, none⟩) 1 1) (hone : y.oneCell' = true) (hB : B ≤ w.heap.size) (hb : n ≤ 1000000)
    (h : ∀ v' w', w'.ownsRow B e 1 v' (n + 1) (xs ++ [y]) → Kept v.ownBlock.toList w w' → Lies w v v' → wpList Try.prog ops Q rest (a.put o.dst v') w') :
    wpList Try.prog ops Q (o :: rest) a (w.alloc (.cells #[y] e)) := by
  refine wpList_append_own_at _ hgd s x t ho B e i0 z 1 by_ hu hi hz0 hz1 hz2 hzz (by decide) v n xs hs (hown.alloc _) ⟨w.heap.size, 0, none⟩ 1 1 [y] hx rfl (cell_one_new _ _ _) (fun u hu => by simp at hu; subst hu; exact hone) (by unfold maxLen; omega) (by have : (n + 1) * by_ ≤ 1000001 * 24 := Nat.mul_le_mul (by omega) hby; omega) (by rw [World.size_alloc]; omega) ?_
  intro v' w' h2 h3 _ h5
  refine h v' w' h2 (((Kept.refl _ w).alloc _).step (Kept.of_grown h3) (fun x hx => .inl hx)) ?_
  rcases h5 with h | h
  · exact .inl h
  · exact .inr ⟨_, h, by rw [World.size_alloc]; omega⟩

theorem fl_one (f : Nat → Value) (k : Nat) (y : Value) (hy : y = f k) : fl f k ++ [y] = fl f (k + 1) := by
  subst hy
  rw [show [f k] = fl (fun _ => f k) 1 from rfl, fl_app]
  apply fl_congr
  intro i hi
  by_cases h : i < k
  · rw [if_pos h]
  · rw [if_neg h, show i = k by omega]

theorem own_ne2 {w : World} {B B' e e' n n' : Nat} {V V' : Value} {xs xs' : List Value} (h : w.ownsRow B e 1 V n xs) (h' : w.ownsRow B' e' 1 V' n' xs') (hne : e ≠ e') : ∀ g, V'.ownBlock = some g → g ∉ V.ownBlock.toList := by
  intro g hg
  rw [mem_own]
  intro hv
  rcases h.2 with ⟨rfl, _⟩ | ⟨g1, cap, cur, rfl, _, hh, _⟩
  · simp [Value.ownBlock] at hv
  · rcases h'.2 with ⟨rfl, _⟩ | ⟨g2, cap2, cur2, rfl, _, hh2, _⟩
    · simp [Value.ownBlock] at hg
    · simp [Value.ownBlock] at hv hg
      subst hv
      subst hg
      rw [hh] at hh2
      simp at hh2
      exact hne hh2.2

/-- A list of rows whose cells may be written: ks are blocks in which no row lies. -/
structure St (w : World) (ks : List Nat) (ao : Option Addr) (n : Nat) (F : Nat → Value) (L : Nat → List Nat) : Prop where
  lst : n = 0 ∨ ∃ g cs, ao = some ⟨g, 0, none⟩ ∧ g ∈ ks ∧ w.heap[g]? = some (.cells cs 40 (0, 0)) ∧ ∀ i, i < n → cs[i]? = some (F i)
  row : ∀ i, i < n → ∃ bo c, F i = .slice bo (L i).length c ∧ (L i).length ≤ c ∧ Reads w bo (L i) ∧ Byts (L i) ∧ ∀ g off, bo = some ⟨g, off, none⟩ → g ∉ ks ∧ g < w.heap.size
theorem St.keep {w w' : World} {ks : List Nat} {ao : Option Addr} {n : Nat} {F : Nat → Value} {L : Nat → List Nat} (h : St w ks ao n F L) (hk : Kept [] w w') : St w' ks ao n F L := by
  refine ⟨?_, fun i hi => ?_⟩
  · rcases h.lst with h | ⟨g, cs, h1, h2, h3, h4⟩
    · exact .inl h
    · exact .inr ⟨g, cs, h1, h2, hk.heap h3 (by simp), h4⟩
  · obtain ⟨bo, c, h1, h2, h3, h4, h5⟩ := h.row i hi
    exact ⟨bo, c, h1, h2, h3.keep hk, h4, fun g off e => ⟨(h5 g off e).1, Nat.lt_of_lt_of_le (h5 g off e).2 hk.size⟩⟩
/-- What is written lies in blocks without rows, and is not the list. -/
theorem St.kept {w w' : World} {ks l : List Nat} {ao : Option Addr} {n : Nat} {F : Nat → Value} {L : Nat → List Nat} (h : St w ks ao n F L) (hk : Kept l w w') (hl : ∀ x ∈ l, x ∈ ks) (hg : 0 < n → ∀ g, ao = some ⟨g, 0, none⟩ → g ∉ l) : St w' ks ao n F L := by
  refine ⟨?_, fun i hi => ?_⟩
  · rcases h.lst with h | ⟨g, cs, h1, h2, h3, h4⟩
    · exact .inl h
    · by_cases h0 : n = 0
      · exact .inl h0
      · exact .inr ⟨g, cs, h1, h2, hk.heap h3 (hg (by omega) g h1), h4⟩
  · obtain ⟨bo, c, h1, h2, h3, h4, h5⟩ := h.row i hi
    exact ⟨bo, c, h1, h2, h3.kept hk (fun g off e hm => (h5 g off e).1 (hl g hm)), h4, fun g off e => ⟨(h5 g off e).1, Nat.lt_of_lt_of_le (h5 g off e).2 hk.size⟩⟩
/-- Other blocks: fewer, or new ones. -/
theorem St.change {w : World} {ks ks' : List Nat} {ao : Option Addr} {n : Nat} {F : Nat → Value} {L : Nat → List Nat} (h : St w ks ao n F L) (hs : ∀ x ∈ ks', x ∈ ks ∨ w.heap.size ≤ x) (hg : 0 < n → ∀ g, ao = some ⟨g, 0, none⟩ → g ∈ ks → g ∈ ks') : St w ks' ao n F L := by
  refine ⟨?_, fun i hi => ?_⟩
  · rcases h.lst with h | ⟨g, cs, h1, h2, h3, h4⟩
    · exact .inl h
    · by_cases h0 : n = 0
      · exact .inl h0
      · exact .inr ⟨g, cs, h1, hg (by omega) g h1 h2, h3, h4⟩
  · obtain ⟨bo, c, h1, h2, h3, h4, h5⟩ := h.row i hi
    refine ⟨bo, c, h1, h2, h3, h4, fun g off e => ⟨fun hm => ?_, (h5 g off e).2⟩⟩
    rcases hs g hm with h | h
    · exact (h5 g off e).1 h
    · have := (h5 g off e).2; omega
theorem St.at {w : World} {ks : List Nat} {ao : Option Addr} {n : Nat} {F : Nat → Value} {L : Nat → List Nat} (h : St w ks ao n F L) {i : Nat} (hi : i < n) : ∃ g, ao = some ⟨g, 0, none⟩ ∧ g ∈ ks ∧ w.cell? ⟨g, i, none⟩ = some (F i) ∧ w.frozen? ⟨g, i, none⟩ = false ∧ ∃ cs, w.heap[g]? = some (.cells cs 40 (0, 0)) := by
  rcases h.lst with h | ⟨g, cs, h1, h2, h3, h4⟩
  · omega
  · exact ⟨g, h1, h2, by rw [cell_of_row _ _ _ _ _ _ h3]; exact h4 i hi, by simp [World.frozen?, h3], cs, h3⟩
/-- Its own cell is written: with a row that lies apart. -/
theorem St.put {w : World} {ks : List Nat} {n g k c : Nat} {bo : Option Addr} {F : Nat → Value} {L : Nat → List Nat} {l : List Nat} (h : St w ks (some ⟨g, 0, none⟩) n F L) (hkn : k < n) (hg : g ∈ ks) (hc : l.length ≤ c) (hr : Reads w bo l) (hb : Byts l) (ha : ∀ g off, bo = some ⟨g, off, none⟩ → g ∉ ks ∧ g < w.heap.size) :
    St (w.setCell ⟨g, k, none⟩ (.slice bo l.length c)) ks (some ⟨g, 0, none⟩) n (fun i => if i = k then .slice bo l.length c else F i) (fun i => if i = k then l else L i) := by
  have hk : Kept [g] w (w.setCell ⟨g, k, none⟩ (.slice bo l.length c)) := (Kept.refl [g] w).setCell (p := ⟨g, k, none⟩) (.inl (by simp)) _
  refine ⟨?_, fun i hi => ?_⟩
  · rcases h.lst with h | ⟨g2, cs, h1, h2, h3, h4⟩
    · omega
    · cases h1
      refine .inr ⟨g, _, rfl, hg, heap_setCell_at h3, fun i hi => ?_⟩
      rw [Array.getElem?_setIfInBounds]
      have hsz : i < cs.size := by
        have := h4 i hi
        exact (Array.getElem?_eq_some_iff.1 this).1
      by_cases e : k = i
      · subst e; simp [hsz]
      · rw [if_neg e, if_neg (Ne.symm e)]; exact h4 i hi
  · by_cases e : i = k
    · refine ⟨bo, c, by rw [if_pos e, if_pos e], by rw [if_pos e]; exact hc, ?_, by rw [if_pos e]; exact hb, fun g off e => ⟨(ha g off e).1, Nat.lt_of_lt_of_le (ha g off e).2 hk.size⟩⟩
      rw [if_pos e]
      exact hr.kept hk (fun g2 off e => by have := (ha g2 off e).1; simp; intro e2; subst e2; exact this hg)
    · obtain ⟨b2, c2, h1, h2, h3, h4, h5⟩ := h.row i hi
      refine ⟨b2, c2, by rw [if_neg e, if_neg e, h1], by rw [if_neg e]; exact h2, ?_, by rw [if_neg e]; exact h4, fun g off e => ⟨(h5 g off e).1, Nat.lt_of_lt_of_le (h5 g off e).2 hk.size⟩⟩
      rw [if_neg e]
      exact h3.kept hk (fun g2 off e => by have := (h5 g2 off e).1; simp; intro e2; subst e2; exact this hg)
/-- Lists by a function. -/
def ll (L : Nat → List Nat) (n : Nat) : List (List Nat) := (List.range n).map L
theorem ll_length (L : Nat → List Nat) (n : Nat) : (ll L n).length = n := by simp [ll]
theorem ll_getD (L : Nat → List Nat) (n i : Nat) (h : i < n) : (ll L n).getD i [] = L i := by simp [ll, h]
theorem ll_bm {L : Nat → List Nat} {n : Nat} (h : ∀ i, i < n → Byts (L i)) : Bm (ll L n) := by
  intro r hr
  simp only [ll, List.mem_map, List.mem_range] at hr
  obtain ⟨i, hi, rfl⟩ := hr
  exact h i hi
theorem St.mc {w : World} {ks : List Nat} {ao : Option Addr} {n : Nat} {F : Nat → Value} {L : Nat → List Nat} (h : St w ks ao n F L) : MC w ao (ll L n) := by
  by_cases h0 : n = 0
  · subst h0; exact .inl rfl
  · obtain ⟨g, h1, _⟩ := h.at (i := 0) (by omega)
    refine .inr ⟨g, 0, h1, fun i hi => ?_⟩
    rw [ll_length] at hi
    obtain ⟨g2, e, _, hc, _, _⟩ := h.at hi
    rw [h1] at e
    cases e
    obtain ⟨bo, c, q1, q2, q3, _, _⟩ := h.row i hi
    rw [ll_getD _ _ _ hi, Nat.zero_add]
    exact ⟨bo, c, by rw [hc, q1], q2, q3⟩
theorem St.bm {w : World} {ks : List Nat} {ao : Option Addr} {n : Nat} {F : Nat → Value} {L : Nat → List Nat} (h : St w ks ao n F L) : Bm (ll L n) := ll_bm (fun i hi => (h.row i hi).elim fun _ h => h.elim fun _ h => h.2.2.2.1)
theorem St.own {w : World} {n B : Nat} {V : Value} {f : Nat → Value} {L : Nat → List Nat} (h : RwI B w V n f L) (hL : ∀ i, i < n → Byts (L i)) : ∃ ao c, V = .slice ao n c ∧ (ao = none → n = 0 ∧ c = 0) ∧ St w V.ownBlock.toList ao n f L := by
  rcases h.own.2 with ⟨h1, h2⟩ | ⟨g, cap, cur, h1, hb, hg, h4, h5, h6, h7⟩
  · exact ⟨none, 0, by rw [h1, h2], fun _ => ⟨h2, rfl⟩, .inl h2, fun i hi => by omega⟩
  · refine ⟨_, cap, h1, by simp, .inr ⟨g, cur, rfl, by rw [h1]; simp [Value.ownBlock], hg, fun i hi => ?_⟩, fun i hi => ?_⟩
    · have := congrArg (fun l : List Value => l[i]?) h7
      simp only [List.getElem?_take, Nat.mul_one, if_pos hi, fl_at _ _ _ hi] at this
      simpa using this
    · obtain ⟨g2, c, q1, q2, q3, q4, q5, q6⟩ := h.row i hi
      refine ⟨_, c, q1, q2, q3, hL i hi, fun g3 off e => ?_⟩
      cases e
      rw [mem_own]
      exact ⟨q6, q5⟩
theorem St.not_own {w : World} {ks : List Nat} {ao : Option Addr} {n B e m : Nat} {F : Nat → Value} {L : Nat → List Nat} {V : Value} {xs : List Value} (h : St w ks ao n F L) (ho : w.ownsRow B e 1 V m xs) (he : e ≠ 40) : 0 < n → ∀ g, ao = some ⟨g, 0, none⟩ → g ∉ V.ownBlock.toList := by
  intro hn g hg
  obtain ⟨g2, e2, _, _, _, cs, hh⟩ := h.at (i := 0) hn
  rw [hg] at e2
  cases e2
  rw [mem_own]
  intro hv
  rcases ho.2 with ⟨rfl, _⟩ | ⟨g3, cap, cur, rfl, _, h3, _⟩
  · simp [Value.ownBlock] at hv
  · simp [Value.ownBlock] at hv
    subst hv
    rw [hh] at h3
    simp at h3
    exact he h3.2.symm
end Go.Proofs.Ytmgfapooanpgfaa
