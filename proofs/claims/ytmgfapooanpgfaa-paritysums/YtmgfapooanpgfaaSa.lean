import Derived.Test.YtmgfapooanpgfaaBc
namespace Go.Proofs.Ytmgfapooanpgfaa
open Go.RowKit

theorem mk_sum {L M S : List (List Nat)} {n : Nat} (hL : L.length = n) (hM : M.length = n) (hS : S.length = n) (h : ∀ j, j < n → ∀ x, fn S j x = fn L j x ^^^ fn M j x) (i x : Nat) : mk S i x = mk L i x ^^^ mk M i x := by
  unfold mk
  rw [hL, hM, hS, ← sm_xor]
  exact sm_congr _ (fun j hj => by rw [h j hj x, mu_xor])
theorem mk_col {L C : List (List Nat)} {n x : Nat} (hL : L.length = n) (hC : C.length = n) (h : ∀ j, j < n → fn C j 0 = fn L j x) (i : Nat) : mk C i 0 = mk L i x := by
  unfold mk
  rw [hL, hC]
  exact sm_congr _ (fun j hj => by rw [h j hj])

/-- Three lists of rows that grow beside one another. -/
structure Tri (w : World) (B : Nat) (V : Nat → Value) (kk : Nat → Nat) (f : Nat → Nat → Value) (L : Nat → Nat → List Nat) : Prop where
  own : ∀ a, a < 3 → w.ownsRow B 40 1 (V a) (kk a) (fl (f a) (kk a))
  dis : ∀ a b, a < 3 → b < 3 → a ≠ b → ∀ g, (V a).ownBlock = some g → (V b).ownBlock ≠ some g
  row : ∀ a, a < 3 → ∀ i, i < kk a → ∃ g c, f a i = .slice (some ⟨g, 0, none⟩) (L a i).length c ∧ (L a i).length ≤ c ∧ Reads w (some ⟨g, 0, none⟩) (L a i) ∧ Byts (L a i) ∧ g < w.heap.size ∧ ∀ b, b < 3 → (V b).ownBlock ≠ some g
theorem Tri.keep {w w' : World} {B : Nat} {V : Nat → Value} {kk : Nat → Nat} {f : Nat → Nat → Value} {L : Nat → Nat → List Nat} (h : Tri w B V kk f L) (hk : Kept [] w w') : Tri w' B V kk f L :=
  ⟨fun a ha => hk.row (h.own a ha) (by simp), h.dis, fun a ha i hi => by
    obtain ⟨g, c, h1, h2, h3, h4, h5, h6⟩ := h.row a ha i hi
    exact ⟨g, c, h1, h2, h3.keep hk, h4, Nat.lt_of_lt_of_le h5 hk.size, h6⟩⟩
/-- One row more in one of them. -/
theorem Tri.app {w w' : World} {B a gn c : Nat} {V V2 : Nat → Value} {kk kk2 : Nat → Nat} {f f2 : Nat → Nat → Value} {L : Nat → Nat → List Nat} {val : Value} (h : Tri w B V kk f L) (ha : a < 3) (hval : val = .slice (some ⟨gn, 0, none⟩) (L a (kk a)).length c) (hc : (L a (kk a)).length ≤ c) (hr : Reads w (some ⟨gn, 0, none⟩) (L a (kk a))) (hb : Byts (L a (kk a))) (hg : gn < w.heap.size) (hgn : ∀ b, b < 3 → (V b).ownBlock ≠ some gn)
    (ho : w'.ownsRow B 40 1 (V2 a) (kk a + 1) (fl (f a) (kk a) ++ [val])) (hk : Kept (V a).ownBlock.toList w w') (hl : Lies w (V a) (V2 a)) (e1 : ∀ b, b ≠ a → V2 b = V b) (e2 : ∀ b, b ≠ a → kk2 b = kk b) (e3 : kk2 a = kk a + 1) (e4 : ∀ b, b ≠ a → f2 b = f b) (e5 : ∀ i, f2 a i = if i = kk a then val else f a i) : Tri w' B V2 kk2 f2 L := by
  have hlt : ∀ b, b < 3 → ∀ g, (V b).ownBlock = some g → g < w.heap.size := fun b hb2 g hg2 => own_block_lt (h.own b hb2) g (by rw [mem_own]; exact hg2)
  have hnew : ∀ g, g < w.heap.size → (V a).ownBlock ≠ some g → (V2 a).ownBlock ≠ some g := fun g hg2 hn => by
    rcases hl with h1 | ⟨g3, h1, h2⟩
    · rw [h1]; exact hn
    · rw [h1]; intro e; cases e; omega
  refine ⟨fun b hb2 => ?_, fun b d hb2 hd hne g hg2 => ?_, fun b hb2 i hi => ?_⟩
  · by_cases e : b = a
    · subst e
      rw [e3]
      rw [show [val] = fl (fun _ => val) 1 from rfl, fl_app] at ho
      rw [fl_congr (g := fun i => if i < kk b then f b i else val)]
      · exact ho
      · intro i hi
        rw [e5]
        by_cases e : i = kk b
        · rw [if_pos e, if_neg (by omega)]
        · rw [if_neg e, if_pos (by omega)]
    · rw [e1 b e, e2 b e, e4 b e]
      exact hk.row (h.own b hb2) (fun g hg2 hm => by rw [mem_own] at hm; exact h.dis b a hb2 ha e g hg2 hm)
  · by_cases e : b = a
    · subst e
      rw [e1 d (Ne.symm hne)]
      intro hd2
      exact hnew g (hlt d hd g hd2) (h.dis d b hd hb2 (Ne.symm hne) g hd2) hg2
    · rw [e1 b e] at hg2
      by_cases e' : d = a
      · subst e'
        exact hnew g (hlt b hb2 g hg2) (h.dis b d hb2 hd e g hg2)
      · rw [e1 d e']; exact h.dis b d hb2 hd hne g hg2
  · have hblk : ∀ g, g < w.heap.size → (∀ b, b < 3 → (V b).ownBlock ≠ some g) → ∀ b, b < 3 → (V2 b).ownBlock ≠ some g := fun g hg2 hn d hd => by
      by_cases e : d = a
      · subst e; exact hnew g hg2 (hn d hd)
      · rw [e1 d e]; exact hn d hd
    have hrd : ∀ g l, (∀ b, b < 3 → (V b).ownBlock ≠ some g) → Reads w (some ⟨g, 0, none⟩) l → Reads w' (some ⟨g, 0, none⟩) l := fun g l hn hr2 => hr2.kept hk (fun g2 off e hm => by cases e; rw [mem_own] at hm; exact hn a ha hm)
    by_cases e : b = a
    · subst e
      rw [e3] at hi
      by_cases e' : i = kk b
      · subst e'
        exact ⟨gn, c, by rw [e5, if_pos rfl, hval], hc, hrd gn _ hgn hr, hb, Nat.lt_of_lt_of_le hg hk.size, hblk gn hg hgn⟩
      · obtain ⟨g, c2, h1, h2, h3, h4, h5, h6⟩ := h.row b hb2 i (by omega)
        exact ⟨g, c2, by rw [e5, if_neg e', h1], h2, hrd g _ h6 h3, h4, Nat.lt_of_lt_of_le h5 hk.size, hblk g h5 h6⟩
    · rw [e2 b e] at hi
      obtain ⟨g, c2, h1, h2, h3, h4, h5, h6⟩ := h.row b hb2 i hi
      exact ⟨g, c2, by rw [e4 b e, h1], h2, hrd g _ h6 h3, h4, Nat.lt_of_lt_of_le h5 hk.size, hblk g h5 h6⟩
theorem Tri.mc {w : World} {B : Nat} {V : Nat → Value} {kk : Nat → Nat} {f : Nat → Nat → Value} {L : Nat → Nat → List Nat} (h : Tri w B V kk f L) {a : Nat} (ha : a < 3) : ∃ ao c, V a = .slice ao (kk a) c ∧ (ao = none → kk a = 0 ∧ c = 0) ∧ MC w ao (ll (L a) (kk a)) ∧ Bm (ll (L a) (kk a)) := by
  obtain ⟨ao, c, hV⟩ := own_form (h.own a ha)
  have ho := h.own a ha
  rw [hV] at ho
  refine ⟨ao, c, hV, own_nil ho, ?_, ll_bm (fun i hi => (h.row a ha i hi).elim fun _ h => h.elim fun _ h => h.2.2.2.1)⟩
  rcases own_sv2 ho with h0 | ⟨g, off, e, hc⟩
  · left
    rw [h0]; rfl
  · refine .inr ⟨g, off, e, fun i hi => ?_⟩
    rw [ll_length] at hi
    obtain ⟨g2, c2, h1, h2, h3, _⟩ := h.row a ha i hi
    rw [ll_getD _ _ _ hi]
    exact ⟨_, c2, by rw [hc i hi, h1], h2, h3⟩
end Go.Proofs.Ytmgfapooanpgfaa
