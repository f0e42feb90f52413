import Derived.Test.YtodlkpcbkilglaaDoorbBS
namespace Go.Proofs.YtodlkpcbkilglaaDoor.Bt
open Go.RowKit

def upd {α : Type} (f : Nat → α) (n : Nat) (x : α) : Nat → α := fun i => if i = n then x else f i
theorem upd_at {α : Type} (f : Nat → α) (n : Nat) (x : α) : upd f n x n = x := by simp [upd]
theorem upd_far {α : Type} (f : Nat → α) (n i : Nat) (x : α) (h : i ≠ n) : upd f n x i = f i := by simp [upd, h]
theorem range_upd {α : Type} (f : Nat → α) (n : Nat) (x : α) : (List.range (n + 1)).map (upd f n x) = (List.range n).map f ++ [x] := by
  rw [List.range_succ, List.map_append]
  congr 1
  · apply List.map_congr_left
    intro i hi
    exact upd_far f n i x (by have := List.mem_range.1 hi; omega)
  · simp [upd]

/-- A book while lists are kept. -/
structure Bks (w : World) (Bk n : Nat) (vl vw : Value) (V U : Nat → Value) (ls : Nat → List Nat) : Prop where
  box : w.heap[Bk]? = some (.cells #[vl, vw] 35 (0, 0))
  l : w.ownsRow 0 37 1 vl n ((List.range n).map V)
  was : w.ownsRow 0 37 1 vw n ((List.range n).map U)
  sep : ∀ g, vl.ownBlock = some g → vw.ownBlock ≠ some g
  v : ∀ i, i < n → Lst w (V i) (ls i)
  u : ∀ i, i < n → w.ownsRow 0 5 1 (U i) (ls i).length ((ls i).map byt)
  apart : ∀ i j, i < n → j < n → i ≠ j → ∀ g, (V i).ownBlock = some g → (V j).ownBlock ≠ some g

theorem Lst.own {w : World} {v : Value} {l : List Nat} (h : Lst w v l) {g : Nat} (hg : v.ownBlock = some g) : ∃ cs, w.heap[g]? = some (.cells cs 5 (0, 0)) := by
  rcases h with ⟨rfl, rfl⟩ | ⟨g', rfl, hg'⟩
  · simp [Value.ownBlock] at hg
  · simp [Value.ownBlock] at hg; subst hg; exact ⟨_, hg'⟩

theorem Bks.keep {w w' : World} {Bk n : Nat} {vl vw : Value} {V U : Nat → Value} {ls : Nat → List Nat} (h : Bks w Bk n vl vw V U ls) (hk : Kept [] w w') : Bks w' Bk n vl vw V U ls :=
  ⟨hk.heap h.box (by simp), hk.row h.l (by simp), hk.row h.was (by simp), h.sep, fun i hi => (h.v i hi).keep hk, fun i hi => hk.row (h.u i hi) (by simp), h.apart⟩

/-- One list more. -/
theorem Bks.step {w w' : World} {Bk n : Nat} {vl vw vl' vw' v u : Value} {V U : Nat → Value} {ls : Nat → List Nat} {l0 : List Nat} (h : Bks w Bk n vl vw V U ls) (hv : Lst w v l0) (hap : ∀ i, i < n → ∀ g, (V i).ownBlock = some g → v.ownBlock ≠ some g)
    (h1 : w'.heap[Bk]? = some (.cells #[vl', vw'] 35 (0, 0))) (h2 : w'.ownsRow 0 37 1 vl' (n + 1) ((List.range n).map V ++ [v])) (h3 : w'.ownsRow 0 37 1 vw' (n + 1) ((List.range n).map U ++ [u]))
    (h4 : w'.ownsRow 0 5 1 u l0.length (l0.map byt)) (h5 : ∀ g, vl'.ownBlock = some g → vw'.ownBlock ≠ some g) (hk : Kept (Bk :: (vl.ownBlock.toList ++ vw.ownBlock.toList)) w w') :
    Bks w' Bk (n + 1) vl' vw' (upd V n v) (upd U n u) (upd ls n l0) := by
  have hfar : ∀ g cs, w.heap[g]? = some (.cells cs 5 (0, 0)) → g ∉ Bk :: (vl.ownBlock.toList ++ vw.ownBlock.toList) := by
    intro g cs hg hm
    simp only [List.mem_cons, List.mem_append, mem_own] at hm
    rcases hm with e | e | e
    · subst e; have hb := h.box; rw [hg] at hb; simp at hb
    · exact own_ne2 hg (by decide) h.l e
    · exact own_ne2 hg (by decide) h.was e
  have hrowfar : ∀ (x : Value) (m : Nat) (ys : List Value), w.ownsRow 0 5 1 x m ys → w'.ownsRow 0 5 1 x m ys := fun x m ys hx => hk.row hx (fun g hg => by
    rcases hx.2 with ⟨rfl, _⟩ | ⟨g', cap, cur, rfl, _, hgg, _⟩
    · simp [Value.ownBlock] at hg
    · simp [Value.ownBlock] at hg; subst hg; exact hfar _ _ hgg)
  have hlst : ∀ (x : Value) (l : List Nat), Lst w x l → Lst w' x l := fun x l hx => hx.kept hk (fun g hg => by
    obtain ⟨cs, hcs⟩ := hx.own hg
    exact hfar g cs hcs)
  refine ⟨h1, by rw [range_upd]; exact h2, by rw [range_upd]; exact h3, h5, fun i hi => ?_, fun i hi => ?_, fun i j hi hj hij g hg => ?_⟩
  · by_cases e : i = n
    · subst e; rw [upd_at, upd_at]; exact hlst _ _ hv
    · rw [upd_far _ _ _ _ e, upd_far _ _ _ _ e]; exact hlst _ _ (h.v i (by omega))
  · by_cases e : i = n
    · subst e; rw [upd_at, upd_at]; exact h4
    · rw [upd_far _ _ _ _ e, upd_far _ _ _ _ e]; exact hrowfar _ _ _ (h.u i (by omega))
  · by_cases ei : i = n
    · subst ei
      rw [upd_at] at hg
      rw [upd_far _ _ _ _ (by omega)]
      intro e
      exact hap j (by omega) g e hg
    · rw [upd_far _ _ _ _ ei] at hg
      by_cases ej : j = n
      · subst ej; rw [upd_at]; exact hap i (by omega) g hg
      · rw [upd_far _ _ _ _ ej]; exact h.apart i j (by omega) (by omega) hij g hg

theorem Bks.done {w : World} {Bk n : Nat} {vl vw : Value} {V U : Nat → Value} {ls : Nat → List Nat} (h : Bks w Bk n vl vw V U ls) (hn : 0 < n) : ∃ gl cl gw cw, BookAt w Bk gl cl gw cw n V U ls := by
  obtain ⟨gl, cl, rfl⟩ := row_some h.l hn
  obtain ⟨gw, cw, rfl⟩ := row_some h.was hn
  exact ⟨gl, cl, gw, cw, h.box, h.l, h.was, h.v, h.u, h.apart⟩

/-- Keep, over a book. -/
theorem keep_bks (Bk n : Nat) (vl vw v : Value) (V U : Nat → Value) (ls : Nat → List Nat) (l0 : List Nat) (w : World) (h : Bks w Bk n vl vw V U ls) (hv : Lst w v l0) (hap : ∀ i, i < n → ∀ g, (V i).ownBlock = some g → v.ownBlock ≠ some g)
    (hn : n ≤ 1000000000) (hl : l0.length ≤ 140737488355328) :
    Calls Tryd.prog 20 #[.pointer (some ⟨Bk, 0, none⟩), v] w fun e w' => e = .returned (.tuple #[]) ∧ ∃ vl' vw' u, Bks w' Bk (n + 1) vl' vw' (upd V n v) (upd U n u) (upd ls n l0) ∧
      Lies w vl vl' ∧ Lies w vw vw' ∧ Kept (Bk :: (vl.ownBlock.toList ++ vw.ownBlock.toList)) w w' := by
  refine (keep_any Bk vl vw v n _ _ l0 w h.box h.l h.was h.sep hv hn hl).mono ?_
  rintro e w' ⟨rfl, vl', vw', u, h1, h2, h3, h4, _, h6, h7, h8, h9⟩
  exact ⟨rfl, vl', vw', u, h.step hv hap h1 h2 h3 h4 h8 h9, h6, h7, h9⟩

theorem Bks.empty {w : World} {Bk : Nat} (h : w.heap[Bk]? = some (.cells #[.slice none 0 0, .slice none 0 0] 35 (0, 0))) (V U : Nat → Value) (ls : Nat → List Nat) : Bks w Bk 0 (.slice none 0 0) (.slice none 0 0) V U ls :=
  ⟨h, by simpa using World.ownsRow_nil _ _ _ _, by simpa using World.ownsRow_nil _ _ _ _, by simp [Value.ownBlock], fun i hi => by omega, fun i hi => by omega, fun i j hi => by omega⟩
end Go.Proofs.YtodlkpcbkilglaaDoor.Bt
