import Derived.Test.YtahoeodpjdbdkaaDoormA3
namespace Go.Proofs.YtahoeodpjdbdkaaDoor
open Go.RowKit

/-- What one context has learnt lies there. -/
structure At4 (w : World) (P o : Nat) (s : Sx) : Prop where
  blk : ∃ cs, w.heap[P]? = some (.cells cs 75 (0, 0)) ∧ o + 3 < cs.size
  ca : w.cell? ⟨P, o, none⟩ = some (.int .i64 s.A)
  cb : w.cell? ⟨P, o + 1, none⟩ = some (.int .i64 s.B)
  cs : w.cell? ⟨P, o + 2, none⟩ = some (.int .i64 s.S)
  cn : w.cell? ⟨P, o + 3, none⟩ = some (.int .i64 s.N)
theorem At4.fz {w : World} {P o : Nat} {s : Sx} (h : At4 w P o s) (i : Nat) : w.frozen? ⟨P, i, none⟩ = false := by
  obtain ⟨cs, hb, _⟩ := h.blk
  exact frozen_of_row _ _ _ _ _ hb
theorem At4.drewN {w : World} {P o : Nat} {s : Sx} (h : At4 w P o s) (n : Nat) : At4 (w.drewN n) P o s := by
  obtain ⟨⟨cs, h0, h5⟩, h1, h2, h3, h4⟩ := h
  have e : (w.drewN n).heap = w.heap := by
    induction n with
    | zero => rfl
    | succ n ih => exact ih
  exact ⟨⟨cs, by rw [e]; exact h0, h5⟩, by rw [cell_drewN]; exact h1, by rw [cell_drewN]; exact h2, by rw [cell_drewN]; exact h3, by rw [cell_drewN]; exact h4⟩

theorem cell_set_ne (w : World) (P i j : Nat) (v : Value) (h : i ≠ j) : (w.setCell ⟨P, i, none⟩ v).cell? ⟨P, j, none⟩ = w.cell? ⟨P, j, none⟩ :=
  World.cell?_setCell_other _ _ _ _ (fun e => h (congrArg Addr.off e))
theorem cell_set_eq (w : World) (P i : Nat) (cs : Array Value) (v : Value) (hb : w.heap[P]? = some (.cells cs 75 (0, 0))) (h : i < cs.size) : (w.setCell ⟨P, i, none⟩ v).cell? ⟨P, i, none⟩ = some v := by
  rw [cell_of_row _ _ _ _ _ _ (heap_setCell_at hb), Array.getElem?_setIfInBounds_self_of_lt h]

/-- The world w' is w but for these four cells. -/
structure Chg (w w' : World) (P o : Nat) (s : Sx) : Prop where
  kept : Kept [P] w w'
  now : At4 w' P o s
  size : ∀ cs, w.heap[P]? = some (.cells cs 75 (0, 0)) → ∃ cs', w'.heap[P]? = some (.cells cs' 75 (0, 0)) ∧ cs'.size = cs.size
  other : ∀ i, i < o ∨ o + 4 ≤ i → w'.cell? ⟨P, i, none⟩ = w.cell? ⟨P, i, none⟩
theorem Chg.refl {w : World} {P o : Nat} {s : Sx} (h : At4 w P o s) : Chg w w P o s := ⟨Kept.refl _ _, h, fun cs h => ⟨cs, h, rfl⟩, fun _ _ => rfl⟩
theorem Chg.drewN {w w' : World} {P o : Nat} {s : Sx} (h : Chg w w' P o s) (n : Nat) : Chg w (w'.drewN n) P o s := by
  have e : (w'.drewN n).heap = w'.heap := by
    induction n with
    | zero => rfl
    | succ n ih => exact ih
  exact ⟨h.kept.drewN n, h.now.drewN n, fun cs hc => by rw [e]; exact h.size cs hc, fun i hi => by rw [cell_drewN]; exact h.other i hi⟩
theorem Chg.set {w w' : World} {P o : Nat} {s : Sx} (h : Chg w w' P o s) (j : Nat) (hj : j < 4) (x : Int) :
    Chg w (w'.setCell ⟨P, o + j, none⟩ (.int .i64 x)) P o ⟨if j = 0 then x else s.A, if j = 1 then x else s.B, if j = 2 then x else s.S, if j = 3 then x else s.N⟩ := by
  obtain ⟨cs, hb, hl⟩ := h.now.blk
  refine ⟨h.kept.setCell (.inl (by simp)) _, ⟨⟨_, heap_setCell_at hb, by simpa using hl⟩, ?_, ?_, ?_, ?_⟩, ?_, ?_⟩
  · by_cases h0 : j = 0
    · subst h0; exact cell_set_eq _ _ _ cs _ hb (by omega)
    · rw [cell_set_ne _ _ _ _ _ (by omega)]; simp only [h0, if_false]; exact h.now.ca
  · by_cases h0 : j = 1
    · subst h0; exact cell_set_eq _ _ _ cs _ hb (by omega)
    · rw [cell_set_ne _ _ _ _ _ (by omega)]; simp only [h0, if_false]; exact h.now.cb
  · by_cases h0 : j = 2
    · subst h0; exact cell_set_eq _ _ _ cs _ hb (by omega)
    · rw [cell_set_ne _ _ _ _ _ (by omega)]; simp only [h0, if_false]; exact h.now.cs
  · by_cases h0 : j = 3
    · subst h0; exact cell_set_eq _ _ _ cs _ hb (by omega)
    · rw [cell_set_ne _ _ _ _ _ (by omega)]; simp only [h0, if_false]; exact h.now.cn
  · intro ds hd
    obtain ⟨cs', hc, hs⟩ := h.size ds hd
    exact ⟨_, heap_setCell_at hc, by simpa using hs⟩
  · intro i hi
    rw [cell_set_ne _ _ _ _ _ (by omega)]; exact h.other i hi
theorem Chg.trans {w w1 w2 : World} {P o : Nat} {s s2 : Sx} (h : Chg w w1 P o s) (k : Chg w1 w2 P o s2) : Chg w w2 P o s2 :=
  ⟨h.kept.trans k.kept, k.now, fun cs hc => by obtain ⟨ds, h1, h2⟩ := h.size cs hc; obtain ⟨es, h3, h4⟩ := k.size ds h1; exact ⟨es, h3, by omega⟩, fun i hi => (k.other i hi).trans (h.other i hi)⟩

set_option maxHeartbeats 2000000 in
theorem age_any (P o : Nat) (s : Sx) (w : World) (H : At4 w P o s) (a0 : 0 ≤ s.A) (a1 : s.A ≤ 1000000) (b0 : -1000000 ≤ s.B) (b1 : s.B ≤ 1000000) (n0 : 0 ≤ s.N) (n1 : s.N ≤ 64) :
    Calls Tryd.prog 77 #[.pointer (some ⟨P, o, none⟩)] w fun e w' => e = .returned (.tuple #[]) ∧ Chg w w' P o s.age := by
  have R := Chg.refl H
  have f0 := H.fz o
  have f1 := H.fz (o + 1)
  have f3 := H.fz (o + 3)
  obtain ⟨A, B, S, N⟩ := s
  dsimp only at *
  obtain ⟨h0, h1, h2, h3, h4⟩ := H
  dsimp only at *
  by_cases h : N = 64
  · subst h
    go_enter Tryd.func77, Tryd.ntmps77
    go_wp2
    go_end0
    exact ⟨rfl, (((R.set 0 (by omega) (A / 2)).set 1 (by omega) (B / 2)).set 3 (by omega) 32).set 3 (by omega) 33⟩
  · have e : (Sx.mk A B S N).age = ⟨A, B, S, N + 1⟩ := by simp [Sx.age, h]
    rw [e]
    clear e
    go_enter Tryd.func77, Tryd.ntmps77
    go_wp2
    go_end0
    exact ⟨rfl, R.set 3 (by omega) (N + 1)⟩

end Go.Proofs.YtahoeodpjdbdkaaDoor
