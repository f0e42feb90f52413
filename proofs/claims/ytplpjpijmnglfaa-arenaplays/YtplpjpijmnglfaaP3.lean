import Derived.Test.YtplpjpijmnglfaaP2
namespace Go.Proofs.Ytplpjpijmnglfaa
open Go.RowKit

/-- append of one value onto a row of one's own. -/
theorem wpList_app1 (w : World) {ops : Array Oper} {rest : List Oper} {o : Oper} {a : Act} {Q : Exit → Act → World → Prop} (hgd : o.guard = none) (s x : Operand) (t B e : Nat) (i0 : TypeInfo) (z : Value) (by_ : Nat)
    (hu : Try.prog.underlying t = some (.slice e)) (hi : Try.prog.info? e = some i0) (hz0 : i0.zero = some z) (hz1 : i0.size = 1) (hz2 : i0.bytes = by_) (hzz : z.cells.size = 1)
    (ho : o.op = .call { callee := .builtin .append, args := #[s, x], argTypes := #[t, t] })
    (v : Value) (n : Nat) (xs : List Value) (hs : a.eval s = v) (hown : w.ownsRow B e 1 v n xs) (y : Value) (hx : a.eval x = .slice (some ⟨w.heap.size, 0, none⟩) 1 1) (hone : y.oneCell' = true) (hB : B ≤ w.heap.size) (hn : n ≤ 100000000000000) (hb : (n + 1) * by_ ≤ 140737488355328)
    (h : ∀ v' w', w'.ownsRow B e 1 v' (n + 1) (xs ++ [y]) → Kept v.ownBlock.toList w w' → Lies w v v' → wpList Try.prog ops Q rest (a.put o.dst v') w') :
    wpList Try.prog ops Q (o :: rest) a (w.alloc (.cells #[y] e)) := by
  refine wpList_append_own_at _ hgd s x t ho B e i0 z 1 by_ hu hi hz0 hz1 hz2 hzz (by decide) v n xs hs (hown.alloc _) ⟨w.heap.size, 0, none⟩ 1 1 [y] hx rfl (cell_one_new _ _ _) (fun u hu => by simp at hu; subst hu; exact hone) (by unfold maxLen; omega) hb (by rw [World.size_alloc]; omega) ?_
  intro v' w' h2 h3 _ h5
  refine h v' w' h2 (((Kept.refl _ w).alloc _).step (Kept.of_grown h3) (fun x hx => .inl hx)) ?_
  rcases h5 with h | h
  · exact .inl h
  · exact .inr ⟨_, h, by rw [World.size_alloc]; omega⟩

theorem At.boxKept {W w w' : World} {A : Nat} {s : Wo} (h : At W w A s) (k : Nat) (hk5 : k < 5) (hk : Kept (s.S k).ownBlock.toList w w') : w'.heap[A]? = some (.cells #[s.S 0, s.S 1, s.S 2, s.S 3, s.S 4] 31 (0, 0)) :=
  hk.heap h.box (h.apart (6, 0) (5, k) s.D_box (s.D_row k hk5) (by simp) A (by simp [Wo.R, obj]))
theorem box_cell {w : World} {A : Nat} {S : Nat → Value} (hb : w.heap[A]? = some (.cells #[S 0, S 1, S 2, S 3, S 4] 31 (0, 0))) (k : Nat) (hk : k < 5) : w.cell? ⟨A, k, none⟩ = some (S k) := by
  rcases (by omega : k = 0 ∨ k = 1 ∨ k = 2 ∨ k = 3 ∨ k = 4) with rfl | rfl | rfl | rfl | rfl <;> simp [World.cell?, hb]
theorem box_frozen {w : World} {A : Nat} {S : Nat → Value} (hb : w.heap[A]? = some (.cells #[S 0, S 1, S 2, S 3, S 4] 31 (0, 0))) (k : Nat) : w.frozen? ⟨A, k, none⟩ = false := by simp [World.frozen?, hb]

theorem Try.info37 : (Try.prog.info? 37).map (fun i => (i.zero, i.size, i.bytes)) = some (some (.pointer none), 1, 8) := by kernel_rfl
theorem Try.info55 : (Try.prog.info? 55).map (fun i => (i.zero, i.size, i.bytes)) = some (some (.pointer none), 1, 8) := by kernel_rfl
theorem Try.info53 : (Try.prog.info? 53).map (fun i => (i.zero, i.size, i.bytes)) = some (some (.slice none 0 0), 1, 24) := by kernel_rfl
theorem Try.info45 : (Try.prog.info? 45).map (fun i => (i.zero, i.size, i.bytes)) = some (some (.slice none 0 0), 1, 24) := by kernel_rfl
theorem Try.info41 : (Try.prog.info? 41).map (fun i => (i.zero, i.size, i.bytes)) = some (some (.slice none 0 0), 1, 24) := by kernel_rfl
theorem Try.info3 : (Try.prog.info? 3).map (fun i => (i.zero, i.size, i.bytes)) = some (some (.int .i64 0), 1, 8) := by kernel_rfl

theorem gm_gv {m g t n s : Int} (G : Gm m g t) (hs : s = 1 ∨ s = 2) : Gm m (gvG m g n s) (gvT m g t n s) := by
  unfold gvG gvT
  by_cases h : gvE m g n s = 0
  · rw [if_pos h, if_pos h]
    unfold gvE at h
    split at h
    · omega
    · split at h
      · omega
      · obtain ⟨a, b, c, d⟩ := G
        unfold mx
        rcases hs with rfl | rfl
        · split <;> exact ⟨by omega, by omega, by omega, by omega⟩
        · split <;> exact ⟨by omega, by omega, by omega, by omega⟩
  · rw [if_neg h, if_neg h]; exact G

/-- What giving leaves, in one form. -/
theorem GPost.uni {k : IntKind} {e : TypeId} {P : Nat} {m g t n s : Int} {w w' : World} {r : Ending} (h : GPost k e P m g t n s w r w') (G : Gm m g t) (hs : s = 1 ∨ s = 2) :
    ∃ (ao : Option Addr) (c : Nat), r = .returned (.tuple #[.slice ao c c, .int .i64 (gvE m g n s)]) ∧ (gvE m g n s = 0 → n = (c : Int)) ∧ (gvE m g n s ≠ 0 → c = 0) ∧ c ≤ 1073741824 ∧
      Ar 62 w' P m (gvG m g n s) (gvT m g t n s) ∧ (zlf k e ao c (fun _ => 0)).P w' ∧ (∀ x ∈ ablk ao, w.heap.size ≤ x) ∧ Kept [P] w w' := by
  rcases h with ⟨hE, hr, hA, hK⟩ | ⟨hE, G1, c, hn, hr, hA, hZ, hG, hK⟩
  · exact ⟨none, 0, hr, fun h => absurd h hE, fun _ => rfl, by omega, by rw [show gvG m g n s = g from if_neg hE, show gvT m g t n s = t from if_neg hE]; exact hA, .inl ⟨rfl, rfl⟩, by simp [ablk], hK.mono (by simp)⟩
  · refine ⟨some ⟨G1, 0, none⟩, c, by rw [hE]; exact hr, fun _ => hn, fun h => absurd hE h, ?_, by rw [show gvG m g n s = g + n * s from if_pos hE, show gvT m g t n s = mx t (g + n * s) from if_pos hE]; exact hA, .inr ⟨G1, rfl, by rw [ints_const]; exact hZ⟩, by simp [ablk]; exact hG, hK⟩
    unfold gvE at hE
    obtain ⟨a, b, c, d⟩ := G
    split at hE
    · omega
    · split at hE
      · omega
      · rcases hs with rfl | rfl <;> omega

/-- Three numbers in a new block. -/
theorem three_new (w : World) (a b c : Value) (t : Nat) : ∃ w1, w.alloc (.cells #[a, b, c] t (0, 0)) = w1 ∧ Kept [] w w1 ∧ w1.heap[w.heap.size]? = some (.cells #[a, b, c] t (0, 0)) :=
  ⟨_, rfl, alloc_kept _ _, heap_alloc_new _ _⟩
theorem nat_of {k : Int} {n : Nat} (h0 : 0 ≤ k) (h1 : k < (n : Int)) : ∃ j : Nat, k = (j : Int) ∧ j < n := ⟨k.toNat, by omega, by omega⟩

/-- All but arena k's numbers stay. -/
theorem Wk.give {s : Wo} {b k : Nat} (hw : Wk s b) (P Q : Nat) (m g t : Int) (hG : Gm m g t) (l : List Int) (h0 : s.V 0 k = .pointer (some ⟨P, 0, none⟩)) (h1 : s.V 1 k = .pointer (some ⟨Q, 0, none⟩)) (h2 : s.X 2 k = nrw (s.V 2 k) l) (hl : 0 < l.length) (hlb : l.length ≤ b) (hli : ∀ x ∈ l, -9223372036854775808 ≤ x ∧ x ≤ 9223372036854775807) :
    Wk ((s.one 0 k (arr 62 P m g t)).one 1 k (arr 60 Q m g t)) b := by
  refine ⟨hw.r, hw.c1, hw.c2, hw.le0, hw.le3, hw.le4, fun i hi => ?_, fun i hi => (hw.bl i hi).congr rfl (by simp [Wo.one, upd2]), fun i hi => (hw.sl i hi).congr rfl (by simp [Wo.one, upd2])⟩
  by_cases e : i = k
  · subst e
    exact ⟨P, Q, m, g, t, l, hG, h0, by simp [Wo.one, upd2], h1, by simp [Wo.one, upd2], by simpa [Wo.one, upd2] using h2, hl, hlb, hli⟩
  · exact (hw.ar i hi).congr (Nat.le_refl _) rfl rfl rfl (by simp [Wo.one, upd2, e]) (by simp [Wo.one, upd2, e]) (by simp [Wo.one, upd2, e])
/-- A list more. -/
theorem Wk.add3 {s : Wo} {b : Nat} (hw : Wk s b) (ao : Option Addr) (n : Nat) (hn : n ≤ 1073741824) (Sn : Value) : Wk ((s.push 3 (zlf .u8 5 ao n (fun _ => 0))).app 3 (.slice ao n n) Sn) (b + 1) := by
  have a1 := hw.le0
  have a2 := hw.le3
  have a3 := hw.le4
  have r3 := hw.r 3
  refine ⟨fun k => ?_, by simpa [Wo.push, Wo.app] using hw.c1, by simpa [Wo.push, Wo.app] using hw.c2, by simp [Wo.push, Wo.app]; omega, by simp [Wo.push, Wo.app]; omega, by simp [Wo.push, Wo.app]; omega, fun i hi => ?_, fun i hi => ?_, fun i hi => ?_⟩
  · have := hw.r k
    simp only [Wo.push, Wo.app]
    split <;> omega
  · exact (hw.ar i (by simpa [Wo.push, Wo.app] using hi)).congr (Nat.le_succ _) (by simp [Wo.push, Wo.app, upd2]) (by simp [Wo.push, Wo.app, upd2]) (by simp [Wo.push, Wo.app, upd2]) (by simp [Wo.push, Wo.app, upd2]) (by simp [Wo.push, Wo.app, upd2]) (by simp [Wo.push, Wo.app, upd2])
  · have hi' : i < s.c 3 + 1 := by simpa [Wo.push, Wo.app] using hi
    by_cases e : i = s.c 3
    · subst e
      exact ⟨ao, n, by simp [Wo.push, Wo.app, upd2, r3], by simp [Wo.push, Wo.app, upd2], hn⟩
    · exact (hw.bl i (by omega)).congr (by simp [Wo.push, Wo.app, upd2, r3, e]) (by simp [Wo.push, Wo.app, upd2, e])
  · exact (hw.sl i (by simpa [Wo.push, Wo.app] using hi)).congr (by simp [Wo.push, Wo.app, upd2]) (by simp [Wo.push, Wo.app, upd2])
theorem Wk.add4 {s : Wo} {b : Nat} (hw : Wk s b) (ao : Option Addr) (n : Nat) (hn : n ≤ 1073741824) (Sn : Value) : Wk ((s.push 4 (zlf .u16 50 ao n (fun _ => 0))).app 4 (.slice ao n n) Sn) (b + 1) := by
  have a1 := hw.le0
  have a2 := hw.le3
  have a3 := hw.le4
  have r3 := hw.r 4
  refine ⟨fun k => ?_, by simpa [Wo.push, Wo.app] using hw.c1, by simpa [Wo.push, Wo.app] using hw.c2, by simp [Wo.push, Wo.app]; omega, by simp [Wo.push, Wo.app]; omega, by simp [Wo.push, Wo.app]; omega, fun i hi => ?_, fun i hi => ?_, fun i hi => ?_⟩
  · have := hw.r k
    simp only [Wo.push, Wo.app]
    split <;> omega
  · exact (hw.ar i (by simpa [Wo.push, Wo.app] using hi)).congr (Nat.le_succ _) (by simp [Wo.push, Wo.app, upd2]) (by simp [Wo.push, Wo.app, upd2]) (by simp [Wo.push, Wo.app, upd2]) (by simp [Wo.push, Wo.app, upd2]) (by simp [Wo.push, Wo.app, upd2]) (by simp [Wo.push, Wo.app, upd2])
  · exact (hw.bl i (by simpa [Wo.push, Wo.app] using hi)).congr (by simp [Wo.push, Wo.app, upd2]) (by simp [Wo.push, Wo.app, upd2])
  · have hi' : i < s.c 4 + 1 := by simpa [Wo.push, Wo.app] using hi
    by_cases e : i = s.c 4
    · subst e
      exact ⟨ao, n, by simp [Wo.push, Wo.app, upd2, r3], by simp [Wo.push, Wo.app, upd2], hn⟩
    · exact (hw.sl i (by omega)).congr (by simp [Wo.push, Wo.app, upd2, r3, e]) (by simp [Wo.push, Wo.app, upd2, e])
/-- An arena more. -/
theorem Wk.new {s : Wo} {b : Nat} (hw : Wk s b) (P Q : Nat) (m : Int) (hG : Gm m 0 0) (M : Value) (S0 S1 S2 : Value) :
    Wk ((((((s.push 0 (arr 62 P m 0 0)).push 1 (arr 60 Q m 0 0)).app 0 (.pointer (some ⟨P, 0, none⟩)) S0).app 1 (.pointer (some ⟨Q, 0, none⟩)) S1).push 2 (nrw M [0])).app 2 M S2) (b + 1) := by
  have a1 := hw.le0
  have a2 := hw.le3
  have a3 := hw.le4
  have r0 := hw.r 0
  have r1 := hw.r 1
  have r2 := hw.r 2
  have c1 := hw.c1
  have c2 := hw.c2
  refine ⟨fun k => ?_, by simp [Wo.push, Wo.app]; omega, by simp [Wo.push, Wo.app]; omega, by simp [Wo.push, Wo.app]; omega, by simp [Wo.push, Wo.app]; omega, by simp [Wo.push, Wo.app]; omega, fun i hi => ?_, fun i hi => ?_, fun i hi => ?_⟩
  · have := hw.r k
    by_cases e0 : k = 0
    · subst e0; simp [Wo.push, Wo.app]; omega
    · by_cases e1 : k = 1
      · subst e1; simp [Wo.push, Wo.app]; omega
      · by_cases e2 : k = 2
        · subst e2; simp [Wo.push, Wo.app]; omega
        · simp [Wo.push, Wo.app, e0, e1, e2]; omega
  · have hi' : i < s.c 0 + 1 := by simpa [Wo.push, Wo.app] using hi
    by_cases e : i = s.c 0
    · subst e
      refine ⟨P, Q, m, 0, 0, [0], hG, ?_, ?_, ?_, ?_, ?_, by simp, by simp, by simp⟩
      · simp [Wo.push, Wo.app, upd2, r0]
      · simp [Wo.push, Wo.app, upd2]
      · simp [Wo.push, Wo.app, upd2, r1, c1]
      · simp [Wo.push, Wo.app, upd2, c1]
      · simp [Wo.push, Wo.app, upd2, r2, c2]
    · have e1 : i ≠ s.c 1 := by omega
      have e2 : i ≠ s.c 2 := by omega
      exact (hw.ar i (by omega)).congr (Nat.le_succ _) (by simp [Wo.push, Wo.app, upd2, r0, e]) (by simp [Wo.push, Wo.app, upd2, r1, e1]) (by simp [Wo.push, Wo.app, upd2, r2, e2]) (by simp [Wo.push, Wo.app, upd2, e]) (by simp [Wo.push, Wo.app, upd2, e1]) (by simp [Wo.push, Wo.app, upd2, e2])
  · exact (hw.bl i (by simpa [Wo.push, Wo.app] using hi)).congr (by simp [Wo.push, Wo.app, upd2]) (by simp [Wo.push, Wo.app, upd2])
  · exact (hw.sl i (by simpa [Wo.push, Wo.app] using hi)).congr (by simp [Wo.push, Wo.app, upd2]) (by simp [Wo.push, Wo.app, upd2])
/-- A mark more. -/
theorem Wk.mark {s : Wo} {b k : Nat} (hw : Wk s b) (P Q : Nat) (m g t : Int) (hG : Gm m g t) (l : List Int) (h0 : s.V 0 k = .pointer (some ⟨P, 0, none⟩)) (x0 : s.X 0 k = arr 62 P m g t) (h1 : s.V 1 k = .pointer (some ⟨Q, 0, none⟩)) (x1 : s.X 1 k = arr 60 Q m g t) (M : Value) (hlb : l.length ≤ b) (hli : ∀ x ∈ l, -9223372036854775808 ≤ x ∧ x ≤ 9223372036854775807) :
    Wk ((s.one 2 k (nrw M (l ++ [g]))).setv 2 k M) (b + 1) := by
  have a1 := hw.le0
  have a2 := hw.le3
  have a3 := hw.le4
  refine ⟨hw.r, hw.c1, hw.c2, Nat.le_trans hw.le0 (Nat.le_succ _), Nat.le_trans hw.le3 (Nat.le_succ _), Nat.le_trans hw.le4 (Nat.le_succ _), fun i hi => ?_, fun i hi => (hw.bl i hi).congr (by simp [Wo.one, Wo.setv, upd2]) (by simp [Wo.one, Wo.setv, upd2]), fun i hi => (hw.sl i hi).congr (by simp [Wo.one, Wo.setv, upd2]) (by simp [Wo.one, Wo.setv, upd2])⟩
  by_cases e : i = k
  · subst e
    refine ⟨P, Q, m, g, t, l ++ [g], hG, by simpa [Wo.one, Wo.setv, upd2] using h0, by simpa [Wo.one, Wo.setv, upd2] using x0, by simpa [Wo.one, Wo.setv, upd2] using h1, by simpa [Wo.one, Wo.setv, upd2] using x1, by simp [Wo.one, Wo.setv, upd2], by simp, by simp; omega, fun x hx => ?_⟩
    rcases List.mem_append.1 hx with h | h
    · exact hli x h
    · simp at h
      subst h
      obtain ⟨q1, q2, q3, q4⟩ := hG
      omega
  · exact (hw.ar i hi).congr (Nat.le_succ _) (by simp [Wo.one, Wo.setv, upd2, e]) (by simp [Wo.one, Wo.setv, upd2, e]) (by simp [Wo.one, Wo.setv, upd2, e]) (by simp [Wo.one, Wo.setv, upd2, e]) (by simp [Wo.one, Wo.setv, upd2, e]) (by simp [Wo.one, Wo.setv, upd2, e])
end Go.Proofs.Ytplpjpijmnglfaa
