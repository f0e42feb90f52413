import Derived.Test.YthkpligodbkofaaGreatDoorqQZ
import Derived.Test.YthkpligodbkofaaGreatDoorpGZ
import Derived.Test.YthkpligodbkofaaGreatDoorNZ
import Derived.Maps.AppendAt
namespace Go.Proofs.YthkpligodbkofaaGreatDoor.Pc
open Go.RowKit

set_option maxHeartbeats 400000 in
theorem pplace_any (c n : Int) (w : World) (c0 : -9223372036854775808 ≤ c) (c1 : c ≤ 9223372036854775807) (h : 0 < n) :
    Calls Tryz.prog 16 #[.int .i64 c, .int .i64 n] w fun e w' => e = .returned (.int .i64 (pick c n)) ∧ w' = w := by
  by_cases hc : c < 0
  · go_enter Tryz.func16, Tryz.ntmps16
    go_wp2
    go_ret
    exact ⟨ret_int (by unfold pick; rw [if_pos hc, ← Int.neg_tmod, Int.tmod_eq_emod_of_nonneg (by omega)]), rfl⟩
  · go_enter Tryz.func16, Tryz.ntmps16
    go_wp2
    go_ret
    exact ⟨ret_int (by unfold pick; rw [if_neg (by omega)]), rfl⟩

set_option maxHeartbeats 4000000 in
set_option maxRecDepth 1000000 in
theorem sameCoded_yes (bo bo' : Option Addr) (m c c' : Nat) (l : List Nat) (st a0 a1 a2 a3 : Int) (w : World) (h : Reads w bo l) (h' : Reads w bo' l) (hm : l.length = m) :
    Calls Tryz.prog 18 #[.agg #[.slice bo m c, .int .i64 st, .int .i64 a0, .int .i64 a1, .int .i64 a2, .int .i64 a3], .agg #[.slice bo' m c', .int .i64 st, .int .i64 a0, .int .i64 a1, .int .i64 a2, .int .i64 a3]] w fun e w' => e = .returned (.bool true) ∧ Kept [] w w' := by
  obtain ⟨w1, e1⟩ : ∃ w1, w.alloc (.cells #[.slice bo m c, .int .i64 st, .int .i64 a0, .int .i64 a1, .int .i64 a2, .int .i64 a3] 45 (0, 0)) = w1 := ⟨_, rfl⟩
  obtain ⟨w2, e2⟩ : ∃ w2, w1.alloc (.cells #[.slice bo' m c', .int .i64 st, .int .i64 a0, .int .i64 a1, .int .i64 a2, .int .i64 a3] 45 (0, 0)) = w2 := ⟨_, rfl⟩
  obtain ⟨B, eB⟩ : ∃ B, w.heap.size = B := ⟨_, rfl⟩
  have z1 : w1.heap.size = B + 1 := by rw [← e1, ← eB]; exact Array.size_push _
  have k1 : Kept [] w w1 := by rw [← e1]; exact (Kept.refl [] w).alloc _
  have k2 : Kept [] w1 w2 := by rw [← e2]; exact (Kept.refl [] w1).alloc _
  obtain ⟨p0, p1, p2, p3, p4, p5⟩ := cel6 (k2.heap (show w1.heap[B]? = some (.cells #[.slice bo m c, .int .i64 st, .int .i64 a0, .int .i64 a1, .int .i64 a2, .int .i64 a3] 45 (0, 0)) by rw [← e1, ← eB]; exact heap_alloc_new _ _) (by simp))
  obtain ⟨q0, q1, q2, q3, q4, q5⟩ := cel6 (show w2.heap[B + 1]? = some (.cells #[.slice bo' m c', .int .i64 st, .int .i64 a0, .int .i64 a1, .int .i64 a2, .int .i64 a3] 45 (0, 0)) by rw [← e2, ← z1]; exact heap_alloc_new _ _)
  have K2 := Hid.mk (k1.trans k2)
  have t1 := reads_str' (h.keep K2.out) hm c
  have t2 := reads_str' (h'.keep K2.out) hm c'
  have R := rung_eql a0 a1 a2 a3
  clear h h' k1 k2
  go_enter Tryz.func18, Tryz.ntmps18
  go_wp2
  go_ret
  exact ⟨rfl, K2.out⟩

theorem Tryz.infoC6 : (Tryz.prog.info? 45).map (fun i => (i.zero, i.size, i.bytes)) = some (some (.agg #[.slice none 0 0, .int .i64 0, .int .i64 0, .int .i64 0, .int .i64 0, .int .i64 0]), 6, 64) := by kernel_rfl
/-- What is coded, in a list: its six cells; all. -/
def six (LN : Nat → Nat) (L : Nat → Nat → Int) (bo : Nat → Option Addr) (cc : Nat → Nat) (i : Nat) : List Value := [.slice (bo i) (LN i) (cc i), .int .i64 (i : Int), .int .i64 (L i 0), .int .i64 (L i 1), .int .i64 (L i 2), .int .i64 (L i 3)]
def cdC (LN : Nat → Nat) (L : Nat → Nat → Int) (bo : Nat → Option Addr) (cc : Nat → Nat) : Nat → List Value
  | 0 => []
  | k + 1 => cdC LN L bo cc k ++ six LN L bo cc k
theorem cdC_len (LN : Nat → Nat) (L : Nat → Nat → Int) (bo : Nat → Option Addr) (cc : Nat → Nat) (k : Nat) : (cdC LN L bo cc k).length = k * 6 := by
  induction k with
  | zero => rfl
  | succ k ih => simp only [cdC, List.length_append, ih]; show k * 6 + 6 = _; omega
theorem cdC_congr {LN : Nat → Nat} {L : Nat → Nat → Int} {bo bo' : Nat → Option Addr} {cc cc' : Nat → Nat} {k : Nat} (h : ∀ i, i < k → bo i = bo' i ∧ cc i = cc' i) : cdC LN L bo cc k = cdC LN L bo' cc' k := by
  induction k with
  | zero => rfl
  | succ k ih =>
    simp only [cdC]
    rw [ih (fun i hi => h i (by omega))]
    congr 1
    unfold six
    rw [(h k (by omega)).1, (h k (by omega)).2]
theorem cdC_at {LN : Nat → Nat} {L : Nat → Nat → Int} {bo : Nat → Option Addr} {cc : Nat → Nat} {k i j : Nat} (hi : i < k) (hj : j < 6) : (cdC LN L bo cc k)[i * 6 + j]? = (six LN L bo cc i)[j]? := by
  induction k with
  | zero => omega
  | succ k ih =>
    simp only [cdC]
    by_cases e : i = k
    · subst e
      rw [List.getElem?_append_right (by rw [cdC_len]; omega), cdC_len]
      congr 1
      omega
    · rw [List.getElem?_append_left (by rw [cdC_len]; omega)]
      exact ih (by omega)
theorem own_some6 {w : World} {base e n : Nat} {v : Value} {xs : List Value} (h : w.ownsRow base e 6 v n xs) (hn : 0 < n) : ∃ g cap, v = .slice (some ⟨g, 0, none⟩) n cap ∧ base ≤ g ∧ ∀ i x, xs[i]? = some x → w.cell? ⟨g, i, none⟩ = some x := by
  rcases h.2 with ⟨_, h0⟩ | ⟨g, cap, cur, h1, h2, h3, h4, h5, h6, h7⟩
  · omega
  · refine ⟨g, cap, h1, h2, fun i x hx => cellAt h3 ?_⟩
    have hi : i < n * 6 := by rw [← h.1]; exact (List.getElem?_eq_some_iff.1 hx).1
    rw [← h7, List.getElem?_take_of_lt hi] at hx
    rw [← Array.getElem?_toList]
    exact hx
/-- One more is put behind what was coded. -/
theorem app_cd (u : World) (B n : Nat) (V : Value) (xs : List Value) (ho : u.ownsRow B 45 6 V n xs) (hB : B ≤ u.heap.size) (T : Nat) (v0 v1 v2 v3 v4 v5 : Value) (hT : u.heap[T]? = some (.cells #[v0, v1, v2, v3, v4, v5] 45 (0, 0))) (h1 : ∀ v ∈ [v0, v1, v2, v3, v4, v5], v.oneCell' = true) (hn : n ≤ 1000) :
    ∃ g c u', Sem.run Tryz.prog (Builtin.append_ #[40, 40] 40 #[V, .slice (some ⟨T, 0, none⟩) 1 1]) u = .ok (.slice (some ⟨g, 0, none⟩) (n + 1) c) u' ∧ u'.ownsRow B 45 6 (.slice (some ⟨g, 0, none⟩) (n + 1) c) (n + 1) (xs ++ [v0, v1, v2, v3, v4, v5]) ∧ Kept V.ownBlock.toList u u' := by
  obtain ⟨j0, gi, gz0, gz1, gz2⟩ := info_parts Tryz.infoC6
  obtain ⟨v', u', r1, r2, r3, _, r5⟩ := run_append_own_at (P := Tryz.prog) u B 40 40 45 j0 (.agg #[.slice none 0 0, .int .i64 0, .int .i64 0, .int .i64 0, .int .i64 0, .int .i64 0]) 6 64 Tryz.underlying40 gi gz0 gz1 gz2 rfl (by decide) V n xs ho ⟨T, 0, none⟩ 1 1 [v0, v1, v2, v3, v4, v5] rfl (fun j v hj => by
    have hadd : (⟨T, 0, none⟩ : Addr).add j = ⟨T, j, none⟩ := by unfold Addr.add; split <;> simp_all
    rw [hadd]
    exact cellAt hT (by rw [← Array.getElem?_toList]; exact hj)) h1 (by unfold maxLen; omega) (by omega) hB
  obtain ⟨g', c', rfl, _⟩ := own_some6 r2 (by omega)
  exact ⟨g', c', u', r1, r2, Kept.of_grown r3⟩
theorem wpList_cd (B : Nat) (w : World) {ops : Array Oper} {rest : List Oper} {o : Oper} {a : Act} {Q : Exit → Act → World → Prop} (hgd : o.guard = none) (s x : Operand)
    (ho : o.op = .call { callee := .builtin .append, args := #[s, x], argTypes := #[40, 40] })
    (V : Value) (n : Nat) (xs : List Value) (hs : a.eval s = V) (hown : w.ownsRow B 45 6 V n xs) (T : Nat) (v0 v1 v2 v3 v4 v5 : Value) (hx : a.eval x = .slice (some ⟨T, 0, none⟩) 1 1) (hT : w.heap[T]? = some (.cells #[v0, v1, v2, v3, v4, v5] 45 (0, 0)))
    (h1 : ∀ v ∈ [v0, v1, v2, v3, v4, v5], v.oneCell' = true) (hn : n ≤ 1000) (hB : B ≤ w.heap.size)
    (h : ∀ g c w', w'.ownsRow B 45 6 (.slice (some ⟨g, 0, none⟩) (n + 1) c) (n + 1) (xs ++ [v0, v1, v2, v3, v4, v5]) → Kept V.ownBlock.toList w w' → wpList Tryz.prog ops Q rest (a.put o.dst (.slice (some ⟨g, 0, none⟩) (n + 1) c)) w') :
    wpList Tryz.prog ops Q (o :: rest) a w := by
  obtain ⟨i0, hi, hz0, hz1, hz2⟩ := info_parts Tryz.infoC6
  refine wpList_append_own_at w hgd s x 40 ho B 45 i0 (.agg #[.slice none 0 0, .int .i64 0, .int .i64 0, .int .i64 0, .int .i64 0, .int .i64 0]) 6 64 Tryz.underlying40 hi hz0 hz1 hz2 rfl (by decide) V n xs hs hown ⟨T, 0, none⟩ 1 1 [v0, v1, v2, v3, v4, v5] hx rfl (fun j v hj => ?_) h1 (by unfold maxLen; omega) (by omega) hB ?_
  · have hadd : (⟨T, 0, none⟩ : Addr).add j = ⟨T, j, none⟩ := by unfold Addr.add; split <;> simp_all
    rw [hadd]
    exact cellAt hT (by rw [← Array.getElem?_toList]; exact hj)
  · intro v' w' h2 h3 _ _
    obtain ⟨g, c, rfl, _⟩ := own_some6 h2 (by omega)
    exact h g c w' h2 (Kept.of_grown h3)
/-- Rows of other things lie elsewhere. -/
theorem rec_keep {u u' : World} {B B' n k e : Nat} {V v : Value} {xs ys : List Value} (hV : u.ownsRow B 45 6 V n xs) (hk : Kept V.ownBlock.toList u u') (hr : u.ownsRow B' e 1 v k ys) (he : e ≠ 45) : u'.ownsRow B' e 1 v k ys := by
  refine hk.row hr (fun b hb hm => ?_)
  rcases hV.2 with ⟨rfl, _⟩ | ⟨g, cap, cur, rfl, _, hg, _⟩
  · simp [Value.ownBlock] at hm
  · simp [Value.ownBlock] at hm
    subst hm
    rcases hr.2 with ⟨rfl, _⟩ | ⟨g', cap', cur', rfl, _, hg', _⟩
    · simp [Value.ownBlock] at hb
    · simp [Value.ownBlock] at hb
      subst hb
      rw [hg] at hg'
      cases hg'
      exact he rfl
/-- The blocks of a list of what was coded are new. -/
theorem list_new {u u' : World} {B n : Nat} {V : Value} {xs : List Value} (hV : u.ownsRow B 45 6 V n xs) {w : World} (hw : Kept [] w u) (hB : w.heap.size ≤ B) (hk : Kept V.ownBlock.toList u u') : Kept [] w u' := by
  refine hw.step hk (fun x hx => .inr ?_)
  rcases hV.2 with ⟨rfl, _⟩ | ⟨g, cap, cur, rfl, hb, _⟩
  · simp [Value.ownBlock] at hx
  · simp [Value.ownBlock] at hx
    subst hx
    omega
end Go.Proofs.YthkpligodbkofaaGreatDoor.Pc
