import Derived.Test.YtahoeodpjdbdkabDoorJm
import Derived.Deep.DeepAppendWide
import Derived.Laws.OwnMore
namespace Go.Proofs.YtahoeodpjdbdkabDoor
open Go.RowKit

theorem add_nil (g o j : Nat) : (⟨g, o, none⟩ : Addr).add j = ⟨g, o + j, none⟩ := by unfold Addr.add; split <;> simp_all

/-- A row of bytes that is read, put behind a row of one's own. -/
theorem app_more (u : World) (ty B : Nat) (v : Value) (n : Nat) (xs : List Value) (ho : u.ownsRow B 5 1 v n xs) (hB : B ≤ u.heap.size) (so : Option Addr) (m c : Nat) (l : List Nat) (hr : Reads u so l) (hm : l.length = m) (hn : n ≤ 100000000) (hmb : m ≤ 140737488351232) (hnc : so = none → c = 0) :
    ∃ v' u', Sem.run Tryd.prog (Builtin.append_ #[27, 27] ty #[v, .slice so m c]) u = .ok v' u' ∧ u'.ownsRow B 5 1 v' (n + m) (xs ++ l.map byt) ∧ Kept v.ownBlock.toList u u' := by
  obtain ⟨i0, hi, hz0, hz1, hz2⟩ := info_parts Tryd.info5
  match so, hnc with
  | none, hnc =>
    obtain rfl : c = 0 := hnc rfl
    have hl : l = [] := by
      rcases hr with h | ⟨g, off, h, _⟩
      · exact h
      · cases h
    subst hl
    obtain rfl : m = 0 := by simpa using hm.symm
    exact ⟨v, u, run_append_owned_none (P := Tryd.prog) (w := u) B 27 ty 5 i0 1 Tryd.underlying27 hi v n xs ho, by simpa using ho, Kept.refl _ _⟩
  | some ad, _ =>
    obtain ⟨v', u', hrun, h2, h3, _⟩ := run_append_own_wide (P := Tryd.prog) u B 27 ty 5 i0 (.int .u8 0) 1 1 Tryd.underlying27 hi hz0 hz1 hz2 rfl (by decide) v n xs ho ad m c (l.map byt) (by simp [hm]) (fun j x hj => by
      rcases hr with h | ⟨g, off, h, hc⟩
      · subst h; simp at hj
      · cases h
        have hjl : j < l.length := by
          rcases Nat.lt_or_ge j l.length with h | h
          · exact h
          · rw [List.getElem?_eq_none (by simpa using h)] at hj; cases hj
        rw [add_nil, hc j hjl]
        rw [List.getElem?_map, List.getElem?_eq_getElem hjl] at hj
        simp only [Option.map_some, Option.some.injEq] at hj
        rw [← hj, List.getD_eq_getElem?_getD, List.getElem?_eq_getElem hjl]
        rfl) (fun x hx => by
      simp only [List.mem_map] at hx
      obtain ⟨b, _, rfl⟩ := hx
      rfl) (by unfold maxLen; omega) (by omega) hB
    exact ⟨v', u', hrun, h2, Kept.of_grown h3⟩

/-- What was told, and more behind it, in a new list. -/
theorem app_two (u : World) (ty : Nat) (g L : Nat) (bs : List Nat) (hg : u.heap[g]? = some (.cells (bs.map byt).toArray 5 (0, 0))) (hL : bs.length = L) (hL1 : 1 ≤ L) (hLb : L ≤ 100000000) (so : Option Addr) (m c : Nat) (l : List Nat) (hr : Reads u so l) (hm : l.length = m) (hmb : m ≤ 140737488351232) (hnc : so = none → c = 0) :
    ∃ v1 u1 g2 c2 u2, Sem.run Tryd.prog (Builtin.append_ #[27, 27] ty #[.slice (some ⟨u.heap.size, 0, none⟩) 0 0, .slice (some ⟨g, 0, none⟩) L L]) (u.alloc (.cells #[] 5)) = .ok v1 u1 ∧ Sem.run Tryd.prog (Builtin.append_ #[27, 27] ty #[v1, .slice so m c]) u1 = .ok (.slice (some ⟨g2, 0, none⟩) (L + m) c2) u2 ∧ Kept [] u u2 ∧ Reads u2 (some ⟨g2, 0, none⟩) (bs ++ l) := by
  have k0 : Kept [] u (u.alloc (.cells #[] 5)) := alloc_kept _ _
  have ho : (u.alloc (.cells #[] 5)).ownsRow u.heap.size 5 1 (.slice (some ⟨u.heap.size, 0, none⟩) 0 0) 0 ([] : List Value) := World.ownsRow_lit u #[] 0 (Nat.le_refl _) (by decide) rfl
  obtain ⟨v1, u1, r1, o1, k1⟩ := app_more (u.alloc (.cells #[] 5)) ty u.heap.size _ 0 [] ho (by rw [World.size_alloc]; omega) (some ⟨g, 0, none⟩) L L bs (heap_reads' (k0.heap hg (by simp))) hL (by omega) (by omega) (fun h => by cases h)
  have kk1 : Kept [] u u1 := k0.step k1 (fun x hx => by simp [Value.ownBlock] at hx; subst hx; exact .inr (Nat.le_refl _))
  rw [Nat.zero_add, List.nil_append] at o1
  have hr1 : Reads u1 so l := hr.keep kk1
  obtain ⟨v2, u2, r2, o2, k2⟩ := app_more u1 ty u.heap.size v1 L (bs.map byt) o1 kk1.size so m c l hr1 hm hLb hmb hnc
  have hv1 : ∀ x, x ∈ v1.ownBlock.toList → u.heap.size ≤ x := by
    rcases o1.2 with ⟨e, _⟩ | ⟨b, cap, cur, e, hb, _⟩
    · subst e; simp [Value.ownBlock]
    · subst e; intro x hx; simp [Value.ownBlock] at hx; subst hx; exact hb
  have kk2 : Kept [] u u2 := kk1.step k2 (fun x hx => .inr (hv1 x hx))
  rcases o2.2 with ⟨_, h0⟩ | ⟨b, cap, cur, e, hb, _⟩
  · omega
  · subst e
    refine ⟨v1, u1, b, cap, u2, r1, r2, kk2, .inr ⟨b, 0, rfl, fun i hi => ?_⟩⟩
    have h := o2.cells (g := b) rfl i (byt ((bs ++ l).getD i 0)) (by
      rw [← List.map_append, List.getElem?_map, List.getElem?_eq_getElem hi, List.getD_eq_getElem?_getD, List.getElem?_eq_getElem hi]
      rfl)
    rwa [add_nil] at h
end Go.Proofs.YtahoeodpjdbdkabDoor
