import Derived.Test.YthihennifigchaaKa
namespace Go.Proofs.Ythihennifigchaa.Bk
open Go.RowKit

/-- A row of values of its own. -/
def vrw (e : TypeId) (S : Value) (n : Nat) (V : Nat → Value) : Rsc where
  P := fun w => w.ownsRow 0 e 1 S n (vals V n)
  F := S.ownBlock.toList
  lt := fun h hx => ownsRow_lt h (mem_own.1 hx)
  keep := fun h hk hF => hk.row h (fun _ hg => hF _ (mem_own.2 hg))
theorem vrw_congr {e : TypeId} {S : Value} {n : Nat} {V V' : Nat → Value} (h : ∀ i, i < n → V i = V' i) : vrw e S n V = vrw e S n V' := by
  unfold vrw
  simp only [vals_congr h]
/-- The cells of held lists. -/
def hfl (HV : Nat → Value) (HM : Nat → Int) (h : Nat) : List Value := (List.range h).flatMap fun j => [HV j, .int .u16 (HM j)]
theorem hfl_succ (HV : Nat → Value) (HM : Nat → Int) (h : Nat) : hfl HV HM (h + 1) = hfl HV HM h ++ [HV h, .int .u16 (HM h)] := by
  unfold hfl
  rw [List.range_succ, List.flatMap_append]
  simp
theorem hfl_length (HV : Nat → Value) (HM : Nat → Int) (h : Nat) : (hfl HV HM h).length = h * 2 := by
  induction h with
  | zero => rfl
  | succ h ih => rw [hfl_succ, List.length_append, ih]; simp; omega
theorem hfl_congr {HV HV' : Nat → Value} {HM HM' : Nat → Int} {h : Nat} (h1 : ∀ j, j < h → HV j = HV' j) (h2 : ∀ j, j < h → HM j = HM' j) : hfl HV HM h = hfl HV' HM' h := by
  induction h with
  | zero => rfl
  | succ h ih => rw [hfl_succ, hfl_succ, ih (fun j hj => h1 j (by omega)) (fun j hj => h2 j (by omega)), h1 h (by omega), h2 h (by omega)]
theorem hfl_at (HV : Nat → Value) (HM : Nat → Int) (h j : Nat) (hj : j < h) : (hfl HV HM h)[j * 2]? = some (HV j) ∧ (hfl HV HM h)[j * 2 + 1]? = some (.int .u16 (HM j)) := by
  induction h with
  | zero => omega
  | succ h ih =>
    rw [hfl_succ]
    by_cases e : j = h
    · subst e
      rw [List.getElem?_append_right (by rw [hfl_length]; omega), List.getElem?_append_right (by rw [hfl_length]; omega), hfl_length]
      constructor
      · simp
      · rw [show j * 2 + 1 - j * 2 = 1 by omega]; rfl
    · rw [List.getElem?_append_left (by rw [hfl_length]; omega), List.getElem?_append_left (by rw [hfl_length]; omega)]
      exact ih (by omega)
theorem hfl_set (HV : Nat → Value) (HM : Nat → Int) (h j : Nat) (v : Value) (hj : j < h) : (hfl HV HM h).set (j * 2) v = hfl (fun t => if t = j then v else HV t) HM h := by
  induction h with
  | zero => omega
  | succ h ih =>
    rw [hfl_succ, hfl_succ]
    by_cases e : j = h
    · subst e
      rw [List.set_append_right _ _ (by rw [hfl_length]; omega), hfl_length, Nat.sub_self, if_pos rfl]
      rw [hfl_congr (HV := HV) (HV' := fun t => if t = j then v else HV t) (HM := HM) (HM' := HM) (fun t ht => by rw [if_neg (by omega)]) (fun _ _ => rfl)]
      rfl
    · rw [List.set_append_left _ _ (by rw [hfl_length]; omega), ih (by omega), if_neg (fun h => e h.symm)]
def hrw (S : Value) (h : Nat) (HV : Nat → Value) (HM : Nat → Int) : Rsc where
  P := fun w => w.ownsRow 0 79 2 S h (hfl HV HM h)
  F := S.ownBlock.toList
  lt := fun h hx => (h.lt _ (mem_own.1 hx)).2
  keep := fun h hk hF => hk.row h (fun _ hg => hF _ (mem_own.2 hg))
theorem hrw_congr {S : Value} {h : Nat} {HV HV' : Nat → Value} {HM HM' : Nat → Int} (h1 : ∀ j, j < h → HV j = HV' j) (h2 : ∀ j, j < h → HM j = HM' j) : hrw S h HV HM = hrw S h HV' HM' := by
  unfold hrw
  simp only [hfl_congr h1 h2]
/-- A list that is held reads so. -/
def HOk (w : World) (v : Value) (m : Int) (HB : List Nat) : Prop := ∃ ao n cap, v = .slice ao n cap ∧ n ≤ 1000000000 ∧ Al .u16 w ao n m ∧ ∀ a, ao = some a → a.block ∈ HB ∨ n = 0
theorem HOk.keep {w w' : World} {v : Value} {m : Int} {HB ks : List Nat} (h : HOk w v m HB) (hk : Kept ks w w') (hF : ∀ x ∈ HB, x ∉ ks) : HOk w' v m HB := by
  obtain ⟨ao, n, cap, h1, h2, h3, h4⟩ := h
  refine ⟨ao, n, cap, h1, h2, ?_, h4⟩
  rcases h3 with h3 | ⟨G, off, e, hc⟩
  · exact .inl h3
  · by_cases h0 : n = 0
    · exact .inl h0
    · have hG : G ∈ HB := by
        rcases h4 _ e with h | h
        · exact h
        · exact absurd h h0
      exact .inr ⟨G, off, e, fun i hi => cell_keep hk (hc i hi) (hF G hG)⟩
theorem HOk.more {w : World} {v : Value} {m : Int} {HB HB' : List Nat} (h : HOk w v m HB) (hs : ∀ x ∈ HB, x ∈ HB') : HOk w v m HB' := by
  obtain ⟨ao, n, cap, h1, h2, h3, h4⟩ := h
  exact ⟨ao, n, cap, h1, h2, h3, fun a e => by rcases h4 a e with h | h; exact .inl (hs _ h); exact .inr h⟩
/-- All lists that are held and done with. -/
def hth (J : Nat → Prop) (HV : Nat → Value) (HM : Nat → Int) (HB : List Nat) : Rsc where
  P := fun w => (∀ x ∈ HB, x < w.heap.size) ∧ ∀ j, J j → HOk w (HV j) (HM j) HB
  F := HB
  lt := fun h hx => h.1 _ hx
  keep := fun h hk hF => ⟨fun x hx => Nat.lt_of_lt_of_le (h.1 x hx) hk.size, fun j hj => (h.2 j hj).keep hk hF⟩

/-- What stands in a Book: n answers, each with kn lists; h lists are held. -/
structure Bo where
  n : Nat
  r : Nat
  kn : Nat → Nat
  rl : Nat → Nat
  RV : Nat → Value
  OV : Nat → Value
  LV : Nat → Nat → Value
  LX : Nat → Nat → Rsc
  SO : Value
  h : Nat
  HV : Nat → Value
  HM : Nat → Int
  SL : Value
  J : Nat → Prop
  HB : List Nat
  fr : Int
def Bo.D (s : Bo) (i : Nat × Nat) : Prop := (i.1 = 0 ∧ i.2 < s.n) ∨ (i.1 = 1 ∧ i.2 = 0) ∨ (i.1 = 2 ∧ i.2 = 0) ∨ (i.1 = 3 ∧ i.2 = 0) ∨ (i.1 = 4 ∧ i.2 = 0) ∨ (10 ≤ i.1 ∧ i.1 - 10 < s.n ∧ i.2 < s.kn (i.1 - 10))
def Bo.R (s : Bo) (A : Nat) (i : Nat × Nat) : Rsc :=
  match i.1 with
  | 0 => vrw 52 (s.RV i.2) (s.rl i.2) (s.LV i.2)
  | 1 => obj A (.cells #[s.SL, .int .i64 s.fr, s.SO] 35 (0, 0))
  | 2 => vrw 36 s.SO s.r s.OV
  | 3 => hrw s.SL s.h s.HV s.HM
  | 4 => hth s.J s.HV s.HM s.HB
  | a => s.LX (a - 10) i.2
def BAt (W w : World) (A : Nat) (s : Bo) : Prop := SepI W w s.D (s.R A)
section
variable {W w w' : World} {A : Nat} {s : Bo}
theorem Bo.D0 (s : Bo) (i : Nat) (h : i < s.n) : s.D (0, i) := .inl ⟨rfl, h⟩
theorem Bo.D1 (s : Bo) : s.D (1, 0) := .inr (.inl ⟨rfl, rfl⟩)
theorem Bo.D2 (s : Bo) : s.D (2, 0) := .inr (.inr (.inl ⟨rfl, rfl⟩))
theorem Bo.D3 (s : Bo) : s.D (3, 0) := .inr (.inr (.inr (.inl ⟨rfl, rfl⟩)))
theorem Bo.D4 (s : Bo) : s.D (4, 0) := .inr (.inr (.inr (.inr (.inl ⟨rfl, rfl⟩))))
theorem Bo.DL (s : Bo) (i k : Nat) (h : i < s.n) (hk : k < s.kn i) : s.D (10 + i, k) := .inr (.inr (.inr (.inr (.inr ⟨by show 10 ≤ 10 + i; omega, by show 10 + i - 10 < s.n; omega, by show k < s.kn (10 + i - 10); rw [Nat.add_sub_cancel_left]; exact hk⟩))))
theorem Bo.RL (s : Bo) (A i k : Nat) : s.R A (10 + i, k) = s.LX i k := by
  have : 10 + i = i + 5 + 5 := by omega
  simp only [Bo.R, this]
  show s.LX (i + 5 + 5 - 10) k = _
  rw [show i + 5 + 5 - 10 = i by omega]
theorem BAt.keep (h : BAt W w A s) (hk : Kept [] w w') : BAt W w' A s := SepI.keep h hk
theorem BAt.row (h : BAt W w A s) (i : Nat) (hi : i < s.n) : w.ownsRow 0 52 1 (s.RV i) (s.rl i) (vals (s.LV i) (s.rl i)) := h.P (0, i) (s.D0 i hi)
theorem BAt.box (h : BAt W w A s) : w.heap[A]? = some (.cells #[s.SL, .int .i64 s.fr, s.SO] 35 (0, 0)) := h.P (1, 0) s.D1
theorem BAt.out (h : BAt W w A s) : w.ownsRow 0 36 1 s.SO s.r (vals s.OV s.r) := h.P (2, 0) s.D2
theorem BAt.held (h : BAt W w A s) : w.ownsRow 0 79 2 s.SL s.h (hfl s.HV s.HM s.h) := h.P (3, 0) s.D3
theorem BAt.dead (h : BAt W w A s) : ∀ j, s.J j → HOk w (s.HV j) (s.HM j) s.HB := (h.P (4, 0) s.D4).2
theorem BAt.list (h : BAt W w A s) (i k : Nat) (hi : i < s.n) (hk : k < s.kn i) : (s.LX i k).P w := by
  have := h.P (10 + i, k) (s.DL i k hi hk)
  rw [s.RL] at this
  exact this
theorem BAt.cells (h : BAt W w A s) : (w.cell? ⟨A, 0, none⟩ = some s.SL ∧ w.cell? ⟨A, 1, none⟩ = some (.int .i64 s.fr) ∧ w.cell? ⟨A, 2, none⟩ = some s.SO) ∧ ∀ k, w.frozen? ⟨A, k, none⟩ = false := by
  have hb := h.box
  refine ⟨⟨?_, ?_, ?_⟩, fun k => by simp [World.frozen?, hb]⟩ <;> simp [World.cell?, hb]
/-- One list changes. -/
def Bo.one (s : Bo) (i k : Nat) (r : Rsc) : Bo := { s with LX := upd2 s.LX i k r }
theorem Bo.cases_D (s : Bo) (j : Nat × Nat) (hj : s.D j) : (∃ i, j = (0, i) ∧ i < s.n) ∨ j = (1, 0) ∨ j = (2, 0) ∨ j = (3, 0) ∨ j = (4, 0) ∨ ∃ i k, j = (10 + i, k) ∧ i < s.n ∧ k < s.kn i := by
  obtain ⟨a, b⟩ := j
  rcases hj with ⟨h1, h2⟩ | ⟨h1, h2⟩ | ⟨h1, h2⟩ | ⟨h1, h2⟩ | ⟨h1, h2⟩ | ⟨h1, h2, h3⟩
  · exact .inl ⟨b, by simp at h1; rw [h1], h2⟩
  · exact .inr (.inl (by simp at h1 h2; rw [h1, h2]))
  · exact .inr (.inr (.inl (by simp at h1 h2; rw [h1, h2])))
  · exact .inr (.inr (.inr (.inl (by simp at h1 h2; rw [h1, h2]))))
  · exact .inr (.inr (.inr (.inr (.inl (by simp at h1 h2; rw [h1, h2])))))
  · exact .inr (.inr (.inr (.inr (.inr ⟨a - 10, b, by simp at h1; rw [show 10 + (a - 10) = a by omega], h2, h3⟩))))
theorem BAt.one {ks : List Nat} (h : BAt W w A s) (i k : Nat) (hi : i < s.n) (hk : k < s.kn i) (r : Rsc) (hK : Kept ks w w') (hks : ∀ x ∈ ks, x ∈ (s.LX i k).F ∨ w.heap.size ≤ x) (hr : r.P w') (hF : ∀ x ∈ r.F, x ∈ (s.LX i k).F ∨ w.heap.size ≤ x) : BAt W w' A (s.one i k r) := by
  have e := s.RL A i k
  refine (SepI.step (r := r) h (10 + i, k) (s.DL i k hi hk) hK (by rw [e]; exact hks) hr (by rw [e]; exact hF)).congr (fun j hj => hj) (fun j hj => ?_)
  by_cases ej : j = (10 + i, k)
  · subst ej
    rw [updI_at, (s.one i k r).RL]
    exact upd2_at _ _ _ _
  · rw [updI_far _ _ _ _ ej]
    rcases s.cases_D j hj with ⟨i', rfl, _⟩ | rfl | rfl | rfl | rfl | ⟨i', k', rfl, _⟩
    · rfl
    · rfl
    · rfl
    · rfl
    · rfl
    · rw [s.RL, (s.one i k r).RL]
      exact upd2_far _ _ _ _ _ _ (fun ⟨e2, e3⟩ => ej (by rw [e2, e3]))
end
end Go.Proofs.Ythihennifigchaa.Bk
