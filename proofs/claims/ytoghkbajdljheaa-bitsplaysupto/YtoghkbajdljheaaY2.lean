import Derived.Test.YtoghkbajdljheaaY1
namespace Go.Proofs.Ytoghkbajdljheaa
open Go.RowKit

/-- What stands in a World: blocks, rows, numbers, lists. -/
structure St where
  B : Nat → Nat
  V : Nat → Value
  N : Nat → Nat
  len : Nat → Nat
  bs : Nat → List Nat
  l : Nat → List Nat
  t : Nat → Nat
  g : Nat → Nat
  l2 : Nat → List Nat
  t2 : Nat → Nat
  n : Nat
  vl : Value
  vw : Value
  LV : Nat → Value
  LU : Nat → Value
  ls : Nat → List Nat

def St.p (s : St) : Nat → Value := fun i => .pointer (some ⟨s.B i, 0, none⟩)

/-- Its nine things. -/
def St.rsc (s : St) (A i : Nat) : Rsc :=
  if i < 2 then wtr (s.B i) (s.V i) (s.N i) (s.len i)
  else if i < 4 then rfw (s.B i) (s.V i) (s.bs (i - 2))
  else if i < 6 then rdr (s.B i) (s.g (i - 4)) (s.l (i - 4)) (s.t (i - 4))
  else if i < 8 then rfr (s.B i) (s.V i) (s.l2 (i - 6)) (s.t2 (i - 6))
  else bok A s.p s.n s.vl s.vw s.LV s.LU s.ls

def St.all (s : St) (A : Nat) (X : Nat → Rsc) : Nat → Rsc := fun i => if i < 9 then s.rsc A i else X (i - 9)

/-- The nine things and m others lie apart, in memory that is new to W. -/
def Stt (W w : World) (A : Nat) (s : St) (m : Nat) (X : Nat → Rsc) : Prop := Sep W w (9 + m) (s.all A X)

/-- What the two sides have alike, and bounds behind c steps. -/
structure Ok (s : St) (c : Nat) : Prop where
  bs : ∀ k, k < 2 → s.bs k = bin (s.len k) (s.N k)
  l2 : ∀ k, k < 2 → s.l2 k = s.l k
  t2 : ∀ k, k < 2 → s.t2 k = s.t k
  len : ∀ k, k < 2 → s.len k ≤ 32 * c
  n : s.n ≤ 3 * c
  l : ∀ k, k < 2 → (s.l k).length ≤ 10000000
  ls : ∀ i, (s.ls i).length ≤ 100000000000

section
variable {W w w' : World} {A m : Nat} {s : St} {X : Nat → Rsc}

theorem Stt.keep (h : Stt W w A s m X) (hk : Kept [] w w') : Stt W w' A s m X := Sep.keep h hk

theorem Stt.at_ (h : Stt W w A s m X) (i : Nat) (hi : i < 9) : (s.rsc A i).P w := by
  have h1 := h.P i (by omega)
  simpa [St.all, hi] using h1

theorem Stt.wr (h : Stt W w A s m X) (k : Nat) (hk : k < 2) : WriterAt w (s.B k) (s.V k) (s.N k) (s.len k) := by
  have h1 := h.at_ k (by omega)
  rw [St.rsc, if_pos hk] at h1
  exact h1

theorem Stt.rw_ (h : Stt W w A s m X) (k : Nat) (hk : k < 2) : RefW w (s.B (2 + k)) (s.V (2 + k)) (s.bs k) := by
  have h1 := h.at_ (2 + k) (by omega)
  rw [St.rsc, if_neg (by omega), if_pos (by omega), Nat.add_sub_cancel_left] at h1
  exact h1

theorem Stt.rd (h : Stt W w A s m X) (k : Nat) (hk : k < 2) : ReaderAt w (s.B (4 + k)) (s.g k) (s.l k) (s.t k) := by
  have h1 := h.at_ (4 + k) (by omega)
  rw [St.rsc, if_neg (by omega), if_neg (by omega), if_pos (by omega), Nat.add_sub_cancel_left] at h1
  exact h1

theorem Stt.rr (h : Stt W w A s m X) (k : Nat) (hk : k < 2) : RefR w (s.B (6 + k)) (s.V (6 + k)) (s.l2 k) (s.t2 k) := by
  have h1 := h.at_ (6 + k) (by omega)
  rw [St.rsc, if_neg (by omega), if_neg (by omega), if_neg (by omega), if_pos (by omega), Nat.add_sub_cancel_left] at h1
  exact h1

theorem Stt.bk (h : Stt W w A s m X) : Wd.Bks w A s.p s.n s.vl s.vw s.LV s.LU s.ls := by
  have h1 := h.at_ 8 (by omega)
  rw [St.rsc, if_neg (by omega), if_neg (by omega), if_neg (by omega), if_neg (by omega)] at h1
  exact h1

theorem Stt.ex (h : Stt W w A s m X) (i : Nat) (hi : i < m) : (X i).P w := by
  have h1 := h.P (9 + i) (by omega)
  have h2 : ¬ 9 + i < 9 := by omega
  simpa [St.all, h2] using h1

theorem two_of {k : Nat} (h : k < 2) : k = 0 ∨ k = 1 := by omega
theorem nine_of {i : Nat} (h : i < 9) : i = 0 ∨ i = 1 ∨ i = 2 ∨ i = 3 ∨ i = 4 ∨ i = 5 ∨ i = 6 ∨ i = 7 ∨ i = 8 := by omega

/-- One of the nine is changed. -/
theorem Stt.step {ks : List Nat} {s' : St} (h : Stt W w A s m X) (i : Nat) (hi : i < 9) (hk : Kept ks w w') (hks : ∀ x ∈ ks, x ∈ (s.rsc A i).F ∨ w.heap.size ≤ x) (hr : (s'.rsc A i).P w')
    (hF : ∀ x ∈ (s'.rsc A i).F, x ∈ (s.rsc A i).F ∨ w.heap.size ≤ x) (he : ∀ j, j < 9 → j ≠ i → s'.rsc A j = s.rsc A j) : Stt W w' A s' m X := by
  have e0 : s.all A X i = s.rsc A i := by simp [St.all, hi]
  refine (Sep.step (r := s'.rsc A i) h i (by omega) hk (by rw [e0]; exact hks) hr (by rw [e0]; exact hF)).congr (fun j hj => ?_)
  by_cases e : j = i
  · subst e; rw [upd_at]; simp [St.all, hi]
  · rw [upd_far _ _ _ _ e]
    by_cases h9 : j < 9
    · simp [St.all, h9, he j h9 e]
    · simp [St.all, h9]

theorem Stt.setW (h : Stt W w A s m X) (k : Nat) (hk2 : k < 2) {V' : Value} {N' len' : Nat} (hk : Kept (s.B k :: (s.V k).ownBlock.toList) w w') (hw : WriterAt w' (s.B k) V' N' len') (hL : Lies w (s.V k) V') :
    Stt W w' A { s with V := upd s.V k V', N := upd s.N k N', len := upd s.len k len' } m X := by
  rcases two_of hk2 with rfl | rfl
  · refine h.step (ks := s.B 0 :: (s.V 0).ownBlock.toList) 0 (by omega) hk (fun x hx => .inl hx) hw (lies_F hL) (fun j hj hji => ?_)
    rcases nine_of hj with rfl | rfl | rfl | rfl | rfl | rfl | rfl | rfl | rfl <;> first | (exact absurd rfl hji) | rfl
  · refine h.step (ks := s.B 1 :: (s.V 1).ownBlock.toList) 1 (by omega) hk (fun x hx => .inl hx) hw (lies_F hL) (fun j hj hji => ?_)
    rcases nine_of hj with rfl | rfl | rfl | rfl | rfl | rfl | rfl | rfl | rfl <;> first | (exact absurd rfl hji) | rfl

theorem Stt.setX (h : Stt W w A s m X) (k : Nat) (hk2 : k < 2) {V' : Value} {bs' : List Nat} (hk : Kept (s.B (2 + k) :: (s.V (2 + k)).ownBlock.toList) w w') (hw : RefW w' (s.B (2 + k)) V' bs') (hL : Lies w (s.V (2 + k)) V') :
    Stt W w' A { s with V := upd s.V (2 + k) V', bs := upd s.bs k bs' } m X := by
  rcases two_of hk2 with rfl | rfl
  · refine h.step (ks := s.B 2 :: (s.V 2).ownBlock.toList) 2 (by omega) hk (fun x hx => .inl hx) hw (lies_F hL) (fun j hj hji => ?_)
    rcases nine_of hj with rfl | rfl | rfl | rfl | rfl | rfl | rfl | rfl | rfl <;> first | (exact absurd rfl hji) | rfl
  · refine h.step (ks := s.B 3 :: (s.V 3).ownBlock.toList) 3 (by omega) hk (fun x hx => .inl hx) hw (lies_F hL) (fun j hj hji => ?_)
    rcases nine_of hj with rfl | rfl | rfl | rfl | rfl | rfl | rfl | rfl | rfl <;> first | (exact absurd rfl hji) | rfl

theorem Stt.setR (h : Stt W w A s m X) (k : Nat) (hk2 : k < 2) {t' : Nat} (hk : Kept [s.B (4 + k)] w w') (hw : ReaderAt w' (s.B (4 + k)) (s.g k) (s.l k) t') :
    Stt W w' A { s with t := upd s.t k t' } m X := by
  rcases two_of hk2 with rfl | rfl
  · refine h.step (ks := [s.B 4]) 4 (by omega) hk (fun x hx => .inl (by simp at hx; subst hx; simp [St.rsc, rdr])) hw (fun x hx => .inl hx) (fun j hj hji => ?_)
    rcases nine_of hj with rfl | rfl | rfl | rfl | rfl | rfl | rfl | rfl | rfl <;> first | (exact absurd rfl hji) | rfl
  · refine h.step (ks := [s.B 5]) 5 (by omega) hk (fun x hx => .inl (by simp at hx; subst hx; simp [St.rsc, rdr])) hw (fun x hx => .inl hx) (fun j hj hji => ?_)
    rcases nine_of hj with rfl | rfl | rfl | rfl | rfl | rfl | rfl | rfl | rfl <;> first | (exact absurd rfl hji) | rfl

theorem Stt.setY (h : Stt W w A s m X) (k : Nat) (hk2 : k < 2) {t' : Nat} (hk : Kept [s.B (6 + k)] w w') (hw : RefR w' (s.B (6 + k)) (s.V (6 + k)) (s.l2 k) t') :
    Stt W w' A { s with t2 := upd s.t2 k t' } m X := by
  rcases two_of hk2 with rfl | rfl
  · refine h.step (ks := [s.B 6]) 6 (by omega) hk (fun x hx => .inl (by simp at hx; subst hx; simp [St.rsc, rfr])) hw (fun x hx => .inl hx) (fun j hj hji => ?_)
    rcases nine_of hj with rfl | rfl | rfl | rfl | rfl | rfl | rfl | rfl | rfl <;> first | (exact absurd rfl hji) | rfl
  · refine h.step (ks := [s.B 7]) 7 (by omega) hk (fun x hx => .inl (by simp at hx; subst hx; simp [St.rsc, rfr])) hw (fun x hx => .inl hx) (fun j hj hji => ?_)
    rcases nine_of hj with rfl | rfl | rfl | rfl | rfl | rfl | rfl | rfl | rfl <;> first | (exact absurd rfl hji) | rfl

/-- The book is changed. -/
theorem Stt.setB (h : Stt W w A s m X) {ks : List Nat} {n : Nat} {vl vw : Value} {LV LU : Nat → Value} {ls : Nat → List Nat} (hk : Kept ks w w') (hks : ∀ x ∈ ks, x ∈ bookF A s.n s.vl s.vw s.LV s.LU ∨ w.heap.size ≤ x)
    (hb : Wd.Bks w' A s.p n vl vw LV LU ls) (hF : ∀ x ∈ bookF A n vl vw LV LU, x ∈ bookF A s.n s.vl s.vw s.LV s.LU ∨ w.heap.size ≤ x) :
    Stt W w' A { s with n := n, vl := vl, vw := vw, LV := LV, LU := LU, ls := ls } m X := by
  refine h.step (ks := ks) 8 (by omega) hk hks hb hF (fun j hj hji => ?_)
  rcases nine_of hj with rfl | rfl | rfl | rfl | rfl | rfl | rfl | rfl | rfl <;> first | (exact absurd rfl hji) | rfl

/-- A pointer of the World is set. -/
theorem Wd.Bks.set {n : Nat} {p : Nat → Value} {vl vw : Value} {V U : Nat → Value} {ls : Nat → List Nat} (h : Wd.Bks w A p n vl vw V U ls) (i : Nat) (hi : i < 8) (x : Value) :
    Wd.Bks (w.setCell ⟨A, i, none⟩ x) A (upd p i x) n vl vw V U ls := by
  have hk : Kept [A] w (w.setCell ⟨A, i, none⟩ x) := (Kept.refl _ _).setCell (p := ⟨A, i, none⟩) (by simp) x
  have h5 : ∀ g cs, w.heap[g]? = some (.cells cs 5 (0, 0)) → g ∉ [A] := fun g cs hg hm => by
    simp at hm; subst hm; have hb := h.box; rw [hg] at hb; simp at hb
  refine ⟨?_, hk.row h.l (fun g hg hm => by simp at hm; subst hm; exact own_ne2 h.box (by decide) h.l hg), hk.row h.was (fun g hg hm => by simp at hm; subst hm; exact own_ne2 h.box (by decide) h.was hg), h.zero, h.sep,
    fun j hj => (h.v j hj).kept hk (fun g hg => ?_), fun j hj => hk.row (h.u j hj) (fun g hg hm => by simp at hm; subst hm; exact own_ne2 h.box (by decide) (h.u j hj) hg), h.apart⟩
  · rw [heap_setCell_at h.box]
    rcases (by omega : i = 0 ∨ i = 1 ∨ i = 2 ∨ i = 3 ∨ i = 4 ∨ i = 5 ∨ i = 6 ∨ i = 7) with rfl | rfl | rfl | rfl | rfl | rfl | rfl | rfl <;> simp [upd]
  · obtain ⟨cs, hcs⟩ := (h.v j hj).own hg
    exact h5 g cs hcs

theorem St.p_upd (s : St) (i B : Nat) : upd s.p i (.pointer (some ⟨B, 0, none⟩)) = { s with B := upd s.B i B }.p := by
  funext j
  by_cases e : j = i
  · subst e; simp [upd, St.p]
  · simp [upd, St.p, e]

theorem heap_setKept (w : World) (A i : Nat) (x : Value) : Kept [A] w (w.setCell ⟨A, i, none⟩ x) := (Kept.refl _ _).setCell (p := ⟨A, i, none⟩) (by simp) x
end
end Go.Proofs.Ytoghkbajdljheaa
