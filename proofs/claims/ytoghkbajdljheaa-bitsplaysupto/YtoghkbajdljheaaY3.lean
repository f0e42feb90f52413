import Derived.Test.YtoghkbajdljheaaY2
namespace Go.Proofs.Ytoghkbajdljheaa
open Go.RowKit

section
variable {W w w1 w' : World} {A m : Nat} {s : St} {X X' : Nat → Rsc}

theorem Stt.cell (h : Stt W w A s m X) (i : Nat) (hi : i < 8) : w.cell? ⟨A, i, none⟩ = some (.pointer (some ⟨s.B i, 0, none⟩)) ∧ w.frozen? ⟨A, i, none⟩ = false := by
  have hb := h.bk.box
  rcases (by omega : i = 0 ∨ i = 1 ∨ i = 2 ∨ i = 3 ∨ i = 4 ∨ i = 5 ∨ i = 6 ∨ i = 7) with rfl | rfl | rfl | rfl | rfl | rfl | rfl | rfl <;> · refine ⟨?_, ?_⟩ <;> simp [World.cell?, World.frozen?, hb, St.p]

theorem Stt.A_lt (h : Stt W w A s m X) : A < w.heap.size := lt_of_block h.bk.box

theorem Stt.congrX (h : Stt W w A s m X) (he : ∀ i, i < m → X' i = X i) : Stt W w A s m X' :=
  Sep.congr h (fun i hi => by
    by_cases h9 : i < 9
    · simp [St.all, h9]
    · simp [St.all, h9, he (i - 9) (by omega)])

theorem Stt.pop (h : Stt W w A s (m + 1) X) : Stt W w A s m X := Sep.less h (by omega)

theorem Stt.push (h : Stt W w A s m X) {r : Rsc} (hk : Kept [] w w') (hr : r.P w') (hF : ∀ x ∈ r.F, w.heap.size ≤ x) : Stt W w' A s (m + 1) (upd X m r) := by
  have h3 : Sep W w' (9 + m + 1) (upd (s.all A X) (9 + m) r) := Sep.push h hk hr hF
  exact Sep.congr (m := 9 + m + 1) h3 (fun i hi => by
    by_cases h9 : i < 9
    · rw [upd_far _ _ _ _ (by omega)]; simp [St.all, h9]
    · by_cases e : i = 9 + m
      · subst e
        have h2 : ¬ 9 + m < 9 := by omega
        rw [upd_at]; simp [St.all, h2, upd]
      · rw [upd_far _ _ _ _ e]
        have e2 : i - 9 ≠ m := by omega
        simp [St.all, h9, upd, e2])

theorem Stt.setE (h : Stt W w A s m X) (i : Nat) (hi : i < m) {ks : List Nat} {r : Rsc} (hk : Kept ks w w') (hks : ∀ x ∈ ks, x ∈ (X i).F) (hr : r.P w') (hF : ∀ x ∈ r.F, x ∈ (X i).F) : Stt W w' A s m (upd X i r) := by
  have h2 : ¬ 9 + i < 9 := by omega
  have e0 : s.all A X (9 + i) = X i := by simp [St.all, h2]
  refine (Sep.step (r := r) h (9 + i) (by omega) hk (by rw [e0]; exact fun x hx => .inl (hks x hx)) hr (by rw [e0]; exact fun x hx => .inl (hF x hx))).congr (fun j hj => ?_)
  by_cases h9 : j < 9
  · rw [upd_far _ _ _ _ (by omega)]; simp [St.all, h9]
  · by_cases e : j = 9 + i
    · subst e; rw [upd_at]; simp [St.all, h2, upd]
    · rw [upd_far _ _ _ _ e]
      have e2 : j - 9 ≠ i := by omega
      simp [St.all, h9, upd, e2]

/-- A pointer of the World is set to a new thing. -/
theorem Stt.newP (h : Stt W w A s m X) (i B : Nat) (hi : i < 8) (s' : St) (hk : Kept [] w w1) (hr : (s'.rsc A i).P w1) (hF : ∀ x ∈ (s'.rsc A i).F, w.heap.size ≤ x) (hB : s'.B = upd s.B i B)
    (he : ∀ j, j < 8 → j ≠ i → s'.rsc A j = s.rsc A j) (h8 : s'.rsc A 8 = bok A s'.p s.n s.vl s.vw s.LV s.LU s.ls) :
    Stt W (w1.setCell ⟨A, i, none⟩ (.pointer (some ⟨B, 0, none⟩))) A s' m X := by
  have e0 : s.all A X i = s.rsc A i := by simp [St.all]; omega
  have h1 := Sep.step (r := s'.rsc A i) h i (by omega) hk (by simp) hr (fun x hx => .inr (hF x hx))
  have e8 : (upd (s.all A X) i (s'.rsc A i)) 8 = bok A s.p s.n s.vl s.vw s.LV s.LU s.ls := by
    rw [upd_far _ _ _ _ (by omega)]; rfl
  have hb := h1.P 8 (by omega)
  rw [e8] at hb
  have hp : s'.p = upd s.p i (.pointer (some ⟨B, 0, none⟩)) := by rw [St.p_upd]; unfold St.p; rw [hB]
  have hb2 : (s'.rsc A 8).P (w1.setCell ⟨A, i, none⟩ (.pointer (some ⟨B, 0, none⟩))) := by
    rw [h8, hp]
    exact Wd.Bks.set hb i hi _
  refine (Sep.step (r := s'.rsc A 8) h1 8 (by omega) (heap_setKept w1 A i _) ?_ hb2 ?_).congr (fun j hj => ?_)
  · rw [e8]
    intro x hx
    simp at hx
    subst hx
    exact .inl (mem_bookF.2 (.inl rfl))
  · rw [e8, h8]
    exact fun x hx => .inl hx
  · by_cases h9 : j < 9
    · by_cases e : j = 8
      · subst e; rw [upd_at]; rfl
      · rw [upd_far _ _ _ _ e]
        by_cases e2 : j = i
        · subst e2; rw [upd_at]; simp [St.all, h9]
        · rw [upd_far _ _ _ _ e2]; simp [St.all, h9, he j (by omega) e2]
    · rw [upd_far _ _ _ _ (by omega), upd_far _ _ _ _ (by omega)]; simp [St.all, h9]

theorem Stt.newR (h : Stt W w A s m X) (k : Nat) (hk2 : k < 2) {B g : Nat} {l : List Nat} (hk : Kept [] w w1) (hr : ReaderAt w1 B g l 0) (hB : w.heap.size ≤ B) (hg : w.heap.size ≤ g) :
    Stt W (w1.setCell ⟨A, 4 + k, none⟩ (.pointer (some ⟨B, 0, none⟩))) A { s with B := upd s.B (4 + k) B, g := upd s.g k g, l := upd s.l k l, t := upd s.t k 0 } m X := by
  rcases two_of hk2 with rfl | rfl
  · refine h.newP 4 B (by omega) _ hk hr (fun x hx => ?_) rfl (fun j hj hji => ?_) rfl
    · have hx' : x ∈ [B, g] := hx
      simp at hx'; omega
    · rcases nine_of (by omega : j < 9) with rfl | rfl | rfl | rfl | rfl | rfl | rfl | rfl | rfl <;> first | (exact absurd rfl hji) | rfl | omega
  · refine h.newP 5 B (by omega) _ hk hr (fun x hx => ?_) rfl (fun j hj hji => ?_) rfl
    · have hx' : x ∈ [B, g] := hx
      simp at hx'; omega
    · rcases nine_of (by omega : j < 9) with rfl | rfl | rfl | rfl | rfl | rfl | rfl | rfl | rfl <;> first | (exact absurd rfl hji) | rfl | omega

theorem Stt.newY (h : Stt W w A s m X) (k : Nat) (hk2 : k < 2) {B : Nat} {V : Value} {l : List Nat} (hk : Kept [] w w1) (hr : RefR w1 B V l 0) (hB : w.heap.size ≤ B) (hL : Lies w (.slice none 0 0) V) :
    Stt W (w1.setCell ⟨A, 6 + k, none⟩ (.pointer (some ⟨B, 0, none⟩))) A { s with B := upd s.B (6 + k) B, V := upd s.V (6 + k) V, l2 := upd s.l2 k l, t2 := upd s.t2 k 0 } m X := by
  have hnew : ∀ x ∈ B :: V.ownBlock.toList, w.heap.size ≤ x := fun x hx => by
    rcases List.mem_cons.1 hx with rfl | hx
    · exact hB
    · rcases hL.mem x hx with h | h
      · simp [Value.ownBlock] at h
      · exact h
  rcases two_of hk2 with rfl | rfl
  · refine h.newP 6 B (by omega) _ hk hr hnew rfl (fun j hj hji => ?_) rfl
    rcases nine_of (by omega : j < 9) with rfl | rfl | rfl | rfl | rfl | rfl | rfl | rfl | rfl <;> first | (exact absurd rfl hji) | rfl | omega
  · refine h.newP 7 B (by omega) _ hk hr hnew rfl (fun j hj hji => ?_) rfl
    rcases nine_of (by omega : j < 9) with rfl | rfl | rfl | rfl | rfl | rfl | rfl | rfl | rfl <;> first | (exact absurd rfl hji) | rfl | omega
end
end Go.Proofs.Ytoghkbajdljheaa
