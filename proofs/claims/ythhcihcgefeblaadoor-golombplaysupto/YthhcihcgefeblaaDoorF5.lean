import Derived.Test.YthhcihcgefeblaaDoorF4
namespace Go.Proofs.YthhcihcgefeblaaDoor
open Go.RowKit

/-- A thing of kind k changed. -/
def Wo.upd (s : Wo) (k i : Nat) (V : Value) (N len t r : Nat) : Wo :=
  { s with V := upd2 s.V k i V, N := upd2 s.N k i N, len := upd2 s.len k i len, t := upd2 s.t k i t, r := upd2 s.r k i r }

theorem Wo.upd_R (s : Wo) (A k i : Nat) (V : Value) (N len t r : Nat) (_hk : k < 6) (j : Nat × Nat) (h : j ≠ (k, i)) : (s.upd k i V N len t r).R A j = s.R A j := by
  obtain ⟨a, b⟩ := j
  have hne : ¬ (a = k ∧ b = i) := fun ⟨e1, e2⟩ => h (by rw [e1, e2])
  rcases (by omega : a = 0 ∨ a = 1 ∨ a = 2 ∨ a = 3 ∨ a = 4 ∨ a = 5 ∨ a = 6 ∨ a = 7 ∨ 7 < a) with rfl | rfl | rfl | rfl | rfl | rfl | rfl | rfl | ha
  · simp only [Wo.R, Wo.upd, upd2_far _ _ _ _ _ _ hne]
  · simp only [Wo.R, Wo.upd, upd2_far _ _ _ _ _ _ hne]
  · simp only [Wo.R, Wo.upd, upd2_far _ _ _ _ _ _ hne]
  · simp only [Wo.R, Wo.upd, upd2_far _ _ _ _ _ _ hne]
  · simp only [Wo.R, Wo.upd, upd2_far _ _ _ _ _ _ hne]
  · simp only [Wo.R, Wo.upd, upd2_far _ _ _ _ _ _ hne]
  · rfl
  · rfl
  · unfold Wo.R
    split <;> first | omega | (simp at *; omega) | rfl

section
variable {W w w' : World} {A : Nat} {s : Wo}

theorem At.setW (h : At W w A s) (i : Nat) (hi : i < s.c 0) {V' : Value} {N' len' t r : Nat} (hk : Kept (s.B 0 i :: (s.V 0 i).ownBlock.toList) w w') (hw : WriterAt w' (s.B 0 i) V' N' len') (hL : Lies w (s.V 0 i) V') : At W w' A (s.upd 0 i V' N' len' t r) := by
  refine h.step (0, i) (s.D_thing 0 i (by omega) hi) hk (fun x hx => .inl hx) ?_ ?_ (fun j hj => hj) (fun j _ hne => s.upd_R A 0 i _ _ _ _ _ (by omega) j hne)
  · show WriterAt w' _ _ _ _
    simp only [Wo.upd, upd2_at]; exact hw
  · show ∀ x ∈ s.B 0 i :: (upd2 s.V 0 i V' 0 i).ownBlock.toList, _
    rw [upd2_at]; exact lies_F hL

theorem At.setX (h : At W w A s) (i : Nat) (hi : i < s.c 1) {V' : Value} {N' len' t r : Nat} (hk : Kept (s.B 1 i :: (s.V 1 i).ownBlock.toList) w w') (hw : RefW w' (s.B 1 i) V' (bin len' N')) (hL : Lies w (s.V 1 i) V') : At W w' A (s.upd 1 i V' N' len' t r) := by
  refine h.step (1, i) (s.D_thing 1 i (by omega) hi) hk (fun x hx => .inl hx) ?_ ?_ (fun j hj => hj) (fun j _ hne => s.upd_R A 1 i _ _ _ _ _ (by omega) j hne)
  · show RefW w' _ _ _
    simp only [Wo.upd, upd2_at]; exact hw
  · show ∀ x ∈ s.B 1 i :: (upd2 s.V 1 i V' 1 i).ownBlock.toList, _
    rw [upd2_at]; exact lies_F hL

theorem At.setR (h : At W w A s) (i : Nat) (hi : i < s.c 2) {V : Value} {N len t' r : Nat} (hk : Kept [s.B 2 i] w w') (hw : ReaderAt w' (s.B 2 i) (s.g i) (s.l 2 i) t') : At W w' A (s.upd 2 i V N len t' r) := by
  refine h.step (2, i) (s.D_thing 2 i (by omega) hi) hk (fun x hx => .inl (by simp at hx; subst hx; show _ ∈ [_, _]; simp)) ?_ (fun x hx => .inl hx) (fun j hj => hj) (fun j _ hne => s.upd_R A 2 i _ _ _ _ _ (by omega) j hne)
  show ReaderAt w' _ _ _ _
  simp only [Wo.upd, upd2_at]; exact hw

theorem At.setY (h : At W w A s) (i : Nat) (hi : i < s.c 3) {N len t' r : Nat} (hk : Kept [s.B 3 i] w w') (hw : RefR w' (s.B 3 i) (s.V 3 i) (s.l 3 i) t') (ht : t' ≤ 8 * (s.l 3 i).length) : At W w' A (s.upd 3 i (s.V 3 i) N len t' r) := by
  refine h.step (3, i) (s.D_thing 3 i (by omega) hi) hk (fun x hx => .inl (by simp at hx; subst hx; show _ ∈ _ :: _; simp)) ?_ ?_ (fun j hj => hj) (fun j _ hne => s.upd_R A 3 i _ _ _ _ _ (by omega) j hne)
  · show RefR w' _ _ _ _ ∧ _
    simp only [Wo.upd, upd2_at]; exact ⟨hw, ht⟩
  · show ∀ x ∈ s.B 3 i :: (upd2 s.V 3 i (s.V 3 i) 3 i).ownBlock.toList, _
    rw [upd2_at]; exact fun x hx => .inl hx

theorem upd_two (s : Wo) (A k i k' i' : Nat) (V V' : Value) (N len t r N' len' t' r' : Nat) (hk : k < 6) (hk' : k' < 6) (j : Nat × Nat) (h1 : j ≠ (k, i)) (h2 : j ≠ (k', i')) : ((s.upd k i V N len t r).upd k' i' V' N' len' t' r').R A j = s.R A j := by
  rw [Wo.upd_R _ _ _ _ _ _ _ _ _ hk' j h2, Wo.upd_R _ _ _ _ _ _ _ _ _ hk j h1]

/-- A run is put: a writer and a coder. -/
theorem At.setWC (h : At W w A s) (i c : Nat) (hi : i < s.c 0) (hc : c < s.c 4) {V' V'' : Value} {N' len' t r N2 len2 t2 r' : Nat} (hk : Kept (s.B 4 c :: s.B 0 i :: (s.V 0 i).ownBlock.toList) w w') (hw : WriterAt w' (s.B 0 i) V' N' len') (hx : CoderAt w' (s.B 4 c) r') (hL : Lies w (s.V 0 i) V') :
    At W w' A ((s.upd 0 i V' N' len' t r).upd 4 c V'' N2 len2 t2 r') := by
  have e0 : ((s.upd 0 i V' N' len' t r).upd 4 c V'' N2 len2 t2 r').R A (0, i) = wtr (s.B 0 i) V' N' len' := by
    rw [Wo.upd_R _ _ _ _ _ _ _ _ _ (by omega) _ (by simp)]
    simp only [Wo.R, Wo.upd, upd2_at]
  have e4 : ((s.upd 0 i V' N' len' t r).upd 4 c V'' N2 len2 t2 r').R A (4, c) = cdr (s.B 4 c) r' := by
    simp only [Wo.R, Wo.upd, upd2_at]
  refine h.step2 (0, i) (4, c) (s.D_thing 0 i (by omega) hi) (s.D_thing 4 c (by omega) hc) hk (fun x hx => ?_) (by rw [e0]; exact hw) (by rw [e0]; exact lies_F hL) (by rw [e4]; exact hx) (by rw [e4]; rfl) (fun j hj => hj) (fun j _ h1 h2 => upd_two s A 0 i 4 c _ _ _ _ _ _ _ _ _ _ (by omega) (by omega) j h1 h2)
  rcases List.mem_cons.1 hx with hx | hx
  · exact .inr (.inl (by rw [hx]; show _ ∈ [_]; simp))
  · exact .inl hx

theorem At.setXC (h : At W w A s) (i c : Nat) (hi : i < s.c 1) (hc : c < s.c 5) {V' V'' : Value} {N' len' t r N2 len2 t2 r' : Nat} (hk : Kept (s.B 5 c :: s.B 1 i :: (s.V 1 i).ownBlock.toList) w w') (hw : RefW w' (s.B 1 i) V' (bin len' N')) (hx : RefX w' (s.B 5 c) r') (hL : Lies w (s.V 1 i) V') :
    At W w' A ((s.upd 1 i V' N' len' t r).upd 5 c V'' N2 len2 t2 r') := by
  have e0 : ((s.upd 1 i V' N' len' t r).upd 5 c V'' N2 len2 t2 r').R A (1, i) = rfw (s.B 1 i) V' (bin len' N') := by
    rw [Wo.upd_R _ _ _ _ _ _ _ _ _ (by omega) _ (by simp)]
    simp only [Wo.R, Wo.upd, upd2_at]
  have e4 : ((s.upd 1 i V' N' len' t r).upd 5 c V'' N2 len2 t2 r').R A (5, c) = rcx (s.B 5 c) r' := by
    simp only [Wo.R, Wo.upd, upd2_at]
  refine h.step2 (1, i) (5, c) (s.D_thing 1 i (by omega) hi) (s.D_thing 5 c (by omega) hc) hk (fun x hx => ?_) (by rw [e0]; exact hw) (by rw [e0]; exact lies_F hL) (by rw [e4]; exact hx) (by rw [e4]; rfl) (fun j hj => hj) (fun j _ h1 h2 => upd_two s A 1 i 5 c _ _ _ _ _ _ _ _ _ _ (by omega) (by omega) j h1 h2)
  rcases List.mem_cons.1 hx with hx | hx
  · exact .inr (.inl (by rw [hx]; show _ ∈ [_]; simp))
  · exact .inl hx

/-- A run is taken: a reader and a coder. -/
theorem At.setRC (h : At W w A s) (i c : Nat) (hi : i < s.c 2) (hc : c < s.c 4) {V' V'' : Value} {N' len' t' r N2 len2 t2 r' : Nat} (hk : Kept [s.B 4 c, s.B 2 i] w w') (hw : ReaderAt w' (s.B 2 i) (s.g i) (s.l 2 i) t') (hx : CoderAt w' (s.B 4 c) r') :
    At W w' A ((s.upd 2 i V' N' len' t' r).upd 4 c V'' N2 len2 t2 r') := by
  have e0 : ((s.upd 2 i V' N' len' t' r).upd 4 c V'' N2 len2 t2 r').R A (2, i) = rdr (s.B 2 i) (s.g i) (s.l 2 i) t' := by
    rw [Wo.upd_R _ _ _ _ _ _ _ _ _ (by omega) _ (by simp)]
    simp only [Wo.R, Wo.upd, upd2_at]
  have e4 : ((s.upd 2 i V' N' len' t' r).upd 4 c V'' N2 len2 t2 r').R A (4, c) = cdr (s.B 4 c) r' := by
    simp only [Wo.R, Wo.upd, upd2_at]
  refine h.step2 (2, i) (4, c) (s.D_thing 2 i (by omega) hi) (s.D_thing 4 c (by omega) hc) hk (fun x hx => ?_) (by rw [e0]; exact hw) (by rw [e0]; exact fun x hx => .inl hx) (by rw [e4]; exact hx) (by rw [e4]; rfl) (fun j hj => hj) (fun j _ h1 h2 => upd_two s A 2 i 4 c _ _ _ _ _ _ _ _ _ _ (by omega) (by omega) j h1 h2)
  simp at hx
  rcases hx with hx | hx
  · exact .inr (.inl (by rw [hx]; show _ ∈ [_]; simp))
  · exact .inl (by rw [hx]; show _ ∈ [_, _]; simp)

theorem At.setYC (h : At W w A s) (i c : Nat) (hi : i < s.c 3) (hc : c < s.c 5) {V'' : Value} {N' len' t' r N2 len2 t2 r' : Nat} (hk : Kept [s.B 3 i, s.B 5 c] w w') (hw : RefR w' (s.B 3 i) (s.V 3 i) (s.l 3 i) t') (ht : t' ≤ 8 * (s.l 3 i).length) (hx : RefX w' (s.B 5 c) r') :
    At W w' A ((s.upd 3 i (s.V 3 i) N' len' t' r).upd 5 c V'' N2 len2 t2 r') := by
  have e0 : ((s.upd 3 i (s.V 3 i) N' len' t' r).upd 5 c V'' N2 len2 t2 r').R A (3, i) = rfr (s.B 3 i) (s.V 3 i) (s.l 3 i) t' := by
    rw [Wo.upd_R _ _ _ _ _ _ _ _ _ (by omega) _ (by simp)]
    simp only [Wo.R, Wo.upd, upd2_at]
  have e4 : ((s.upd 3 i (s.V 3 i) N' len' t' r).upd 5 c V'' N2 len2 t2 r').R A (5, c) = rcx (s.B 5 c) r' := by
    simp only [Wo.R, Wo.upd, upd2_at]
  refine h.step2 (3, i) (5, c) (s.D_thing 3 i (by omega) hi) (s.D_thing 5 c (by omega) hc) hk (fun x hx => ?_) (by rw [e0]; exact ⟨hw, ht⟩) (by rw [e0]; exact fun x hx => .inl hx) (by rw [e4]; exact hx) (by rw [e4]; rfl) (fun j hj => hj) (fun j _ h1 h2 => upd_two s A 3 i 5 c _ _ _ _ _ _ _ _ _ _ (by omega) (by omega) j h1 h2)
  simp at hx
  rcases hx with hx | hx
  · exact .inl (by rw [hx]; show _ ∈ _ :: _; simp)
  · exact .inr (.inl (by rw [hx]; show _ ∈ [_]; simp))
end

theorem alike_upd {s : Wo} (ha : Alike s) (p i : Nat) (hp : p = 0 ∨ p = 2 ∨ p = 4) (V V' : Value) (N len t r : Nat) : Alike ((s.upd p i V N len t r).upd (p + 1) i V' N len t r) := by
  rcases hp with rfl | rfl | rfl
  all_goals
    refine ⟨ha.c01, ha.c23, ha.c45, fun j => ?_, fun j => ?_, ha.l, fun j => ?_, fun j => ?_⟩
    all_goals
      by_cases e : j = i
      · subst e; first | (simp [Wo.upd, upd2]; done) | (simp [Wo.upd, upd2]; first | exact ha.N j | exact ha.len j | exact ha.t j | exact ha.r j)
      · simp [Wo.upd, upd2, e]; first | exact ha.N j | exact ha.len j | exact ha.t j | exact ha.r j

theorem upd_swap (s : Wo) (k i k' i' : Nat) (V V' : Value) (N len t r N' len' t' r' : Nat) (h : k ≠ k') : (s.upd k i V N len t r).upd k' i' V' N' len' t' r' = (s.upd k' i' V' N' len' t' r').upd k i V N len t r := by
  have key : ∀ {α : Type} (f : Nat → Nat → α) (a b : α), upd2 (upd2 f k i a) k' i' b = upd2 (upd2 f k' i' b) k i a := fun f a b => by
    funext x y
    simp only [upd2]
    by_cases e1 : x = k' ∧ y = i'
    · simp [e1]
      intro h1 h2
      exact absurd h1.symm h
    · simp [e1]
  simp only [Wo.upd, key]
end Go.Proofs.YthhcihcgefeblaaDoor
