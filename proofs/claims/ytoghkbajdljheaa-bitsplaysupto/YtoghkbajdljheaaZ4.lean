import Derived.Test.YtoghkbajdljheaaZ3
namespace Go.Proofs.Ytoghkbajdljheaa
open Go.RowKit

def nul : Rsc where
  P := fun _ => True
  F := []
  lt := fun {w x} _ hx => by simp at hx
  keep := fun {w w' ks} _ _ _ => trivial

/-- One of them is changed, and takes another one in. -/
theorem Sep.merge {W w w' : World} {m : Nat} {R : Nat → Rsc} {ks : List Nat} {r : Rsc} (h : Sep W w m R) (i j : Nat) (hi : i < m) (hj : j < m) (hij : i ≠ j) (hk : Kept ks w w') (hks : ∀ x ∈ ks, x ∈ (R i).F ∨ w.heap.size ≤ x) (hr : r.P w')
    (hF : ∀ x ∈ r.F, x ∈ (R i).F ∨ x ∈ (R j).F ∨ w.heap.size ≤ x) : Sep W w' m (upd (upd R i r) j nul) := by
  have hs := h.old.size
  have hn : ∀ x, (x ∈ (R i).F ∨ x ∈ (R j).F ∨ w.heap.size ≤ x) → W.heap.size ≤ x := fun x hx => by
    rcases hx with hx | hx | hx
    · exact h.new i hi x hx
    · exact h.new j hj x hx
    · omega
  have hfar : ∀ k, k < m → k ≠ i → k ≠ j → ∀ x ∈ (R k).F, ¬ (x ∈ (R i).F ∨ x ∈ (R j).F ∨ w.heap.size ≤ x) := fun k hk hki hkj x hx hx2 => by
    rcases hx2 with hx2 | hx2 | hx2
    · exact h.apart k i hk hi hki x hx hx2
    · exact h.apart k j hk hj hkj x hx hx2
    · have := (R k).lt (h.P k hk) hx; omega
  have hks2 : ∀ x ∈ ks, x ∈ (R i).F ∨ x ∈ (R j).F ∨ w.heap.size ≤ x := fun x hx => by
    rcases hks x hx with h | h
    · exact .inl h
    · exact .inr (.inr h)
  have hFs : ∀ k, k < m → ∀ x ∈ (upd (upd R i r) j nul k).F, (k = i ∧ x ∈ r.F) ∨ (k ≠ i ∧ k ≠ j ∧ x ∈ (R k).F) := fun k hk x hx => by
    by_cases e : k = j
    · subst e; rw [upd_at] at hx; simp [nul] at hx
    · rw [upd_far _ _ _ _ e] at hx
      by_cases e2 : k = i
      · subst e2; rw [upd_at] at hx; exact .inl ⟨rfl, hx⟩
      · rw [upd_far _ _ _ _ e2] at hx; exact .inr ⟨e2, e, hx⟩
  refine ⟨h.old.step hk (fun x hx => .inr (hn x (hks2 x hx))), fun k hk' => ?_, fun k hk' x hx => ?_, fun a b ha hb hab x hx hx2 => ?_⟩
  · by_cases e : k = j
    · subst e; rw [upd_at]; trivial
    · rw [upd_far _ _ _ _ e]
      by_cases e2 : k = i
      · subst e2; rw [upd_at]; exact hr
      · rw [upd_far _ _ _ _ e2]
        exact (R k).keep (h.P k hk') hk (fun x hx hx2 => hfar k hk' e2 e x hx (hks2 x hx2))
  · rcases hFs k hk' x hx with ⟨_, h1⟩ | ⟨_, _, h1⟩
    · exact hn x (hF x h1)
    · exact h.new k hk' x h1
  · rcases hFs a ha x hx with ⟨ea, h1⟩ | ⟨ea, ea2, h1⟩
    · rcases hFs b hb x hx2 with ⟨eb, h2⟩ | ⟨eb, eb2, h2⟩
      · omega
      · exact hfar b hb eb eb2 x h2 (hF x h1)
    · rcases hFs b hb x hx2 with ⟨eb, h2⟩ | ⟨eb, eb2, h2⟩
      · exact hfar a ha ea ea2 x h1 (hF x h2)
      · exact h.apart a b ha hb hab x h1 h2

theorem Stt.take {W w w' : World} {A m : Nat} {s : St} {X : Nat → Rsc} (h : Stt W w A s m X) (j : Nat) (hj : j < m) {ks : List Nat} {n : Nat} {vl vw : Value} {LV LU : Nat → Value} {ls : Nat → List Nat} (hk : Kept ks w w') (hks : ∀ x ∈ ks, x ∈ bookF A s.n s.vl s.vw s.LV s.LU ∨ w.heap.size ≤ x)
    (hb : Wd.Bks w' A s.p n vl vw LV LU ls) (hF : ∀ x ∈ bookF A n vl vw LV LU, x ∈ bookF A s.n s.vl s.vw s.LV s.LU ∨ x ∈ (X j).F ∨ w.heap.size ≤ x) :
    Stt W w' A { s with n := n, vl := vl, vw := vw, LV := LV, LU := LU, ls := ls } m (upd X j nul) := by
  have h2 : ¬ 9 + j < 9 := by omega
  have e8 : s.all A X 8 = bok A s.p s.n s.vl s.vw s.LV s.LU s.ls := rfl
  have ej : s.all A X (9 + j) = X j := by simp [St.all, h2]
  refine (Sep.merge (r := bok A s.p n vl vw LV LU ls) h 8 (9 + j) (by omega) (by omega) (by omega) hk (by rw [e8]; exact hks) hb (by rw [e8, ej]; exact hF)).congr (fun i hi => ?_)
  by_cases h9 : i < 9
  · rw [upd_far _ _ _ _ (by omega)]
    by_cases e : i = 8
    · subst e; rfl
    · rw [upd_far _ _ _ _ e]
      rcases nine_of h9 with rfl | rfl | rfl | rfl | rfl | rfl | rfl | rfl | rfl <;> first | rfl | (exact absurd rfl e)
  · by_cases e : i = 9 + j
    · subst e; rw [upd_at]; simp [St.all, h2, upd]
    · rw [upd_far _ _ _ _ e, upd_far _ _ _ _ (by omega)]
      have e2 : i - 9 ≠ j := by omega
      simp [St.all, h9, upd, e2]

/-- Keep, over the World. -/
theorem keep_stt (W w : World) (A : Nat) (s : St) (m : Nat) (X : Nat → Rsc) (j g M : Nat) (L : List Nat) (h : Stt W w A s m X) (hj : j < m) (hX : X j = obj g (.cells (L.map byt).toArray 5 (0, 0))) (hM : L.length = M) (hMb : M ≤ 10000000) (hn : s.n ≤ 1000000) :
    Calls Try.prog 17 #[.pointer (some ⟨A, 8, none⟩), .slice (some ⟨g, 0, none⟩) M M] w fun e w' => e = .returned (.tuple #[]) ∧
      ∃ vl vw LV LU, Stt W w' A { s with n := s.n + 1, vl := vl, vw := vw, LV := LV, LU := LU, ls := upd s.ls s.n L } m (upd X j nul) := by
  have hg := h.ex j hj
  rw [hX] at hg
  have hv : Lst w (.slice (some ⟨g, 0, none⟩) M M) L := .inr ⟨g, by rw [hM], hg⟩
  have hb := h.bk
  have h2 : ¬ 9 + j < 9 := by omega
  have ej : s.all A X (9 + j) = X j := by simp [St.all, h2]
  have hap : ∀ i, i < s.n → ∀ x, (s.LV i).ownBlock = some x → (Value.slice (some ⟨g, 0, none⟩) M M).ownBlock ≠ some x := fun i hi x hx hx2 => by
    have hxg : g = x := by simpa [Value.ownBlock] using hx2
    subst hxg
    refine h.apart 8 (9 + j) (by omega) (by omega) (by omega) g ?_ (by rw [ej, hX]; simp [obj])
    exact mem_bookF.2 (.inr (.inr (.inr (.inl ⟨i, hi, hx⟩))))
  refine (Wd.keep_any A s.vl s.vw _ s.n _ _ L w hb.box hb.l hb.was hb.sep hv (by omega) (by omega)).mono ?_
  rintro e w' ⟨rfl, vl', vw', u, h1, h3, h4, h5, hun, h6, h7, h8, h9⟩
  refine ⟨rfl, vl', vw', upd s.LV s.n _, upd s.LU s.n u, h.take j hj h9 (fun x hx => .inl ?_) (hb.step hv hap h1 h3 h4 h5 h8 h9) (fun x hx => ?_)⟩
  · simp only [List.mem_cons, List.mem_append, mem_own] at hx
    rcases hx with e | e | e
    · exact mem_bookF.2 (.inl e)
    · exact mem_bookF.2 (.inr (.inl e))
    · exact mem_bookF.2 (.inr (.inr (.inl e)))
  · rcases mem_bookF.1 hx with e | e | e | ⟨i, hi, e⟩ | ⟨i, hi, e⟩
    · exact .inl (mem_bookF.2 (.inl e))
    · rcases h6.mem x (mem_own.2 e) with q | q
      · exact .inl (mem_bookF.2 (.inr (.inl (mem_own.1 q))))
      · exact .inr (.inr q)
    · rcases h7.mem x (mem_own.2 e) with q | q
      · exact .inl (mem_bookF.2 (.inr (.inr (.inl (mem_own.1 q)))))
      · exact .inr (.inr q)
    · by_cases en : i = s.n
      · subst en
        rw [upd_at] at e
        refine .inr (.inl ?_)
        rw [hX]
        simp [Value.ownBlock] at e
        simp [obj, e]
      · rw [upd_far _ _ _ _ en] at e
        exact .inl (mem_bookF.2 (.inr (.inr (.inr (.inl ⟨i, by omega, e⟩)))))
    · by_cases en : i = s.n
      · subst en
        rw [upd_at] at e
        exact .inr (.inr (hun x e))
      · rw [upd_far _ _ _ _ en] at e
        exact .inl (mem_bookF.2 (.inr (.inr (.inr (.inr ⟨i, by omega, e⟩)))))

end Go.Proofs.Ytoghkbajdljheaa
