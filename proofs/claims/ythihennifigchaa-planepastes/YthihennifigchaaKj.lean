import Derived.Test.YthihennifigchaaKh
namespace Go.Proofs.Ythihennifigchaa.Bk
open Go.RowKit

/-- A list of one nine. -/
def Nin (s : Bo) (t x : Nat) : Prop := ∃ b, s.LV t x = .slice (some ⟨b, 0, none⟩) 1 1 ∧ s.LX t x = zlf .u16 65 (some ⟨b, 0, none⟩) 1 (fun _ => 9)
/-- Behind the first answers (i of them, and k lists of answer i) of the last phase. -/
structure Pz (s s3 : Bo) (i k : Nat) : Prop where
  n : s3.n = s.n
  h : s3.h = s.h
  J : s3.J = s.J
  kn : ∀ t, s3.kn t = if t < i then s.kn t + 2 else s.kn t
  r : s3.r = s.n
  rl : ∀ t, t < s.n → s3.rl t = s3.kn t
  ov : ∀ t, t < s.n → s3.OV t = s3.RV t
  ls : ∀ t x, t < s.n → x < s3.kn t → t < i ∨ (t = i ∧ x < k) → Nin s3 t x
theorem zlf_new (w : World) : (zlf .u16 65 (some ⟨w.heap.size, 0, none⟩) 1 (fun _ => 9)).P (w.alloc (.cells #[.int .u16 9] 65)) := .inr ⟨_, rfl, by rw [heap_alloc_new]; rfl⟩
section
variable {W w : World} {A : Nat} {s s3 : Bo} {i k : Nat}
/-- One list becomes a nine. -/
theorem BAt.nine (h : BAt W w A s3) (hi : i < s3.n) (hk : k < s3.kn i) (hr : k < s3.rl i) (G cp : Nat) (hS : s3.RV i = .slice (some ⟨G, 0, none⟩) (s3.rl i) cp) :
    BAt W ((w.alloc (.cells #[.int .u16 9] 65)).setCell ⟨G, k, none⟩ (.slice (some ⟨w.heap.size, 0, none⟩) 1 1)) A ((s3.one i k (zlf .u16 65 (some ⟨w.heap.size, 0, none⟩) 1 (fun _ => 9))).setl i k (.slice (some ⟨w.heap.size, 0, none⟩) 1 1)) := by
  have h1 := h.one (ks := []) i k hi hk (zlf .u16 65 (some ⟨w.heap.size, 0, none⟩) 1 (fun _ => 9)) ((Kept.refl [] w).alloc (.cells #[.int .u16 9] 65)) (by simp) (zlf_new w) (fun x hx => .inr (by simp [zlf, ablk] at hx; omega))
  exact h1.setl i k hi hr _ G cp hS
theorem Pz.nine (h : Pz s s3 i k) (b : Nat) : Pz s ((s3.one i k (zlf .u16 65 (some ⟨b, 0, none⟩) 1 (fun _ => 9))).setl i k (.slice (some ⟨b, 0, none⟩) 1 1)) i (k + 1) := by
  refine ⟨h.n, h.h, h.J, h.kn, h.r, h.rl, h.ov, fun t x ht hx hor => ?_⟩
  by_cases e : t = i ∧ x = k
  · obtain ⟨rfl, rfl⟩ := e
    exact ⟨b, upd2_at _ _ _ _, upd2_at _ _ _ _⟩
  · obtain ⟨b', e1, e2⟩ := h.ls t x ht hx (by omega)
    exact ⟨b', (upd2_far _ _ _ _ _ _ e).trans e1, (upd2_far _ _ _ _ _ _ e).trans e2⟩
/-- Two nines more stand behind answer i, as equations. -/
theorem two_app (w : World) (v : Value) (n : Nat) (xs : List Value) (ho : w.ownsRow 0 52 1 v n xs) (y1 y2 : Value) (h1 : y1.oneCell' = true) (h2 : y2.oneCell' = true) (hn : n ≤ 1000000) :
    ∃ bo c w', Sem.run Try.prog (Builtin.append_ #[36, 36] 36 #[v, .slice (some ⟨w.heap.size, 0, none⟩) 2 2]) (w.alloc (.cells #[y1, y2] 52)) = .ok (.slice bo (n + 2) c) w' ∧ w'.ownsRow 0 52 1 (.slice bo (n + 2) c) (n + 2) (xs ++ [y1, y2]) ∧ Kept v.ownBlock.toList w w' ∧ Lies w v (.slice bo (n + 2) c) := by
  obtain ⟨i0, hi, hz0, hz1, hz2⟩ := info_parts Try.info52
  have k0 : Kept [] w (w.alloc (.cells #[y1, y2] 52)) := (Kept.refl [] w).alloc _
  obtain ⟨v', u', hrun, h2, h3, _, h5⟩ := run_append_own_at (P := Try.prog) (w.alloc (.cells #[y1, y2] 52)) 0 36 36 52 i0 (.slice none 0 0) 1 24 Try.underlying36 hi hz0 hz1 hz2 rfl (by decide) v n xs (k0.row ho (by simp)) ⟨w.heap.size, 0, none⟩ 2 2 [y1, y2] rfl (fun j u hj => by
    have hb : (w.alloc (.cells #[y1, y2] 52)).heap[w.heap.size]? = some (.cells #[y1, y2] 52) := heap_alloc_new _ _
    have ha : (⟨w.heap.size, 0, none⟩ : Addr).add j = ⟨w.heap.size, 0 + j, none⟩ := by unfold Addr.add; split <;> simp_all
    match j, hj with
    | 0, hj => simp at hj; subst hj; rw [ha]; unfold World.cell?; rw [hb]; rfl
    | 1, hj => simp at hj; subst hj; rw [ha]; unfold World.cell?; rw [hb]; rfl
    | j + 2, hj => simp at hj) (fun u hu => by simp at hu; rcases hu with rfl | rfl <;> assumption) (by unfold maxLen; omega) (by omega) (Nat.zero_le _)
  obtain ⟨bo, c, ev⟩ := row_form h2
  subst ev
  refine ⟨bo, c, u', hrun, h2, (k0.mono (by simp)).trans (Kept.of_grown h3), ?_⟩
  rcases h5 with h | h
  · exact .inl h
  · exact .inr ⟨_, h, by rw [World.size_alloc]; omega⟩
theorem vals_snoc2 (V : Nat → Value) (n : Nat) (a b : Value) : vals V n ++ [a, b] = vals (fun t => if t = n + 1 then b else if t = n then a else V t) (n + 2) := by
  rw [show ([a, b] : List Value) = [a] ++ [b] from rfl, ← List.append_assoc, snoc_vals, snoc_vals]
/-- Answer i is done with. -/
theorem BAt.nines (h : BAt W w A s3) (hP : Pz s s3 i (s.kn i)) (hi : i < s.n) (hkn : s.kn i ≤ 1000) (gO cpO : Nat) (hSO : s3.SO = .slice (some ⟨gO, 0, none⟩) s3.r cpO) (hr : i < s3.r) :
    ∃ wa wb wc bo c w7, w.alloc (.cells #[.int .u16 9] 65) = wa ∧ wa.alloc (.cells #[.int .u16 9] 65) = wb ∧ wb.alloc (.cells #[.slice (some ⟨w.heap.size, 0, none⟩) 1 1, .slice (some ⟨wa.heap.size, 0, none⟩) 1 1] 52) = wc ∧
      Sem.run Try.prog (Builtin.append_ #[36, 36] 36 #[s3.RV i, .slice (some ⟨wb.heap.size, 0, none⟩) 2 2]) wc = .ok (.slice bo (s.kn i + 2) c) w7 ∧
      w7.cell? ⟨A, 2, none⟩ = some s3.SO ∧ (∃ u, w7.cell? ⟨gO, i, none⟩ = some u) ∧ w7.frozen? ⟨gO, i, none⟩ = false ∧
      ∃ s4, BAt W (w7.setCell ⟨gO, i, none⟩ (.slice bo (s.kn i + 2) c)) A s4 ∧ Pz s s4 (i + 1) 0 := by
  have hi3 : i < s3.n := by rw [hP.n]; exact hi
  have ek : s3.kn i = s.kn i := by rw [hP.kn, if_neg (Nat.lt_irrefl _)]
  have er : s3.rl i = s.kn i := by rw [hP.rl i hi, ek]
  obtain ⟨wa, ea⟩ : ∃ wa, w.alloc (.cells #[.int .u16 9] 65) = wa := ⟨_, rfl⟩
  obtain ⟨wb, eb⟩ : ∃ wb, wa.alloc (.cells #[.int .u16 9] 65) = wb := ⟨_, rfl⟩
  have p1 := h.pushl i hi3 (zlf .u16 65 (some ⟨w.heap.size, 0, none⟩) 1 (fun _ => 9)) (w' := wa) (by rw [← ea]; exact (Kept.refl [] w).alloc _) (by rw [← ea]; exact zlf_new w) (fun x hx => by simp [zlf, ablk] at hx; omega)
  have p2 := p1.pushl i hi3 (zlf .u16 65 (some ⟨wa.heap.size, 0, none⟩) 1 (fun _ => 9)) (w' := wb) (by rw [← eb]; exact (Kept.refl [] wa).alloc _) (by rw [← eb]; exact zlf_new wa) (fun x hx => by simp [zlf, ablk] at hx; omega)
  have hrow := p2.row i hi3
  have hrow : wb.ownsRow 0 52 1 (s3.RV i) (s3.rl i) (vals (s3.LV i) (s3.rl i)) := hrow
  obtain ⟨bo, c, w7, hrun, o7, k7, l7⟩ := two_app wb (s3.RV i) (s3.rl i) _ hrow (.slice (some ⟨w.heap.size, 0, none⟩) 1 1) (.slice (some ⟨wa.heap.size, 0, none⟩) 1 1) rfl rfl (by omega)
  rw [vals_snoc2] at o7
  have p3 := p2.appr i hi3 (.slice bo (s3.rl i + 2) c) (s3.rl i + 2) _ k7 l7 o7
  have p4 := p3.seto i hr (.slice bo (s3.rl i + 2) c) gO cpO hSO
  obtain ⟨⟨-, -, c2⟩, -⟩ := p3.cells
  have hout := p3.out
  have hout : w7.ownsRow 0 36 1 s3.SO s3.r (vals s3.OV s3.r) := hout
  obtain ⟨g', cp', e', y0, y1⟩ := own_cell hout i hr
  obtain ⟨rfl, rfl⟩ : gO = g' ∧ cpO = cp' := by have := hSO.symm.trans e'; simp at this; exact ⟨this.1, this.2⟩
  rw [er] at hrun
  refine ⟨wa, wb, _, bo, c, w7, ea, eb, rfl, hrun, c2, ⟨_, y0⟩, y1, _, by rw [er] at p4; exact p4, ?_⟩
  have kn2 : ∀ t, ((s3.pushl i (zlf .u16 65 (some ⟨w.heap.size, 0, none⟩) 1 (fun _ => 9))).pushl i (zlf .u16 65 (some ⟨wa.heap.size, 0, none⟩) 1 (fun _ => 9))).kn t = if t = i then s.kn i + 2 else s3.kn t := fun t => by
    by_cases e : t = i
    · subst e
      simp [Bo.pushl, ek]
    · simp [Bo.pushl, e]
  refine ⟨hP.n, hP.h, hP.J, fun t => ?_, hP.r, fun t ht => ?_, fun t ht => ?_, fun t x ht hx hor => ?_⟩
  · refine Eq.trans (kn2 t) ?_
    by_cases e : t = i
    · rw [if_pos e, if_pos (by omega), e]
    · rw [if_neg e, hP.kn]
      by_cases e2 : t < i
      · rw [if_pos e2, if_pos (by omega)]
      · rw [if_neg e2, if_neg (by omega)]
  · refine Eq.trans ?_ (kn2 t).symm
    show (if t = i then s.kn i + 2 else s3.rl t) = _
    by_cases e : t = i
    · rw [if_pos e, if_pos e]
    · rw [if_neg e, if_neg e]; exact hP.rl t ht
  · show (if t = i then _ else s3.OV t) = (if t = i then _ else s3.RV t)
    by_cases e : t = i
    · rw [if_pos e, if_pos e]
    · rw [if_neg e, if_neg e]; exact hP.ov t ht
  · have hx : x < ((s3.pushl i (zlf .u16 65 (some ⟨w.heap.size, 0, none⟩) 1 (fun _ => 9))).pushl i (zlf .u16 65 (some ⟨wa.heap.size, 0, none⟩) 1 (fun _ => 9))).kn t := hx
    rw [kn2 t] at hx
    by_cases e : t = i
    · subst e
      rw [if_pos rfl] at hx
      by_cases e1 : x = s.kn t + 1
      · refine ⟨wa.heap.size, ?_, ?_⟩
        · show (if t = t then (fun u => if u = s.kn t + 1 then _ else _) else s3.LV t) x = _
          rw [if_pos rfl]; show (if x = s.kn t + 1 then _ else _) = _; rw [if_pos e1]
        · show upd2 (upd2 s3.LX t (s3.kn t) (zlf .u16 65 (some ⟨w.heap.size, 0, none⟩) 1 (fun _ => 9))) t ((s3.pushl t (zlf .u16 65 (some ⟨w.heap.size, 0, none⟩) 1 (fun _ => 9))).kn t) (zlf .u16 65 (some ⟨wa.heap.size, 0, none⟩) 1 (fun _ => 9)) t x = _
          have : (s3.pushl t (zlf .u16 65 (some ⟨w.heap.size, 0, none⟩) 1 (fun _ => 9))).kn t = x := by simp [Bo.pushl, ek, e1]
          rw [this, upd2_at]
      · by_cases e0 : x = s.kn t
        · refine ⟨w.heap.size, ?_, ?_⟩
          · show (if t = t then (fun u => if u = s.kn t + 1 then _ else if u = s.kn t then _ else _) else s3.LV t) x = _
            rw [if_pos rfl]; show (if x = s.kn t + 1 then _ else if x = s.kn t then _ else _) = _; rw [if_neg e1, if_pos e0]
          · show upd2 (upd2 s3.LX t (s3.kn t) (zlf .u16 65 (some ⟨w.heap.size, 0, none⟩) 1 (fun _ => 9))) t ((s3.pushl t (zlf .u16 65 (some ⟨w.heap.size, 0, none⟩) 1 (fun _ => 9))).kn t) (zlf .u16 65 (some ⟨wa.heap.size, 0, none⟩) 1 (fun _ => 9)) t x = _
            have : (s3.pushl t (zlf .u16 65 (some ⟨w.heap.size, 0, none⟩) 1 (fun _ => 9))).kn t = s.kn t + 1 := by simp [Bo.pushl, ek]
            rw [this, upd2_far _ _ _ _ _ _ (by omega), ek, e0, upd2_at]
        · obtain ⟨b', q1, q2⟩ := hP.ls t x ht (by rw [ek]; omega) (by omega)
          refine ⟨b', ?_, ?_⟩
          · show (if t = t then (fun u => if u = s.kn t + 1 then _ else if u = s.kn t then _ else s3.LV t u) else s3.LV t) x = _
            rw [if_pos rfl]; show (if x = s.kn t + 1 then _ else if x = s.kn t then _ else s3.LV t x) = _; rw [if_neg e1, if_neg e0]; exact q1
          · show upd2 (upd2 s3.LX t (s3.kn t) (zlf .u16 65 (some ⟨w.heap.size, 0, none⟩) 1 (fun _ => 9))) t ((s3.pushl t (zlf .u16 65 (some ⟨w.heap.size, 0, none⟩) 1 (fun _ => 9))).kn t) (zlf .u16 65 (some ⟨wa.heap.size, 0, none⟩) 1 (fun _ => 9)) t x = _
            have : (s3.pushl t (zlf .u16 65 (some ⟨w.heap.size, 0, none⟩) 1 (fun _ => 9))).kn t = s.kn t + 1 := by simp [Bo.pushl, ek]
            rw [this, upd2_far _ _ _ _ _ _ (by omega), ek, upd2_far _ _ _ _ _ _ (by omega)]; exact q2
    · rw [if_neg e] at hx
      obtain ⟨b', q1, q2⟩ := hP.ls t x ht hx (by omega)
      refine ⟨b', ?_, ?_⟩
      · show (if t = i then _ else s3.LV t) x = _
        rw [if_neg e]; exact q1
      · show upd2 (upd2 s3.LX i (s3.kn i) (zlf .u16 65 (some ⟨w.heap.size, 0, none⟩) 1 (fun _ => 9))) i ((s3.pushl i (zlf .u16 65 (some ⟨w.heap.size, 0, none⟩) 1 (fun _ => 9))).kn i) (zlf .u16 65 (some ⟨wa.heap.size, 0, none⟩) 1 (fun _ => 9)) t x = _
        rw [upd2_far _ _ _ _ _ _ (by omega), upd2_far _ _ _ _ _ _ (by omega)]; exact q2
end
theorem Pz.start {s s1 s2 : Bo} {i k t : Nat} (hR : Rk s) (hF : Fz s s1 i k) (hG : Gz s s1 s2 t) : Pz s2 s2 0 0 := by
  have en : s2.n = s.n := hG.n.trans hF.n
  refine ⟨rfl, rfl, rfl, fun t => by rw [if_neg (by omega)], ?_, fun t ht => ?_, fun t ht => ?_, fun t x ht hx h => by omega⟩
  · rw [hG.r, hF.r, hR.r, en]
  · rw [hG.rl, hF.rl, hG.kn, hF.kn]; exact hR.rl t (by omega)
  · rw [hG.OV, hF.OV, hG.RV, hF.RV]; exact hR.ov t (by omega)
/-- What own leaves. -/
structure Dn (s s' : Bo) : Prop where
  n : s'.n = s.n
  kn : ∀ t, s'.kn t ≤ s.kn t + 2
  h : s'.h ≤ s.h + 200
  r : s'.r = s'.n
  rl : ∀ i, i < s'.n → s'.rl i = s'.kn i
  ov : ∀ i, i < s'.n → s'.OV i = s'.RV i
  J : ∀ j, s'.J j ↔ j < s'.h
  ls : ∀ i k, i < s'.n → k < s'.kn i → ∃ ao m f, s'.LV i k = .slice ao m m ∧ s'.LX i k = zlf .u16 65 ao m f ∧ m ≤ 100000000
theorem Dn.of {s s1 s2 s3 : Bo} (hR : Rk s) (hF : Fz s s1 s.n 0) (hG : Gz s s1 s2 s1.h) (hP : Pz s2 s3 s2.n 0) : Dn s s3 ∧ (∀ j, j < s3.h → s3.J j) ∧ (∀ i, s3.kn i ≤ 1000000) ∧ (∀ i k, i < s3.n → k < s3.kn i → ∃ b c, s3.LV i k = .slice (some ⟨b, 0, none⟩) 1 c ∧ s3.LX i k = zlf .u16 65 (some ⟨b, 0, none⟩) 1 (fun _ => 9)) := by
  have en : s2.n = s.n := hG.n.trans hF.n
  have h1 := hF.hhi
  have h2 := hF.hlo
  have h3 := hG.h
  have h4 := hR.n8
  have ek : ∀ t, s3.kn t ≤ s.kn t + 2 := fun t => by
    rw [hP.kn, hG.kn, hF.kn]; split <;> omega
  have hJ : ∀ j, s3.J j ↔ j < s3.h := fun j => by rw [hP.J, hG.J, hP.h]; omega
  refine ⟨⟨hP.n.trans en, ek, by rw [hP.h]; omega, by rw [hP.r, hP.n], fun i hi => hP.rl i (by rw [hP.n] at hi; exact hi), fun i hi => hP.ov i (by rw [hP.n] at hi; exact hi), hJ, fun i k hi hk => ?_⟩, fun j hj => (hJ j).2 hj, fun i => by have := ek i; have := hR.k8 i; omega, fun i k hi hk => ?_⟩
  · rw [hP.n] at hi
    obtain ⟨b, e1, e2⟩ := hP.ls i k hi hk (.inl hi)
    exact ⟨_, 1, _, e1, e2, by omega⟩
  · rw [hP.n] at hi
    obtain ⟨b, e1, e2⟩ := hP.ls i k hi hk (.inl hi)
    exact ⟨b, 1, e1, e2⟩
end Go.Proofs.Ythihennifigchaa.Bk
