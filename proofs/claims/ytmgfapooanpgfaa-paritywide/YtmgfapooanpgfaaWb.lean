import Derived.Test.YtmgfapooanpgfaaBc
import Derived.Test.YtmgfapooanpgfaaWa
namespace Go.Proofs.Ytmgfapooanpgfaa
open Go.RowKit

/-- The state of the loop in which rows are lost. -/
structure L4 (wr w : World) (ks : List Nat) (ao : Option Addr) (g n P B5 B3 m : Nat) (vg u13 u11 : Value) (lf : Nat → Nat) (Lr Lm L Mk : Nat → List Nat) (Fr Fm : Nat → Value) (WT : Nat → List Nat) (sz : Nat → Nat) : Prop where
  ov : wr.ownsRow B5 3 1 vg m (fl (vI lf) m)
  lb : ∀ t, t < m → lf t < n + P
  sr : St wr (vg.ownBlock.toList ++ ks) ao n Fr Lr
  sm : St wr (vg.ownBlock.toList ++ ks) (some ⟨g, 0, none⟩) P Fm Lm
  lr : ∀ j, j < n → gon lf m j = false → Lr j = L j
  lm : ∀ j, j < P → gon lf m (n + j) = false → Lm j = Mk j
  ww : wr.ownsRow B3 9 1 u13 P (fl (fun i => .string (bstr (WT (n + i)))) P)
  ss : wr.ownsRow B3 3 1 u11 n (fl (vI sz) n)
  kw : Kept [] w wr
  b5 : B5 ≤ wr.heap.size
  kb : ∀ x ∈ ks, w.heap.size ≤ x ∧ x < wr.heap.size
theorem L4.app {wr w w6 : World} {ks : List Nat} {ao : Option Addr} {g n P B5 B3 m kk : Nat} {vg vg' u13 u11 : Value} {lf lf' : Nat → Nat} {Lr Lm L Mk : Nat → List Nat} {Fr Fm : Nat → Value} {WT : Nat → List Nat} {sz : Nat → Nat} (h : L4 wr w ks ao g n P B5 B3 m vg u13 u11 lf Lr Lm L Mk Fr Fm WT sz) (f1 : ∀ t, t < m → lf' t = lf t) (f2 : lf' m = kk) (hU : ∀ x ∈ u11.ownBlock.toList, x < B5) (hB5 : w.heap.size ≤ B5) (hkk : kk < n + P)
    (hg : w6.ownsRow B5 3 1 vg' (m + 1) (fl (vI lf) m ++ [.int .i64 (kk : Int)])) (hk : Kept vg.ownBlock.toList wr w6) (hl : Lies wr vg vg') : L4 w6 w ks ao g n P B5 B3 (m + 1) vg' u13 u11 lf' Lr Lm L Mk Fr Fm WT sz := by
  have hgon : ∀ j, gon lf' (m + 1) j = false → gon lf m j = false := fun j hj => by
    rw [gon_snoc f1 f2] at hj
    cases h : gon lf m j
    · rfl
    · rw [h] at hj; cases hj
  have hch : ∀ {a : Option Addr} {q : Nat} {F : Nat → Value} {X : Nat → List Nat}, St wr (vg.ownBlock.toList ++ ks) a q F X → St w6 (vg'.ownBlock.toList ++ ks) a q F X := fun {a q F X} hs => by
    have hn := hs.not_own h.ov (by decide)
    have h1 : St wr (vg'.ownBlock.toList ++ (vg.ownBlock.toList ++ ks)) a q F X := hs.change (fun x hx => by
      rcases List.mem_append.1 hx with h1 | h1
      · rcases hl.mem x h1 with h2 | h2
        · exact .inl (by simp [h2])
        · exact .inr h2
      · exact .inl h1) (fun _ g2 _ hm => List.mem_append.2 (.inr hm))
    have h2 : St w6 (vg'.ownBlock.toList ++ (vg.ownBlock.toList ++ ks)) a q F X := h1.kept hk (fun x hx => by simp [hx]) hn
    exact h2.change (fun x hx => by
      rcases List.mem_append.1 hx with h3 | h3
      · exact .inl (by simp [h3])
      · exact .inl (by simp [h3])) (fun h0 g2 e hm => by
        rcases List.mem_append.1 hm with h3 | h3
        · exact List.mem_append.2 (.inl h3)
        · rcases List.mem_append.1 h3 with h4 | h4
          · exact absurd h4 (hn h0 g2 e)
          · exact List.mem_append.2 (.inr h4))
  refine ⟨?_, fun t ht => ?_, hch h.sr, hch h.sm, fun j hj hg => h.lr j hj (hgon j hg), fun j hj hg => h.lm j hj (hgon _ hg), hk.row h.ww (own_ne2 h.ov h.ww (by decide)), hk.row h.ss (fun x hx hm => ?_), h.kw.step hk (fun x hx => .inr (by have := own_loE h.ov x hx; omega)), Nat.le_trans h.b5 hk.size, fun x hx => ⟨(h.kb x hx).1, Nat.lt_of_lt_of_le (h.kb x hx).2 hk.size⟩⟩
  · have e : fl (vI lf') m = fl (vI lf) m := fl_congr (fun i hi => by unfold vI; rw [f1 i hi])
    rw [← e, fl_one _ m _ (by unfold vI; rw [f2])] at hg
    exact hg
  · by_cases e : t = m
    · rw [e, f2]; exact hkk
    · rw [f1 t (by omega)]; exact h.lb t (by omega)
  · have := hU x (by rw [mem_own]; exact hx)
    have := own_loE h.ov x hm
    omega

/-- A row is lost: there is none. -/
theorem L4.rows {wr w : World} {ks : List Nat} {gr g n P B5 B3 m k : Nat} {vg u13 u11 : Value} {lf : Nat → Nat} {Lr Lm L Mk : Nat → List Nat} {Fr Fm : Nat → Value} {WT : Nat → List Nat} {sz : Nat → Nat} (h : L4 wr w ks (some ⟨gr, 0, none⟩) g n P B5 B3 m vg u13 u11 lf Lr Lm L Mk Fr Fm WT sz) (hne : gr ≠ g) (hgr : gr ∈ ks) (hk : k < n) (hg : gon lf m k = true) :
    L4 (wr.setCell ⟨gr, k, none⟩ (.slice none 0 0)) w ks (some ⟨gr, 0, none⟩) g n P B5 B3 m vg u13 u11 lf (fun i => if i = k then [] else Lr i) Lm L Mk (fun i => if i = k then .slice none 0 0 else Fr i) Fm WT sz := by
  have ks1 : Kept [gr] wr (wr.setCell ⟨gr, k, none⟩ (.slice none 0 0)) := (Kept.refl [gr] _).setCell (p := ⟨gr, k, none⟩) (.inl (by simp)) _
  have hin : gr ∈ vg.ownBlock.toList ++ ks := by simp [hgr]
  have n1 := h.sr.not_own h.ov (by decide) (by omega) gr rfl
  have n2 := h.sr.not_own h.ww (by decide) (by omega) gr rfl
  have n3 := h.sr.not_own h.ss (by decide) (by omega) gr rfl
  have fr : ∀ {V : Value}, gr ∉ V.ownBlock.toList → ∀ x, V.ownBlock = some x → x ∉ [gr] := fun hn x hx hm => by simp at hm; subst hm; exact hn (by rw [mem_own]; exact hx)
  have hput := h.sr.put (bo := none) (l := []) (c := 0) hk hin (Nat.le_refl _) (.inl rfl) (fun b hb => by simp at hb) (fun g2 off e => by cases e)
  refine ⟨ks1.row h.ov (fr n1), h.lb, hput, h.sm.kept ks1 (fun x hx => by simp at hx; subst hx; exact hin) (fun _ g2 e => by cases e; simpa using Ne.symm hne), fun j hj hgj => ?_, h.lm, ks1.row h.ww (fr n2), ks1.row h.ss (fr n3), h.kw.step ks1 (fun x hx => by simp at hx; subst hx; exact .inr (h.kb _ hgr).1), Nat.le_trans h.b5 ks1.size, fun x hx => ⟨(h.kb x hx).1, Nat.lt_of_lt_of_le (h.kb x hx).2 ks1.size⟩⟩
  rw [if_neg (fun e => by subst e; rw [hg] at hgj; cases hgj)]
  exact h.lr j hj hgj
/-- A row more is lost. -/
theorem L4.more {wr w : World} {ks : List Nat} {ao : Option Addr} {g n P B5 B3 m k : Nat} {vg u13 u11 : Value} {lf : Nat → Nat} {Lr Lm L Mk : Nat → List Nat} {Fr Fm : Nat → Value} {WT : Nat → List Nat} {sz : Nat → Nat} (h : L4 wr w ks ao g n P B5 B3 m vg u13 u11 lf Lr Lm L Mk Fr Fm WT sz) (hne : ∀ g2, ao = some ⟨g2, 0, none⟩ → g2 ≠ g ∨ n = 0) (hgr : g ∈ ks) (hk : k < P) (hg : gon lf m (n + k) = true) :
    L4 (wr.setCell ⟨g, k, none⟩ (.slice none 0 0)) w ks ao g n P B5 B3 m vg u13 u11 lf Lr (fun i => if i = k then [] else Lm i) L Mk Fr (fun i => if i = k then .slice none 0 0 else Fm i) WT sz := by
  have ks1 : Kept [g] wr (wr.setCell ⟨g, k, none⟩ (.slice none 0 0)) := (Kept.refl [g] _).setCell (p := ⟨g, k, none⟩) (.inl (by simp)) _
  have hin : g ∈ vg.ownBlock.toList ++ ks := by simp [hgr]
  have n1 := h.sm.not_own h.ov (by decide) (by omega) g rfl
  have n2 := h.sm.not_own h.ww (by decide) (by omega) g rfl
  have n3 := h.sm.not_own h.ss (by decide) (by omega) g rfl
  have fr : ∀ {V : Value}, g ∉ V.ownBlock.toList → ∀ x, V.ownBlock = some x → x ∉ [g] := fun hn x hx hm => by simp at hm; subst hm; exact hn (by rw [mem_own]; exact hx)
  have hput := h.sm.put (bo := none) (l := []) (c := 0) hk hin (Nat.le_refl _) (.inl rfl) (fun b hb => by simp at hb) (fun g2 off e => by cases e)
  refine ⟨ks1.row h.ov (fr n1), h.lb, h.sr.kept ks1 (fun x hx => by simp at hx; subst hx; exact hin) (fun h0 g2 e => by rcases hne g2 e with h | h; simpa using h; omega), hput, h.lr, fun j hj hgj => ?_, ks1.row h.ww (fr n2), ks1.row h.ss (fr n3), h.kw.step ks1 (fun x hx => by simp at hx; subst hx; exact .inr (h.kb _ hgr).1), Nat.le_trans h.b5 ks1.size, fun x hx => ⟨(h.kb x hx).1, Nat.lt_of_lt_of_le (h.kb x hx).2 ks1.size⟩⟩
  rw [if_neg (fun e => by subst e; rw [hg] at hgj; cases hgj)]
  exact h.lm j hj hgj

/-- Restore of what was lost. -/
theorem l4_back {wr w : World} {ks : List Nat} {ao so vao : Option Addr} {g n P B5 B3 m c cs vc : Nat} {u13 : Value} {lf : Nat → Nat} {Lr Lm L Mk : Nat → List Nat} {Fr Fm : Nat → Value} {WT : Nat → List Nat} {sz : Nat → Nat} (h : L4 wr w ks ao g n P B5 B3 m (.slice vao m vc) u13 (.slice so n cs) lf Lr Lm L Mk Fr Fm WT sz) (hn : n ≤ 200) (hP : P ≤ 16) (hm : m ≤ P) (na : ao = none → n = 0 ∧ c = 0) (hsz : ∀ i, (L i).length = sz i) (hln : ∀ i, sz i ≤ 16777216) (hbl : ∀ i, i < n → Byts (L i)) (eMk : Mk = fun j => rg (mk (ll L n) j) (wx sz n)) (w1 : ∀ i, i < n → WT i = L i) (w2 : ∀ i, WT (n + i) = Mk i) :
    Calls Try.prog 14 #[.slice ao n c, .slice so n cs, .slice (some ⟨g, 0, none⟩) P P, .slice vao m vc] wr fun e w7 => ∃ G, e = .returned (.tuple #[.slice (some ⟨G, 0, none⟩) (n + P) (n + P), .int .i64 0]) ∧ (∀ i, i < n + P → ∃ bo l, w7.cell? ⟨G, i, none⟩ = some (.slice bo l l) ∧ ∀ u : World, Kept [] w7 u → Sem.run Try.prog (convert 40 9 (.slice bo l l)) u = .ok (.string (bstr (WT i))) u) ∧ Kept [] wr w7 := by
  have hW : wdt (ll L n) = wx sz n := by rw [wdt_ll]; exact wx_congr (fun i _ => hsz i)
  refine (restore_back ao so (some ⟨g, 0, none⟩) vao n c cs P P m vc (ll L n) (ll Lr n) (ll Lm P) sz lf wr h.sr.mc h.sm.mc h.sr.bm h.sm.bm (ll_length _ _) (ll_length _ _) hn hP na (by simp) (own_nil h.ss) (rdi_sv (own_sv2 h.ss)) hln (rdi_sv (own_sv2 h.ov)) h.lb (by omega) (ll_length _ _) (ll_bm hbl) (fun j hj => by rw [ll_getD _ _ _ hj, hsz]) (fun j hj hg => by rw [ll_getD _ _ _ hj, ll_getD _ _ _ hj, h.lr j hj hg]) (fun i hi hg => by rw [ll_getD _ _ _ hi, h.lm i hi hg, eMk, hW]) (Nat.le_trans (cnt_gon_le _ _ _) hm)).mono ?_
  rintro e w7 ⟨G, B, Z, he, hct, hcn, _, _, _, hk⟩
  refine ⟨G, he, fun i hi => ?_, hk⟩
  obtain ⟨q1, q2⟩ := hct.at hcn hi
  refine ⟨_, _, q1, fun u hu => ?_⟩
  have hku : Reads u (some ⟨B, po (fun k => if k < n then ((ll L n).getD k []).length else wdt (ll L n)) i, none⟩) (WT i) := by
    have e : rg ((fun k x => if k < n then fn (ll L n) k x else mk (ll L n) (k - n) x) i) ((fun k => if k < n then ((ll L n).getD k []).length else wdt (ll L n)) i) = WT i := by
      by_cases h0 : i < n
      · simp only [if_pos h0]
        rw [show rg (fun x => fn (ll L n) i x) ((ll L n).getD i []).length = (ll L n).getD i [] from fn_rg rfl, ll_getD _ _ _ h0, w1 i h0]
      · simp only [if_neg h0]
        have := w2 (i - n)
        rw [show n + (i - n) = i by omega] at this
        rw [this, eMk, hW]
    rw [e] at q2
    exact q2.keep hu
  have hl2 : (WT i).length = (fun k => if k < n then ((ll L n).getD k []).length else wdt (ll L n)) i := by
    by_cases h0 : i < n
    · simp only [if_pos h0]
      rw [ll_getD _ _ _ h0, w1 i h0]
    · simp only [if_neg h0]
      have := w2 (i - n)
      rw [show n + (i - n) = i by omega] at this
      rw [this, eMk, rg_length, hW]
  have := reads_str hku ((fun k => if k < n then ((ll L n).getD k []).length else wdt (ll L n)) i)
  rw [hl2] at this
  exact this

end Go.Proofs.Ytmgfapooanpgfaa
