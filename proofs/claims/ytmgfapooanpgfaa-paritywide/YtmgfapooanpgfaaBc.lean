import Derived.Test.YtmgfapooanpgfaaBb
namespace Go.Proofs.Ytmgfapooanpgfaa
open Go.RowKit

theorem Try.infoS : (Try.prog.info? 9).map (fun i => (i.zero, i.size, i.bytes)) = some (some (.string ⟨#[]⟩), 1, 16) := by kernel_rfl

theorem wdt_ll (L : Nat → List Nat) (n : Nat) : wdt (ll L n) = wx (fun i => (L i).length) n := by
  unfold wdt
  rw [ll_length]
  exact wx_congr (fun i hi => by rw [ll_getD _ _ _ hi])

/-- rowsOf, in the form that a law wants. -/
theorem rowsOf_st (lo : Option Addr) (nl cl : Nat) (S : Nat → ByteArray) (w : World) (hl : Sv w lo nl (fun i => .string (S i))) (hnl : nl ≤ 140737488355328) :
    Calls Try.prog 11 #[.slice lo nl cl] w fun e w' => ∃ ao c fr ks, e = .returned (.slice ao (min nl 200) c) ∧ (ao = none → min nl 200 = 0 ∧ c = 0) ∧ St w' ks ao (min nl 200) fr (fun i => rowS (S i)) ∧ (∀ x ∈ ks, w.heap.size ≤ x ∧ x < w'.heap.size) ∧ Kept [] w w' := by
  refine (rowsOf_any lo nl cl S w hl hnl).mono ?_
  rintro e w' ⟨V, f, rfl, hR, hk⟩
  obtain ⟨ao, c, hV, hn, hst⟩ := St.own hR (fun i _ => byl_byts _)
  refine ⟨ao, c, f, _, by rw [hV], hn, hst, fun x hx => ⟨own_loE hR.own x hx, ?_⟩, hk⟩
  rw [mem_own] at hx
  rcases hR.own.2 with ⟨e, _⟩ | ⟨g, cap, cur, e, _, hg, _⟩
  · rw [e] at hx; simp [Value.ownBlock] at hx
  · rw [e] at hx; simp [Value.ownBlock] at hx; subst hx; exact lt_of_block hg

/-- Make of such rows. -/
theorem make_st (ao : Option Addr) (n c P : Nat) (L : Nat → List Nat) (fr : Nat → Value) (ks : List Nat) (w w2 : World) (hk0 : Kept [] w w2) (hst : St w2 ks ao n fr L) (hks : ∀ x ∈ ks, w.heap.size ≤ x ∧ x < w2.heap.size) (hn : n ≤ 200) (hP : P ≤ 16) (hL : ∀ i, (L i).length ≤ 16777216) :
    Calls Try.prog 13 #[.slice ao n c, .int .i64 (P : Int)] w2 fun e w3 => ∃ g ks' fm, e = .returned (.tuple #[.slice (some ⟨g, 0, none⟩) P P, .int .i64 0]) ∧ St w3 ks' ao n fr L ∧ St w3 ks' (some ⟨g, 0, none⟩) P fm (fun j => rg (mk (ll L n) j) (wx (fun i => (L i).length) n)) ∧ (∀ x ∈ ks', w.heap.size ≤ x ∧ x < w3.heap.size) ∧ (∀ g2, ao = some ⟨g2, 0, none⟩ → g2 ≠ g ∨ n = 0) ∧ g ∈ ks' ∧ Kept [] w w3 := by
  have hW : wdt (ll L n) ≤ 16777216 := by rw [wdt_ll]; exact wx_le (fun i _ => hL i)
  refine (make_any ao n c P (ll L n) w2 hst.mc hst.bm (ll_length _ _) hn hP (fun j hj => by rw [ll_getD _ _ _ hj]; have := hL j; omega)).mono ?_
  intro e w3 h
  unfold MkPost at h
  rw [if_pos hW] at h
  obtain ⟨g, B, Z, he, hct, hcn, hZ, hg, hB, hk⟩ := h
  rw [wdt_ll] at hct hcn
  have hsz := hk0.size
  refine ⟨g, g :: ks, fun j => .slice (some ⟨B, po (fun _ => wx (fun i => (L i).length) n) j, none⟩) (wx (fun i => (L i).length) n) (wx (fun i => (L i).length) n), he, (hst.change (ks' := g :: ks) (fun x hx => ?_) (fun _ g2 _ h => by simp [h])).keep hk, ⟨.inr ⟨g, _, rfl, by simp, hct.out, fun i hi => ?_⟩, fun j hj => ?_⟩, fun x hx => ?_, fun g2 e => ?_, by simp, hk0.trans hk⟩
  · rcases List.mem_cons.1 hx with h | h
    · right; omega
    · exact .inl h
  · rw [List.getElem?_toArray, fl_at _ _ _ hi]
  · obtain ⟨_, h2⟩ := hct.at hcn hj
    refine ⟨_, _, by rw [rg_length], by rw [rg_length]; exact Nat.le_refl _, h2, rg_byts (fun _ _ => mk_lt _ _ _), fun g2 off e => ⟨fun hm => ?_, ?_⟩⟩
    · cases e
      rcases List.mem_cons.1 hm with h | h
      · exact hct.ne h.symm
      · have := (hks _ h).2; omega
    · cases e; exact hct.row.lt
  · rcases List.mem_cons.1 hx with h | h
    · subst h; exact ⟨by omega, hct.out.lt⟩
    · exact ⟨(hks x h).1, Nat.lt_of_lt_of_le (hks x h).2 hk.size⟩
  · by_cases h0 : n = 0
    · exact .inr h0
    · left
      obtain ⟨g3, e3, hm, _, _⟩ := hst.at (i := 0) (by omega)
      rw [e] at e3
      cases e3
      have := (hks g2 hm).2
      omega

theorem alloc_reads (w : World) (l : List Nat) : Reads (w.alloc (.cells (l.map byt).toArray 5)) (some ⟨w.heap.size, 0, none⟩) l := by
  refine .inr ⟨_, 0, rfl, fun i hi => ?_⟩
  rw [Nat.zero_add]
  exact alloc_cell w _ 5 i _ (by simp [hi])
theorem gon_snoc {lf lf' : Nat → Nat} {m x : Nat} (h1 : ∀ t, t < m → lf' t = lf t) (h2 : lf' m = x) (j : Nat) : gon lf' (m + 1) j = (gon lf m j || decide (x = j)) := by
  rw [gon_next, h2]
  congr 1
  cases h : gon lf m j
  · cases h' : gon lf' m j
    · rfl
    · obtain ⟨i, hi, e⟩ := gon_iff.1 h'
      rw [h1 i hi] at e
      rw [gon_iff.2 ⟨i, hi, e⟩] at h
      cases h
  · obtain ⟨i, hi, e⟩ := gon_iff.1 h
    exact gon_iff.2 ⟨i, hi, by rw [h1 i hi]; exact e⟩
theorem cnt_gon_le (lf : Nat → Nat) (m N : Nat) : cnt (gon lf m) N ≤ m := by
  induction m with
  | zero => rw [cnt_none]; exact Nat.le_refl _
  | succ m ih =>
    have : cnt (gon lf (m + 1)) N ≤ cnt (gon lf m) N + 1 := by
      by_cases h : lf m < N
      · cases hg : gon lf m (lf m)
        · rw [cnt_set h hg (by rw [gon_next]; simp) (fun i _ hn => by rw [gon_next, decide_eq_false (Ne.symm hn), Bool.or_false])]; omega
        · rw [cnt_congr (m' := gon lf m) (fun i _ => by
            rw [gon_next]
            by_cases e : i = lf m
            · subst e; rw [hg]; rfl
            · rw [decide_eq_false (Ne.symm e), Bool.or_false])]; omega
      · rw [cnt_congr (m' := gon lf m) (fun i hi => by rw [gon_next, decide_eq_false (by omega), Bool.or_false])]; omega
    omega

/-- The state of the loop in which rows are lost. -/
structure L3 (wr w : World) (ks : List Nat) (ao : Option Addr) (g n P B5 B3 m : Nat) (vg u13 u11 : Value) (lf : Nat → Nat) (Lr Lm L Mk : Nat → List Nat) (Fr Fm : Nat → Value) (WT : Nat → List Nat) (sz : Nat → Nat) : Prop where
  ov : wr.ownsRow B5 3 1 vg m (fl (vI lf) m)
  lb : ∀ t, t < m → lf t < n + P
  sr : St wr (vg.ownBlock.toList ++ ks) ao n Fr Lr
  sm : St wr (vg.ownBlock.toList ++ ks) (some ⟨g, 0, none⟩) P Fm Lm
  lr : ∀ j, j < n → gon lf m j = false → Lr j = L j
  lm : ∀ j, j < P → gon lf m (n + j) = false → Lm j = Mk j
  ww : wr.ownsRow B3 9 1 u13 (n + P) (fl (fun i => .string (bstr (WT i))) (n + P))
  ss : wr.ownsRow B3 3 1 u11 n (fl (vI sz) n)
  kw : Kept [] w wr
  b5 : B5 ≤ wr.heap.size
  kb : ∀ x ∈ ks, w.heap.size ≤ x ∧ x < wr.heap.size
theorem own_block_lt {w : World} {B e n : Nat} {V : Value} {xs : List Value} (h : w.ownsRow B e 1 V n xs) : ∀ x ∈ V.ownBlock.toList, x < w.heap.size := by
  intro x hx
  rw [mem_own] at hx
  rcases h.2 with ⟨e, _⟩ | ⟨g, cap, cur, e, _, hg, _⟩
  · rw [e] at hx; simp [Value.ownBlock] at hx
  · rw [e] at hx; simp [Value.ownBlock] at hx; subst hx; exact lt_of_block hg
theorem L3.app {wr w w6 : World} {ks : List Nat} {ao : Option Addr} {g n P B5 B3 m kk : Nat} {vg vg' u13 u11 : Value} {lf lf' : Nat → Nat} {Lr Lm L Mk : Nat → List Nat} {Fr Fm : Nat → Value} {WT : Nat → List Nat} {sz : Nat → Nat} (h : L3 wr w ks ao g n P B5 B3 m vg u13 u11 lf Lr Lm L Mk Fr Fm WT sz) (f1 : ∀ t, t < m → lf' t = lf t) (f2 : lf' m = kk) (hU : ∀ x ∈ u11.ownBlock.toList, x < B5) (hB5 : w.heap.size ≤ B5) (hkk : kk < n + P)
    (hg : w6.ownsRow B5 3 1 vg' (m + 1) (fl (vI lf) m ++ [.int .i64 (kk : Int)])) (hk : Kept vg.ownBlock.toList wr w6) (hl : Lies wr vg vg') : L3 w6 w ks ao g n P B5 B3 (m + 1) vg' u13 u11 lf' Lr Lm L Mk Fr Fm WT sz := by
  have hgon : ∀ j, gon lf' (m + 1) j = false → gon lf m j = false := fun j hj => by
    rw [gon_snoc f1 f2] at hj
    cases h : gon lf m j
    · rfl
    · rw [h] at hj; cases hj
  have hch : ∀ {a : Option Addr} {q : Nat} {F : Nat → Value} {X : Nat → List Nat}, St wr (vg.ownBlock.toList ++ ks) a q F X → St w6 (vg'.ownBlock.toList ++ ks) a q F X := fun {a q F X} hs => by
    have hn := hs.not_own h.ov (by decide)
    have h1 : St wr (vg'.ownBlock.toList ++ (vg.ownBlock.toList ++ ks)) a q F X := hs.change (fun x hx => by
      rcases List.mem_append.1 hx with h1 | h1
      · rcases hl.mem x h1 with h2 | h2
        · exact .inl (by simp [h2])
        · exact .inr h2
      · exact .inl h1) (fun _ g2 _ hm => List.mem_append.2 (.inr hm))
    have h2 : St w6 (vg'.ownBlock.toList ++ (vg.ownBlock.toList ++ ks)) a q F X := h1.kept hk (fun x hx => by simp [hx]) hn
    exact h2.change (fun x hx => by
      rcases List.mem_append.1 hx with h3 | h3
      · exact .inl (by simp [h3])
      · exact .inl (by simp [h3])) (fun h0 g2 e hm => by
        rcases List.mem_append.1 hm with h3 | h3
        · exact List.mem_append.2 (.inl h3)
        · rcases List.mem_append.1 h3 with h4 | h4
          · exact absurd h4 (hn h0 g2 e)
          · exact List.mem_append.2 (.inr h4))
  refine ⟨?_, fun t ht => ?_, hch h.sr, hch h.sm, fun j hj hg => h.lr j hj (hgon j hg), fun j hj hg => h.lm j hj (hgon _ hg), hk.row h.ww (own_ne2 h.ov h.ww (by decide)), hk.row h.ss (fun x hx hm => ?_), h.kw.step hk (fun x hx => .inr (by have := own_loE h.ov x hx; omega)), Nat.le_trans h.b5 hk.size, fun x hx => ⟨(h.kb x hx).1, Nat.lt_of_lt_of_le (h.kb x hx).2 hk.size⟩⟩
  · have e : fl (vI lf') m = fl (vI lf) m := fl_congr (fun i hi => by unfold vI; rw [f1 i hi])
    rw [← e, fl_one _ m _ (by unfold vI; rw [f2])] at hg
    exact hg
  · by_cases e : t = m
    · rw [e, f2]; exact hkk
    · rw [f1 t (by omega)]; exact h.lb t (by omega)
  · have := hU x (by rw [mem_own]; exact hx)
    have := own_loE h.ov x hm
    omega
/-- A literal's bytes, marked as a text's. -/
def litW (u : World) (cs : Array Value) : World := (u.alloc (.cells cs 5)).freeze ⟨u.heap.size, cs.size, none⟩ 1
theorem conv_lit (u : World) (cs : Array Value) (l c : Nat) : Sem.run Try.prog (convert 40 40 (.slice (some ⟨u.heap.size, 0, none⟩) l c)) (u.alloc (.cells cs 5)) = .ok (.slice (some ⟨u.heap.size, 0, none⟩) l c) (litW u cs) := by
  have hsh : (u.alloc (.cells cs 5)).shape? u.heap.size = some (5, cs.size) := by
    simp [World.shape?, World.alloc, -World.alloc_eq]
  simp [convert, run_underlying Try.underlying40, run_underlying Try.underlying5, markStringish, hsh, Result.andThen, litW]
theorem litW_old (u : World) (cs : Array Value) (j : Nat) (hj : j < u.heap.size) : (litW u cs).heap[j]? = u.heap[j]? := by
  have h1 : u.heap.size ≠ j := by omega
  simp [litW, World.freeze, World.alloc, -World.alloc_eq, Array.getElem?_modify, Array.getElem?_push, h1, Ne.symm h1]
theorem litW_new (u : World) (cs : Array Value) : (litW u cs).heap[u.heap.size]? = some (.cells cs 5 (cs.size, cs.size + 1)) := by
  simp [litW, World.freeze, World.alloc, -World.alloc_eq]
  rw [Array.getElem_modify_self]
  simp
theorem litW_size (u : World) (cs : Array Value) : (litW u cs).heap.size = u.heap.size + 1 := by
  simp [litW, World.freeze, World.alloc, -World.alloc_eq]
theorem litW_kept (u : World) (cs : Array Value) : Kept [] u (litW u cs) := ⟨rfl, rfl, rfl, by rw [litW_size]; omega, fun k hk _ => litW_old u cs k hk⟩
theorem litW_reads (u : World) (l : List Nat) : Reads (litW u (l.map byt).toArray) (some ⟨u.heap.size, 0, none⟩) l := by
  refine .inr ⟨_, 0, rfl, fun i hi => ?_⟩
  simp [World.cell?, litW_new, hi]
/-- A row is lost. -/
theorem L3.rows {wr w : World} {ks : List Nat} {gr g n P B5 B3 m k : Nat} {vg u13 u11 : Value} {lf : Nat → Nat} {Lr Lm L Mk : Nat → List Nat} {Fr Fm : Nat → Value} {WT : Nat → List Nat} {sz : Nat → Nat} {l : List Nat} (h : L3 wr w ks (some ⟨gr, 0, none⟩) g n P B5 B3 m vg u13 u11 lf Lr Lm L Mk Fr Fm WT sz) (hne : gr ≠ g) (hgr : gr ∈ ks) (hk : k < n) (hg : gon lf m k = true) (hl : Byts l) {wA : World} (ka : Kept [] wr wA) (hra : Reads wA (some ⟨wr.heap.size, 0, none⟩) l) (hsa : wr.heap.size < wA.heap.size) :
    L3 (wA.setCell ⟨gr, k, none⟩ (.slice (some ⟨wr.heap.size, 0, none⟩) l.length l.length)) w ks (some ⟨gr, 0, none⟩) g n P B5 B3 m vg u13 u11 lf (fun i => if i = k then l else Lr i) Lm L Mk (fun i => if i = k then .slice (some ⟨wr.heap.size, 0, none⟩) l.length l.length else Fr i) Fm WT sz := by
  have ks1 : Kept [gr] wA (wA.setCell ⟨gr, k, none⟩ (.slice (some ⟨wr.heap.size, 0, none⟩) l.length l.length)) := (Kept.refl [gr] _).setCell (p := ⟨gr, k, none⟩) (.inl (by simp)) _
  have hin : gr ∈ vg.ownBlock.toList ++ ks := by simp [hgr]
  have n1 := h.sr.not_own h.ov (by decide) (by omega) gr rfl
  have n2 := h.sr.not_own h.ww (by decide) (by omega) gr rfl
  have n3 := h.sr.not_own h.ss (by decide) (by omega) gr rfl
  have fr : ∀ {V : Value}, gr ∉ V.ownBlock.toList → ∀ x, V.ownBlock = some x → x ∉ [gr] := fun hn x hx hm => by simp at hm; subst hm; exact hn (by rw [mem_own]; exact hx)
  refine ⟨ks1.row (ka.row h.ov (by simp)) (fr n1), h.lb, (h.sr.keep ka).put hk hin (Nat.le_refl _) hra hl (fun g2 off e => ?_), (h.sm.keep ka).kept ks1 (fun x hx => by simp at hx; subst hx; exact hin) (fun _ g2 e => by cases e; simpa using Ne.symm hne), fun j hj hgj => ?_, h.lm, ks1.row (ka.row h.ww (by simp)) (fr n2), ks1.row (ka.row h.ss (by simp)) (fr n3), (h.kw.trans ka).step ks1 (fun x hx => by simp at hx; subst hx; exact .inr (h.kb _ hgr).1), Nat.le_trans h.b5 (Nat.le_trans ka.size ks1.size), fun x hx => ⟨(h.kb x hx).1, Nat.lt_of_lt_of_le (h.kb x hx).2 (Nat.le_trans ka.size ks1.size)⟩⟩
  · cases e
    refine ⟨fun hm => ?_, hsa⟩
    rcases List.mem_append.1 hm with h1 | h1
    · have := own_block_lt h.ov _ h1; omega
    · have := (h.kb _ h1).2; omega
  · rw [if_neg (fun e => by subst e; rw [hg] at hgj; cases hgj)]
    exact h.lr j hj hgj
/-- A row more is lost. -/
theorem L3.more {wr w : World} {ks : List Nat} {ao : Option Addr} {g n P B5 B3 m k : Nat} {vg u13 u11 : Value} {lf : Nat → Nat} {Lr Lm L Mk : Nat → List Nat} {Fr Fm : Nat → Value} {WT : Nat → List Nat} {sz : Nat → Nat} {l : List Nat} (h : L3 wr w ks ao g n P B5 B3 m vg u13 u11 lf Lr Lm L Mk Fr Fm WT sz) (hne : ∀ g2, ao = some ⟨g2, 0, none⟩ → g2 ≠ g ∨ n = 0) (hgr : g ∈ ks) (hk : k < P) (hg : gon lf m (n + k) = true) (hl : Byts l) {wA : World} (ka : Kept [] wr wA) (hra : Reads wA (some ⟨wr.heap.size, 0, none⟩) l) (hsa : wr.heap.size < wA.heap.size) :
    L3 (wA.setCell ⟨g, k, none⟩ (.slice (some ⟨wr.heap.size, 0, none⟩) l.length l.length)) w ks ao g n P B5 B3 m vg u13 u11 lf Lr (fun i => if i = k then l else Lm i) L Mk Fr (fun i => if i = k then .slice (some ⟨wr.heap.size, 0, none⟩) l.length l.length else Fm i) WT sz := by
  have ks1 : Kept [g] wA (wA.setCell ⟨g, k, none⟩ (.slice (some ⟨wr.heap.size, 0, none⟩) l.length l.length)) := (Kept.refl [g] _).setCell (p := ⟨g, k, none⟩) (.inl (by simp)) _
  have hin : g ∈ vg.ownBlock.toList ++ ks := by simp [hgr]
  have n1 := h.sm.not_own h.ov (by decide) (by omega) g rfl
  have n2 := h.sm.not_own h.ww (by decide) (by omega) g rfl
  have n3 := h.sm.not_own h.ss (by decide) (by omega) g rfl
  have fr : ∀ {V : Value}, g ∉ V.ownBlock.toList → ∀ x, V.ownBlock = some x → x ∉ [g] := fun hn x hx hm => by simp at hm; subst hm; exact hn (by rw [mem_own]; exact hx)
  refine ⟨ks1.row (ka.row h.ov (by simp)) (fr n1), h.lb, (h.sr.keep ka).kept ks1 (fun x hx => by simp at hx; subst hx; exact hin) (fun h0 g2 e => by rcases hne g2 e with h | h; simpa using h; omega), (h.sm.keep ka).put hk hin (Nat.le_refl _) hra hl (fun g2 off e => ?_), h.lr, fun j hj hgj => ?_, ks1.row (ka.row h.ww (by simp)) (fr n2), ks1.row (ka.row h.ss (by simp)) (fr n3), (h.kw.trans ka).step ks1 (fun x hx => by simp at hx; subst hx; exact .inr (h.kb _ hgr).1), Nat.le_trans h.b5 (Nat.le_trans ka.size ks1.size), fun x hx => ⟨(h.kb x hx).1, Nat.lt_of_lt_of_le (h.kb x hx).2 (Nat.le_trans ka.size ks1.size)⟩⟩
  · cases e
    refine ⟨fun hm => ?_, hsa⟩
    rcases List.mem_append.1 hm with h1 | h1
    · have := own_block_lt h.ov _ h1; omega
    · have := (h.kb _ h1).2; omega
  · rw [if_neg (fun e => by subst e; rw [hg] at hgj; cases hgj)]
    exact h.lm j hj hgj

theorem own_nil {w : World} {B e n c : Nat} {ao : Option Addr} {xs : List Value} (h : w.ownsRow B e 1 (.slice ao n c) n xs) : ao = none → n = 0 ∧ c = 0 := by
  intro e
  subst e
  rcases h.2 with ⟨h1, h2⟩ | ⟨g, cap, cur, h1, _⟩
  · simp at h1; exact ⟨h2, h1.2⟩
  · simp at h1
theorem own_sv2 {w : World} {B e n c : Nat} {ao : Option Addr} {f : Nat → Value} (h : w.ownsRow B e 1 (.slice ao n c) n (fl f n)) : Sv w ao n f := by
  obtain ⟨a2, c2, e, hs, _⟩ := own_sv h
  cases e
  exact hs
/-- Restore of what was lost. -/
theorem l3_back {wr w : World} {ks : List Nat} {ao so vao : Option Addr} {g n P B5 B3 m c cs vc : Nat} {u13 : Value} {lf : Nat → Nat} {Lr Lm L Mk : Nat → List Nat} {Fr Fm : Nat → Value} {WT : Nat → List Nat} {sz : Nat → Nat} (h : L3 wr w ks ao g n P B5 B3 m (.slice vao m vc) u13 (.slice so n cs) lf Lr Lm L Mk Fr Fm WT sz) (hn : n ≤ 200) (hP : P ≤ 16) (hm : m ≤ P) (na : ao = none → n = 0 ∧ c = 0) (hsz : ∀ i, (L i).length = sz i) (hln : ∀ i, sz i ≤ 16777216) (hbl : ∀ i, i < n → Byts (L i)) (eMk : Mk = fun j => rg (mk (ll L n) j) (wx sz n)) (w1 : ∀ i, i < n → WT i = L i) (w2 : ∀ i, WT (n + i) = Mk i) :
    Calls Try.prog 14 #[.slice ao n c, .slice so n cs, .slice (some ⟨g, 0, none⟩) P P, .slice vao m vc] wr fun e w7 => ∃ G, e = .returned (.tuple #[.slice (some ⟨G, 0, none⟩) (n + P) (n + P), .int .i64 0]) ∧ (∀ i, i < n + P → ∃ bo l, w7.cell? ⟨G, i, none⟩ = some (.slice bo l l) ∧ ∀ u : World, u.heap = w7.heap → Sem.run Try.prog (convert 40 9 (.slice bo l l)) u = .ok (.string (bstr (WT i))) u) ∧ Kept [] wr w7 := by
  have hW : wdt (ll L n) = wx sz n := by rw [wdt_ll]; exact wx_congr (fun i _ => hsz i)
  refine (restore_back ao so (some ⟨g, 0, none⟩) vao n c cs P P m vc (ll L n) (ll Lr n) (ll Lm P) sz lf wr h.sr.mc h.sm.mc h.sr.bm h.sm.bm (ll_length _ _) (ll_length _ _) hn hP na (by simp) (own_nil h.ss) (rdi_sv (own_sv2 h.ss)) hln (rdi_sv (own_sv2 h.ov)) h.lb (by omega) (ll_length _ _) (ll_bm hbl) (fun j hj => by rw [ll_getD _ _ _ hj, hsz]) (fun j hj hg => by rw [ll_getD _ _ _ hj, ll_getD _ _ _ hj, h.lr j hj hg]) (fun i hi hg => by rw [ll_getD _ _ _ hi, h.lm i hi hg, eMk, hW]) (Nat.le_trans (cnt_gon_le _ _ _) hm)).mono ?_
  rintro e w7 ⟨G, B, Z, he, hct, hcn, _, _, _, hk⟩
  refine ⟨G, he, fun i hi => ?_, hk⟩
  obtain ⟨q1, q2⟩ := hct.at hcn hi
  refine ⟨_, _, q1, fun u hu => ?_⟩
  have hku : Reads u (some ⟨B, po (fun k => if k < n then ((ll L n).getD k []).length else wdt (ll L n)) i, none⟩) (WT i) := by
    have e : rg ((fun k x => if k < n then fn (ll L n) k x else mk (ll L n) (k - n) x) i) ((fun k => if k < n then ((ll L n).getD k []).length else wdt (ll L n)) i) = WT i := by
      by_cases h0 : i < n
      · simp only [if_pos h0]
        rw [show rg (fun x => fn (ll L n) i x) ((ll L n).getD i []).length = (ll L n).getD i [] from fn_rg rfl, ll_getD _ _ _ h0, w1 i h0]
      · simp only [if_neg h0]
        have := w2 (i - n)
        rw [show n + (i - n) = i by omega] at this
        rw [this, eMk, hW]
    rw [e] at q2
    rcases q2 with q | ⟨g2, off, e2, hc⟩
    · exact .inl q
    · refine .inr ⟨g2, off, e2, fun j hj => ?_⟩
      rw [← hc j hj]
      simp only [World.cell?, hu]
  have hl2 : (WT i).length = (fun k => if k < n then ((ll L n).getD k []).length else wdt (ll L n)) i := by
    by_cases h0 : i < n
    · simp only [if_pos h0]
      rw [ll_getD _ _ _ h0, w1 i h0]
    · simp only [if_neg h0]
      have := w2 (i - n)
      rw [show n + (i - n) = i by omega] at this
      rw [this, eMk, rg_length, hW]
  have := reads_str hku ((fun k => if k < n then ((ll L n).getD k []).length else wdt (ll L n)) i)
  rw [hl2] at this
  exact this

end Go.Proofs.Ytmgfapooanpgfaa
