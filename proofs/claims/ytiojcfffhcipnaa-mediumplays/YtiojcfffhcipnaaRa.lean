import Derived.Test.YtiojcfffhcipnaaMj
namespace Go.Proofs.Ytiojcfffhcipnaa
open Go.RowKit

/-- The document's medium in block P. -/
structure Rmd (w : World) (P : Nat) (V L : Value) (s : Md) : Prop where
  box : w.heap[P]? = some (.cells #[V, .bool s.dead, .int .i64 s.left, .int .i64 s.keep, L] 81 (0, 0))
  row : w.ownsRow 0 5 1 V s.b.length (s.b.map byt)
  log : w.ownsRow 0 63 2 L s.g.length (spc s.g)
section
variable {w w' : World} {P : Nat} {V L : Value} {s : Md}
theorem Rmd.kept {ks : List Nat} (h : Rmd w P V L s) (hk : Kept ks w w') (hn : ∀ x ∈ foot P V L, x ∉ ks) : Rmd w' P V L s :=
  ⟨hk.heap h.box (hn P (by simp [foot])), hk.row h.row (fun g hg => hn g (by simp [foot, hg])), hk.row h.log (fun g hg => hn g (by simp [foot, hg]))⟩
theorem Rmd.keep (h : Rmd w P V L s) (hk : Kept [] w w') : Rmd w' P V L s := h.kept hk (by simp)
theorem Rmd.c0 (h : Rmd w P V L s) : w.cell? ⟨P, 0, none⟩ = some V := by simp [World.cell?, h.box]
theorem Rmd.c1 (h : Rmd w P V L s) : w.cell? ⟨P, 1, none⟩ = some (.bool s.dead) := by simp [World.cell?, h.box]
theorem Rmd.c2 (h : Rmd w P V L s) : w.cell? ⟨P, 2, none⟩ = some (.int .i64 s.left) := by simp [World.cell?, h.box]
theorem Rmd.c3 (h : Rmd w P V L s) : w.cell? ⟨P, 3, none⟩ = some (.int .i64 s.keep) := by simp [World.cell?, h.box]
theorem Rmd.c4 (h : Rmd w P V L s) : w.cell? ⟨P, 4, none⟩ = some L := by simp [World.cell?, h.box]
theorem Rmd.fz (h : Rmd w P V L s) (i : Nat) : w.frozen? ⟨P, i, none⟩ = false := by simp [World.frozen?, h.box]
theorem Rmd.other (h : Rmd w P V L s) (hk : Kept [P] w w') : w'.ownsRow 0 5 1 V s.b.length (s.b.map byt) ∧ w'.ownsRow 0 63 2 L s.g.length (spc s.g) :=
  ⟨hk.row h.row (fun g hg => by have := own_ty h.box (by decide) h.row; simp [hg] at this ⊢; exact fun e => this e.symm), hk.row h.log (fun g hg => by have := own_ty h.box (by decide) h.log; simp [hg] at this ⊢; exact fun e => this e.symm)⟩
theorem Rmd.sdead (h : Rmd w P V L s) (d : Bool) : Rmd (w.setCell ⟨P, 1, none⟩ (.bool d)) P V L { s with dead := d } ∧ Kept [P] w (w.setCell ⟨P, 1, none⟩ (.bool d)) := by
  have hk : Kept [P] w (w.setCell ⟨P, 1, none⟩ (.bool d)) := (Kept.refl _ _).setCell (.inl (by simp)) _
  obtain ⟨a, b⟩ := h.other hk
  exact ⟨⟨by rw [heap_setCell_at h.box]; simp, a, b⟩, hk⟩
theorem Rmd.sleft (h : Rmd w P V L s) (d : Int) : Rmd (w.setCell ⟨P, 2, none⟩ (.int .i64 d)) P V L { s with left := d } ∧ Kept [P] w (w.setCell ⟨P, 2, none⟩ (.int .i64 d)) := by
  have hk : Kept [P] w (w.setCell ⟨P, 2, none⟩ (.int .i64 d)) := (Kept.refl _ _).setCell (.inl (by simp)) _
  obtain ⟨a, b⟩ := h.other hk
  exact ⟨⟨by rw [heap_setCell_at h.box]; simp, a, b⟩, hk⟩
theorem Rmd.skeep (h : Rmd w P V L s) (d : Int) : Rmd (w.setCell ⟨P, 3, none⟩ (.int .i64 d)) P V L { s with keep := d } ∧ Kept [P] w (w.setCell ⟨P, 3, none⟩ (.int .i64 d)) := by
  have hk : Kept [P] w (w.setCell ⟨P, 3, none⟩ (.int .i64 d)) := (Kept.refl _ _).setCell (.inl (by simp)) _
  obtain ⟨a, b⟩ := h.other hk
  exact ⟨⟨by rw [heap_setCell_at h.box]; simp, a, b⟩, hk⟩
theorem Rmd.srow {V' : Value} (h : Rmd w P V L s) (l : List Nat) (hk : Kept V.ownBlock.toList w w') (ho : w'.ownsRow 0 5 1 V' l.length (l.map byt)) :
    Rmd (w'.setCell ⟨P, 0, none⟩ V') P V' L { s with b := l } ∧ Kept (P :: V.ownBlock.toList) w (w'.setCell ⟨P, 0, none⟩ V') := by
  have hb : w'.heap[P]? = some _ := hk.heap h.box (own_ty h.box (by decide) h.row)
  have hl : w'.ownsRow 0 63 2 L s.g.length (spc s.g) := hk.row h.log (own_two h.log h.row (by decide))
  have h1 : Kept [P] w' (w'.setCell ⟨P, 0, none⟩ V') := (Kept.refl _ _).setCell (.inl (by simp)) _
  refine ⟨⟨by rw [heap_setCell_at hb]; simp, h1.row ho (fun g hg => by have := own_ty hb (by decide) ho; simp [hg] at this ⊢; exact fun e => this e.symm), h1.row hl (fun g hg => by have := own_ty hb (by decide) hl; simp [hg] at this ⊢; exact fun e => this e.symm)⟩, ?_⟩
  exact (hk.mono (fun x hx => .inl (List.mem_cons_of_mem _ hx))).step h1 (fun x hx => by simp at hx; subst hx; simp)
theorem Rmd.slog {L' : Value} (h : Rmd w P V L s) (g : List (Int × Int)) (hk : Kept L.ownBlock.toList w w') (ho : w'.ownsRow 0 63 2 L' g.length (spc g)) :
    Rmd (w'.setCell ⟨P, 4, none⟩ L') P V L' { s with g := g } ∧ Kept (P :: L.ownBlock.toList) w (w'.setCell ⟨P, 4, none⟩ L') := by
  have hb : w'.heap[P]? = some _ := hk.heap h.box (own_ty h.box (by decide) h.log)
  have hl : w'.ownsRow 0 5 1 V s.b.length (s.b.map byt) := hk.row h.row (own_two h.row h.log (by decide))
  have h1 : Kept [P] w' (w'.setCell ⟨P, 4, none⟩ L') := (Kept.refl _ _).setCell (.inl (by simp)) _
  refine ⟨⟨by rw [heap_setCell_at hb]; simp, h1.row hl (fun g hg => by have := own_ty hb (by decide) hl; simp [hg] at this ⊢; exact fun e => this e.symm), h1.row ho (fun g hg => by have := own_ty hb (by decide) ho; simp [hg] at this ⊢; exact fun e => this e.symm)⟩, ?_⟩
  exact (hk.mono (fun x hx => .inl (List.mem_cons_of_mem _ hx))).step h1 (fun x hx => by simp at hx; subst hx; simp)
end

/-- Bytes put behind none, in new memory. -/
theorem app_none (w : World) (ty : Nat) (so : Option Addr) (m c : Nat) (l : List Nat) (hr : Reads w so l) (hm : l.length = m) (hmb : m ≤ 140737488355200) (hnc : so = none → c = 0) :
    ∃ bo cc u', Sem.run Try.prog (Builtin.append_ #[29, 29] ty #[.slice (some ⟨w.heap.size, 0, none⟩) 0 0, .slice so m c]) (w.alloc (.cells #[] 5)) = .ok (.slice bo m cc) u' ∧ u'.ownsRow w.heap.size 5 1 (.slice bo m cc) m (l.map byt) ∧ Kept [] w u' := by
  have ho : (w.alloc (.cells #[] 5)).ownsRow w.heap.size 5 1 (.slice (some ⟨w.heap.size, 0, none⟩) 0 0) 0 ([] : List Value) := World.ownsRow_lit w #[] 0 (Nat.le_refl _) (by decide) rfl
  have k0 : Kept [] w (w.alloc (.cells #[] 5)) := (Kept.refl [] w).alloc _
  obtain ⟨v', u', hrun, h2, h3⟩ := app_wide _ ty _ _ _ _ ho (by rw [World.size_alloc]; omega) so m c l (hr.keep k0) hm (by omega) hnc
  rw [Nat.zero_add, List.nil_append] at h2
  obtain ⟨bo, cc, e, -, -, -, -⟩ := row_form2 h2
  subst e
  exact ⟨bo, cc, u', hrun, h2, k0.step h3 (fun x hx => by simp [Value.ownBlock] at hx; subst hx; exact .inr (Nat.le_refl _))⟩
theorem app_noneS (w : World) (ty : Nat) (so : Option Addr) (m c : Nat) (l : List (Int × Int)) (hr : RdS w so l) (hm : l.length = m) (hmb : m ≤ 8796093022208) (hnc : so = none → c = 0) :
    ∃ bo cc u', Sem.run Try.prog (Builtin.append_ #[30, 30] ty #[.slice (some ⟨w.heap.size, 0, none⟩) 0 0, .slice so m c]) (w.alloc (.cells #[] 63)) = .ok (.slice bo m cc) u' ∧ u'.ownsRow w.heap.size 63 2 (.slice bo m cc) m (spc l) ∧ Kept [] w u' := by
  have ho : (w.alloc (.cells #[] 63)).ownsRow w.heap.size 63 2 (.slice (some ⟨w.heap.size, 0, none⟩) 0 0) 0 ([] : List Value) := World.ownsRow_lit w #[] 0 (Nat.le_refl _) (by decide) rfl
  have k0 : Kept [] w (w.alloc (.cells #[] 63)) := (Kept.refl [] w).alloc _
  obtain ⟨v', u', hrun, h2, h3, h4⟩ := app_sp _ ty _ _ _ (own_zero ho) so m c l (hr.keep k0) hm (by omega) hnc
  rw [Nat.zero_add, List.nil_append] at h2
  obtain ⟨bo, cc, e, -, -, -, -⟩ := row_form2 h2
  subst e
  refine ⟨bo, cc, u', hrun, ?_, k0.step h3 (fun x hx => by simp [Value.ownBlock] at hx; subst hx; exact .inr (Nat.le_refl _))⟩
  refine ⟨h2.1, ?_⟩
  rcases h2.2 with h | ⟨g, cap, cur, h1, _, h2⟩
  · exact .inl h
  · refine .inr ⟨g, cap, cur, h1, ?_, h2⟩
    rw [h1] at h4
    rcases h4 with h | ⟨g2, h, hs⟩
    · simp [Value.ownBlock] at h; omega
    · simp [Value.ownBlock] at h; rw [World.size_alloc] at hs; omega

set_option maxHeartbeats 4000000 in
theorem rnew_any (w : World) : Calls Try.prog 9 #[] w fun e w' => e = .returned (.pointer (some ⟨w.heap.size, 0, none⟩)) ∧ Rmd w' w.heap.size (.slice none 0 0) (.slice none 0 0) ⟨[], [], false, 0, 0⟩ ∧ Kept [] w w' := by
  go_enter Try.func9, Try.ntmps9
  go_wp2
  go_ret
  exact ⟨rfl, ⟨heap_alloc_new _ _, ⟨rfl, .inl ⟨rfl, rfl⟩⟩, ⟨rfl, .inl ⟨rfl, rfl⟩⟩⟩, (Kept.refl _ _).alloc _⟩

set_option maxHeartbeats 4000000 in
theorem rload_ok (ao : Option Addr) (m cap : Nat) (l : List Nat) (w : World) (hr : Reads w ao l) (hm : l.length = m) (hc : ao = none → cap = 0) (hl : m ≤ 268435456) :
    Calls Try.prog 36 #[.slice ao m cap] w fun e w' => ∃ P V, e = .returned (.tuple #[.pointer (some ⟨P, 0, none⟩), .int .i64 0]) ∧ Rmd w' P V (.slice none 0 0) ⟨l, [], false, 0, 0⟩ ∧ Kept [] w w' ∧ (∀ x ∈ foot P V (.slice none 0 0), w.heap.size ≤ x) := by
  have h2 : ¬ (268435456 : Int) < (m : Int) := by omega
  obtain ⟨bo, c, w1, hrun, h1, k1⟩ := app_none w 29 ao m cap l hr hm (by omega) hc
  have H1 := Hid.mk h1
  have K1 := Hid.mk k1
  clear hr hc h1 k1
  go_enter Try.func36, Try.ntmps36
  go_wp2_with (at_builtin; refine wpList_app_eq' rfl _ _ 29 rfl _ _ _ _ rfl rfl hrun ?_)
  go_ret2
  subst hm
  have ka : Kept [] w1 (w1.alloc (.cells #[.slice bo l.length c, .bool false, .int .i64 0, .int .i64 0, .slice none 0 0] 81 (0, 0))) := (Kept.refl [] w1).alloc _
  refine ⟨w1.heap.size, rfl, .slice bo l.length c, ⟨heap_alloc_new _ _, own_zero (ka.row H1.out (by simp)), ⟨rfl, .inl ⟨rfl, rfl⟩⟩⟩, K1.out.trans ka, ?_⟩
  intro x hx
  simp only [foot, List.mem_cons, List.mem_append] at hx
  rcases hx with rfl | hx | hx
  · exact K1.out.size
  · exact own_new H1.out x hx
  · simp [Value.ownBlock] at hx

set_option maxHeartbeats 4000000 in
theorem rsize_any (w : World) (P : Nat) (V L : Value) (s : Md) (h : Rmd w P V L s) : Calls Try.prog 38 #[.pointer (some ⟨P, 0, none⟩)] w fun e w' => e = .returned (.int .i64 (s.b.length : Int)) ∧ w' = w := by
  obtain ⟨bo, c, eV, -, -, -, -⟩ := row_form2 h.row
  subst eV
  have c0 := h.c0
  clear h
  go_enter Try.func38, Try.ntmps38
  go_wp2
  go_ret
  exact ⟨rfl, rfl⟩

set_option maxHeartbeats 4000000 in
theorem rdead_any (w : World) (P : Nat) (V L : Value) (s : Md) (h : Rmd w P V L s) : Calls Try.prog 39 #[.pointer (some ⟨P, 0, none⟩)] w fun e w' => e = .returned (.bool s.dead) ∧ w' = w := by
  have c0 := h.c1
  clear h
  go_enter Try.func39, Try.ntmps39
  go_wp2
  go_ret
  exact ⟨rfl, rfl⟩

set_option maxHeartbeats 4000000 in
theorem rlies_any (a n sz : Int) (w : World) (a1 : a ≤ 9223372036854775807) (s0 : 0 ≤ sz) (s1 : sz ≤ 4611686018427387904) :
    Calls Try.prog 57 #[.int .i64 a, .int .i64 n, .int .i64 sz] w fun e w' => e = .returned (.bool (inB a n sz)) ∧ w' = w := by
  by_cases h1 : 0 ≤ a
  · by_cases h2 : 0 ≤ n
    · by_cases h3 : a ≤ sz
      · have hw : wrap64 (sz - a) = sz - a := by unfold wrap64; omega
        have e1 : inB a n sz = decide (n ≤ sz - a) := by simp [inB, h1, h2]
        rw [e1]
        clear e1
        go_enter Try.func57, Try.ntmps57
        go_wp2
        go_ret
        exact ⟨rfl, rfl⟩
      · have e1 : inB a n sz = false := by simp only [inB, decide_eq_false_iff_not]; omega
        rw [e1]
        clear e1
        go_enter Try.func57, Try.ntmps57
        go_wp2
        go_ret
        exact ⟨rfl, rfl⟩
    · have e1 : inB a n sz = false := by simp [inB, h2]
      rw [e1]
      clear e1
      go_enter Try.func57, Try.ntmps57
      go_wp2
      go_ret
      exact ⟨rfl, rfl⟩
  · have e1 : inB a n sz = false := by simp [inB, h1]
    rw [e1]
    clear e1
    go_enter Try.func57, Try.ntmps57
    go_wp2
    go_ret
    exact ⟨rfl, rfl⟩

set_option maxHeartbeats 4000000 in
theorem rarm_any (w : World) (P : Nat) (V L : Value) (s : Md) (n k : Int) (h : Rmd w P V L s) :
    Calls Try.prog 28 #[.pointer (some ⟨P, 0, none⟩), .int .i64 n, .int .i64 k] w fun e w' => e = .returned (.int .i64 (arE s n k)) ∧ Rmd w' P V L (arS s n k) ∧ Kept [P] w w' := by
  have HM := Hid.mk h
  obtain ⟨b, g, d, lf, kp⟩ := s
  have c1 := h.c1
  have c2 := h.c2
  have c3 := h.c3
  have f2 := h.fz 2
  have f3 := h.fz 3
  simp only at c1 c2 c3
  clear h
  cases d with
  | true =>
    go_enter Try.func28, Try.ntmps28
    go_wp2
    go_ret
    exact ⟨rfl, HM.out, Kept.refl _ _⟩
  | false =>
    by_cases h1 : n < 0
    · have e1 : arE ⟨b, g, false, lf, kp⟩ n k = 1 := by simp [arE, h1]
      have e2 : arS ⟨b, g, false, lf, kp⟩ n k = ⟨b, g, false, lf, kp⟩ := by simp [arS, h1]
      rw [e1, e2]
      clear e1 e2
      go_enter Try.func28, Try.ntmps28
      go_wp2
      go_ret
      exact ⟨rfl, HM.out, Kept.refl _ _⟩
    · by_cases h2 : k < 0
      · have e1 : arE ⟨b, g, false, lf, kp⟩ n k = 1 := by simp [arE, h2]
        have e2 : arS ⟨b, g, false, lf, kp⟩ n k = ⟨b, g, false, lf, kp⟩ := by simp [arS, h2]
        rw [e1, e2]
        clear e1 e2
        go_enter Try.func28, Try.ntmps28
        go_wp2
        go_ret
        exact ⟨rfl, HM.out, Kept.refl _ _⟩
      · have e1 : arE ⟨b, g, false, lf, kp⟩ n k = 0 := by simp [arE, h1, h2]
        have e2 : arS ⟨b, g, false, lf, kp⟩ n k = ⟨b, g, false, n, k⟩ := by simp [arS, h1, h2]
        rw [e1, e2]
        clear e1 e2
        go_enter Try.func28, Try.ntmps28
        go_wp2
        go_ret
        obtain ⟨m1, q1⟩ := HM.out.sleft n
        obtain ⟨m2, q2⟩ := m1.skeep k
        exact ⟨rfl, m2, q1.trans q2⟩

set_option maxHeartbeats 4000000 in
theorem rrevive_any (w : World) (P : Nat) (V L : Value) (s : Md) (h : Rmd w P V L s) :
    Calls Try.prog 29 #[.pointer (some ⟨P, 0, none⟩)] w fun e w' => e = .returned (.tuple #[]) ∧ Rmd w' P V L ⟨s.b, s.g, false, 0, s.keep⟩ ∧ Kept [P] w w' := by
  have HM := Hid.mk h
  have c1 := h.c1
  have c2 := h.c2
  have f1 := h.fz 1
  have f2 := h.fz 2
  clear h
  go_enter Try.func29, Try.ntmps29
  go_wp2
  go_end0
  obtain ⟨m1, q1⟩ := HM.out.sdead false
  obtain ⟨m2, q2⟩ := m1.sleft 0
  exact ⟨rfl, m2, q1.trans q2⟩

set_option maxHeartbeats 4000000 in
theorem rforget_any (w : World) (P : Nat) (V L : Value) (s : Md) (h : Rmd w P V L s) :
    Calls Try.prog 34 #[.pointer (some ⟨P, 0, none⟩)] w fun e w' => e = .returned (.tuple #[]) ∧ Rmd w' P V (.slice none 0 0) { s with g := [] } ∧ Kept (P :: L.ownBlock.toList) w w' := by
  have HM := Hid.mk h
  have c4 := h.c4
  have f4 := h.fz 4
  clear h
  go_enter Try.func34, Try.ntmps34
  go_wp2
  go_end0
  obtain ⟨m1, q1⟩ := HM.out.slog (L' := .slice none 0 0) [] (Kept.refl _ _) ⟨rfl, .inl ⟨rfl, rfl⟩⟩
  exact ⟨rfl, m1, q1⟩

set_option maxHeartbeats 4000000 in
theorem rbytes_any (w : World) (P : Nat) (V L : Value) (s : Md) (h : Rmd w P V L s) (ok : s.b.length ≤ 268435456) :
    Calls Try.prog 42 #[.pointer (some ⟨P, 0, none⟩)] w fun e w' => ∃ bo c, e = .returned (.slice bo s.b.length c) ∧ w'.ownsRow w.heap.size 5 1 (.slice bo s.b.length c) s.b.length (s.b.map byt) ∧ Kept [] w w' := by
  obtain ⟨vo, vc, eV, n1, -, -, -⟩ := row_form2 h.row
  subst eV
  have c0 := h.c0
  obtain ⟨bo, c, w1, hrun, h1, k1⟩ := app_none w 29 vo _ vc s.b (reads_row h.row) rfl (by omega) n1
  have c0' : (w.alloc (.cells #[] 5)).cell? ⟨P, 0, none⟩ = some (.slice vo s.b.length vc) := (h.keep ((Kept.refl _ _).alloc _)).c0
  have H1 := Hid.mk (And.intro h1 k1)
  clear h h1 k1
  obtain ⟨m, em⟩ : ∃ m, s.b.length = m := ⟨_, rfl⟩
  rw [em] at c0 c0' hrun H1 ⊢
  clear em
  go_enter Try.func42, Try.ntmps42
  go_wp2_with (at_builtin; refine wpList_app_eq' rfl _ _ 29 rfl _ _ _ _ rfl rfl hrun ?_)
  go_ret
  exact ⟨bo, c, rfl, H1.out⟩

set_option maxHeartbeats 4000000 in
theorem rlog_any (w : World) (P : Nat) (V L : Value) (s : Md) (h : Rmd w P V L s) (ok : s.g.length ≤ 8796093022208) :
    Calls Try.prog 44 #[.pointer (some ⟨P, 0, none⟩)] w fun e w' => ∃ bo c, e = .returned (.slice bo s.g.length c) ∧ w'.ownsRow w.heap.size 63 2 (.slice bo s.g.length c) s.g.length (spc s.g) ∧ Kept [] w w' := by
  obtain ⟨vo, vc, eV, n1, -, -, -⟩ := row_form2 h.log
  subst eV
  have c0 := h.c4
  obtain ⟨bo, c, w1, hrun, h1, k1⟩ := app_noneS w 30 vo _ vc s.g (rds_row h.log) rfl (by omega) n1
  have c0' : (w.alloc (.cells #[] 63)).cell? ⟨P, 4, none⟩ = some (.slice vo s.g.length vc) := (h.keep ((Kept.refl _ _).alloc _)).c4
  have H1 := Hid.mk (And.intro h1 k1)
  clear h h1 k1
  obtain ⟨m, em⟩ : ∃ m, s.g.length = m := ⟨_, rfl⟩
  rw [em] at c0 c0' hrun H1 ⊢
  clear em
  go_enter Try.func44, Try.ntmps44
  go_wp2_with (at_builtin; refine wpList_app_eq' rfl _ _ 30 rfl _ _ _ _ rfl rfl hrun ?_)
  go_ret
  exact ⟨bo, c, rfl, H1.out⟩
end Go.Proofs.Ytiojcfffhcipnaa
