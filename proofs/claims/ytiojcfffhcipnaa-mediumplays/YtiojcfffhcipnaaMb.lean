import Derived.Test.YtiojcfffhcipnaaMa
import Derived.Deep.RegionHeldLaw
namespace Go.Proofs.Ytiojcfffhcipnaa
open Go.RowKit
open Go.MuLone

theorem Kept.at {w w' : World} {P : Nat} (h : Kept [P] w w') {ks : List Nat} (hp : P ∈ ks) : Kept ks w w' := h.mono (fun x hx => by simp at hx; subst hx; exact .inl hp)
theorem foot_box (P : Nat) (V L : Value) : P ∈ foot P V L := by simp [foot]

theorem Med.other {w : World} {P : Nat} {V L : Value} {s : Md} {k : Int} (h : Med w P V L s k) {w' : World} (hk : Kept [P] w w') : w'.ownsRow 0 5 1 V s.b.length (s.b.map byt) ∧ w'.ownsRow 0 63 2 L s.g.length (spc s.g) :=
  ⟨hk.row h.row (fun g hg => by have := own_ty h.box (by decide) h.row; simp [hg] at this ⊢; exact fun e => this e.symm), hk.row h.log (fun g hg => by have := own_ty h.box (by decide) h.log; simp [hg] at this ⊢; exact fun e => this e.symm)⟩
theorem Med.sdead {w : World} {P : Nat} {V L : Value} {s : Md} {k : Int} (h : Med w P V L s k) (d : Bool) : Med (w.setCell ⟨P, 4, none⟩ (.bool d)) P V L { s with dead := d } k ∧ Kept [P] w (w.setCell ⟨P, 4, none⟩ (.bool d)) := by
  have hk : Kept [P] w (w.setCell ⟨P, 4, none⟩ (.bool d)) := (Kept.refl _ _).setCell (.inl (by simp)) _
  obtain ⟨a, b⟩ := h.other hk
  exact ⟨⟨by rw [heap_setCell_at h.box]; simp, a, b⟩, hk⟩
theorem Med.sleft {w : World} {P : Nat} {V L : Value} {s : Md} {k : Int} (h : Med w P V L s k) (d : Int) : Med (w.setCell ⟨P, 5, none⟩ (.int .i64 d)) P V L { s with left := d } k ∧ Kept [P] w (w.setCell ⟨P, 5, none⟩ (.int .i64 d)) := by
  have hk : Kept [P] w (w.setCell ⟨P, 5, none⟩ (.int .i64 d)) := (Kept.refl _ _).setCell (.inl (by simp)) _
  obtain ⟨a, b⟩ := h.other hk
  exact ⟨⟨by rw [heap_setCell_at h.box]; simp, a, b⟩, hk⟩
theorem Med.skeep {w : World} {P : Nat} {V L : Value} {s : Md} {k : Int} (h : Med w P V L s k) (d : Int) : Med (w.setCell ⟨P, 6, none⟩ (.int .i64 d)) P V L { s with keep := d } k ∧ Kept [P] w (w.setCell ⟨P, 6, none⟩ (.int .i64 d)) := by
  have hk : Kept [P] w (w.setCell ⟨P, 6, none⟩ (.int .i64 d)) := (Kept.refl _ _).setCell (.inl (by simp)) _
  obtain ⟨a, b⟩ := h.other hk
  exact ⟨⟨by rw [heap_setCell_at h.box]; simp, a, b⟩, hk⟩
theorem Med.srow {w w1 : World} {P : Nat} {V V' L : Value} {s : Md} {k : Int} (h : Med w P V L s k) (l : List Nat) (hk : Kept V.ownBlock.toList w w1) (ho : w1.ownsRow 0 5 1 V' l.length (l.map byt)) :
    Med (w1.setCell ⟨P, 2, none⟩ V') P V' L { s with b := l } k ∧ Kept (P :: V.ownBlock.toList) w (w1.setCell ⟨P, 2, none⟩ V') := by
  have hb : w1.heap[P]? = some _ := hk.heap h.box (own_ty h.box (by decide) h.row)
  have hl : w1.ownsRow 0 63 2 L s.g.length (spc s.g) := hk.row h.log (own_two h.log h.row (by decide))
  have h1 : Kept [P] w1 (w1.setCell ⟨P, 2, none⟩ V') := (Kept.refl _ _).setCell (.inl (by simp)) _
  refine ⟨⟨by rw [heap_setCell_at hb]; simp, h1.row ho (fun g hg => by have := own_ty hb (by decide) ho; simp [hg] at this ⊢; exact fun e => this e.symm), h1.row hl (fun g hg => by have := own_ty hb (by decide) hl; simp [hg] at this ⊢; exact fun e => this e.symm)⟩, ?_⟩
  exact (hk.mono (fun x hx => .inl (List.mem_cons_of_mem _ hx))).step h1 (fun x hx => by simp at hx; subst hx; simp)
theorem Med.slog {w w1 : World} {P : Nat} {V L L' : Value} {s : Md} {k : Int} (h : Med w P V L s k) (g : List (Int × Int)) (hk : Kept L.ownBlock.toList w w1) (ho : w1.ownsRow 0 63 2 L' g.length (spc g)) :
    Med (w1.setCell ⟨P, 3, none⟩ L') P V L' { s with g := g } k ∧ Kept (P :: L.ownBlock.toList) w (w1.setCell ⟨P, 3, none⟩ L') := by
  have hb : w1.heap[P]? = some _ := hk.heap h.box (own_ty h.box (by decide) h.log)
  have hl : w1.ownsRow 0 5 1 V s.b.length (s.b.map byt) := hk.row h.row (own_two h.row h.log (by decide))
  have h1 : Kept [P] w1 (w1.setCell ⟨P, 3, none⟩ L') := (Kept.refl _ _).setCell (.inl (by simp)) _
  refine ⟨⟨by rw [heap_setCell_at hb]; simp, h1.row hl (fun g hg => by have := own_ty hb (by decide) hl; simp [hg] at this ⊢; exact fun e => this e.symm), h1.row ho (fun g hg => by have := own_ty hb (by decide) ho; simp [hg] at this ⊢; exact fun e => this e.symm)⟩, ?_⟩
  exact (hk.mono (fun x hx => .inl (List.mem_cons_of_mem _ hx))).step h1 (fun x hx => by simp at hx; subst hx; simp)

set_option maxHeartbeats 4000000 in
theorem new_any (w : World) : Calls Try.prog 8 #[] w fun e w' => e = .returned (.pointer (some ⟨w.heap.size, 0, none⟩)) ∧ Med w' w.heap.size (.slice none 0 0) (.slice none 0 0) ⟨[], [], false, 0, 0⟩ 0 ∧ Kept [] w w' := by
  go_enter Try.func8, Try.ntmps8
  go_wp2
  go_ret
  exact ⟨rfl, ⟨heap_alloc_new _ _, ⟨rfl, .inl ⟨rfl, rfl⟩⟩, ⟨rfl, .inl ⟨rfl, rfl⟩⟩⟩, (Kept.refl _ _).alloc _⟩

set_option maxHeartbeats 4000000 in
theorem load_no (ao : Option Addr) (m cap : Nat) (w : World) (hm : 268435456 < m) :
    Calls Try.prog 13 #[.slice ao m cap] w fun e w' => e = .returned (.tuple #[.pointer none, .int .i64 153]) ∧ w' = w := by
  have h1 : decide ((268435456 : Int) < (m : Int)) = true := by simpa using (by omega : (268435456 : Int) < (m : Int))
  have h2 : (268435456 : Int) < (m : Int) := by omega
  go_enter Try.func13, Try.ntmps13
  go_wp2
  go_ret2
  exact ⟨rfl, rfl⟩

set_option maxHeartbeats 4000000 in
theorem load_ok (ao : Option Addr) (m cap : Nat) (l : List Nat) (w : World) (hr : Reads w ao l) (hm : l.length = m) (hc : ao = none → cap = 0) (hl : m ≤ 268435456) :
    Calls Try.prog 13 #[.slice ao m cap] w fun e w' => ∃ P V, e = .returned (.tuple #[.pointer (some ⟨P, 0, none⟩), .int .i64 0]) ∧ Med w' P V (.slice none 0 0) ⟨l, [], false, 0, 0⟩ 0 ∧ Kept [] w w' ∧ (∀ x ∈ foot P V (.slice none 0 0), w.heap.size ≤ x) := by
  have h1 : decide ((268435456 : Int) < (m : Int)) = false := by simpa using (by omega : (m : Int) ≤ (268435456 : Int))
  have h2 : ¬ (268435456 : Int) < (m : Int) := by omega
  have C1 := Hid.mk (bclone_any ao m cap l w hr hm hc (by omega))
  clear hr hc
  go_enter Try.func13, Try.ntmps13
  go_wp2_with (fail)
  refine C1.out.mono ?_
  rintro e w1 ⟨bo, c, rfl, h1, k1⟩
  have H1 := Hid.mk h1
  have K1 := Hid.mk k1
  clear C1 h1 k1
  go_wp2
  go_ret2
  subst hm
  have ka : Kept [] w1 (w1.alloc (.cells #[.int .i32 0, .int .u32 0, .slice bo l.length c, .slice none 0 0, .bool false, .int .i64 0, .int .i64 0] 79 (0, 0))) := (Kept.refl [] w1).alloc _
  refine ⟨w1.heap.size, .slice bo l.length c, rfl, ⟨heap_alloc_new _ _, ?_, ⟨rfl, .inl ⟨rfl, rfl⟩⟩⟩, K1.out.trans ka, ?_⟩
  · have := ka.row H1.out (by simp)
    refine ⟨this.1, ?_⟩
    rcases this.2 with h | ⟨g, cap, cur, h1, _, h2⟩
    · exact .inl h
    · exact .inr ⟨g, cap, cur, h1, Nat.zero_le _, h2⟩
  · intro x hx
    simp only [foot, List.mem_cons, List.mem_append] at hx
    rcases hx with rfl | hx | hx
    · exact K1.out.size
    · rcases H1.out.2 with ⟨h, _⟩ | ⟨g, cap, cur, h1, hg, h2⟩
      · rw [h] at hx; simp [Value.ownBlock] at hx
      · rw [h1] at hx; simp [Value.ownBlock] at hx; omega
    · simp [Value.ownBlock] at hx

set_option maxHeartbeats 4000000 in
theorem dead_any (w : World) (P : Nat) (V L : Value) (s : Md) (h : Med w P V L s 0) :
    Calls Try.prog 17 #[.pointer (some ⟨P, 0, none⟩)] w fun e w' => e = .returned (.bool s.dead) ∧ Med w' P V L s 0 ∧ Kept [P] w w' := by
  have HM := Hid.mk h
  clear h
  go_enter_defers Try.func17, Try.ntmps17
  go_wp2_with (go_at_call 51; refine (mlock HM.out).mono ?_; rintro e w1 ⟨rfl, h1, k1⟩; have H1 := Hid.mk h1; have K1 := Hid.mk k1; have c2 := h1.c4; clear h1 k1)
  refine leaves_cons (f := 52) (args := #[.pointer (some ⟨P, 0, none⟩)]) (by simp) (by simp [go_sem]) ?_
  refine (munlock H1.out).mono ?_
  rintro e u' w2 ⟨rfl, rfl, h2, k2⟩
  exact ⟨_, results_tmp rfl _ _ _, rfl, h2, K1.out.trans k2⟩

/-- What Arm answers, and what it leaves. -/
def arE (s : Md) (n k : Int) : Int := if s.dead then 152 else if n < 0 ∨ k < 0 then 1 else 0
def arS (s : Md) (n k : Int) : Md := if s.dead then s else if n < 0 ∨ k < 0 then s else { s with left := n, keep := k }

set_option maxHeartbeats 4000000 in
theorem arm_any (w : World) (P : Nat) (V L : Value) (s : Md) (n k : Int) (h : Med w P V L s 0) :
    Calls Try.prog 14 #[.pointer (some ⟨P, 0, none⟩), .int .i64 n, .int .i64 k] w fun e w' => e = .returned (.int .i64 (arE s n k)) ∧ Med w' P V L (arS s n k) 0 ∧ Kept [P] w w' := by
  have HM := Hid.mk h
  clear h
  obtain ⟨b, g, d, lf, kp⟩ := s
  cases d with
  | true =>
    go_enter_defers Try.func14, Try.ntmps14
    go_wp2_with (go_at_call 51; refine (mlock HM.out).mono ?_; rintro e w1 ⟨rfl, h1, k1⟩; have H1 := Hid.mk h1; have K1 := Hid.mk k1; have c2 := h1.c4; clear h1 k1)
    refine leaves_cons (f := 52) (args := #[.pointer (some ⟨P, 0, none⟩)]) (by simp) (by simp [go_sem]) ?_
    refine (munlock H1.out).mono ?_
    rintro e u' w2 ⟨rfl, rfl, h2, k2⟩
    exact ⟨_, results_tmp rfl _ _ _, rfl, h2, K1.out.trans k2⟩
  | false =>
    by_cases hn : n < 0 ∨ k < 0
    · have e1 : arE ⟨b, g, false, lf, kp⟩ n k = 1 := by simp [arE, hn]
      have e2 : arS ⟨b, g, false, lf, kp⟩ n k = ⟨b, g, false, lf, kp⟩ := by simp [arS, hn]
      rw [e1, e2]
      clear e1 e2
      by_cases h1 : n < 0
      · go_enter_defers Try.func14, Try.ntmps14
        go_wp2_with (go_at_call 51; refine (mlock HM.out).mono ?_; rintro e w1 ⟨rfl, h1, k1⟩; have H1 := Hid.mk h1; have K1 := Hid.mk k1; have c2 := h1.c4; clear h1 k1)
        refine leaves_cons (f := 52) (args := #[.pointer (some ⟨P, 0, none⟩)]) (by simp) (by simp [go_sem]) ?_
        refine (munlock H1.out).mono ?_
        rintro e u' w2 ⟨rfl, rfl, h2, k2⟩
        exact ⟨_, results_tmp rfl _ _ _, rfl, h2, K1.out.trans k2⟩
      · have h2 : k < 0 := by omega
        go_enter_defers Try.func14, Try.ntmps14
        go_wp2_with (go_at_call 51; refine (mlock HM.out).mono ?_; rintro e w1 ⟨rfl, h1, k1⟩; have H1 := Hid.mk h1; have K1 := Hid.mk k1; have c2 := h1.c4; clear h1 k1)
        refine leaves_cons (f := 52) (args := #[.pointer (some ⟨P, 0, none⟩)]) (by simp) (by simp [go_sem]) ?_
        refine (munlock H1.out).mono ?_
        rintro e u' w2 ⟨rfl, rfl, h2, k2⟩
        exact ⟨_, results_tmp rfl _ _ _, rfl, h2, K1.out.trans k2⟩
    · have e1 : arE ⟨b, g, false, lf, kp⟩ n k = 0 := by simp [arE, hn]
      have e2 : arS ⟨b, g, false, lf, kp⟩ n k = ⟨b, g, false, n, k⟩ := by simp [arS, hn]
      rw [e1, e2]
      clear e1 e2
      have h1 : ¬ n < 0 := by omega
      have h2 : ¬ k < 0 := by omega
      clear hn
      go_enter_defers Try.func14, Try.ntmps14
      go_wp2_with (go_at_call 51; refine (mlock HM.out).mono ?_; rintro e w1 ⟨rfl, h1, k1⟩; have H1 := Hid.mk h1; have K1 := Hid.mk k1; have c2 := h1.c4; have c5 := h1.c5; have c6 := h1.c6; have f5 := h1.fz 5; have f6 := h1.fz 6; clear h1 k1)
      obtain ⟨m1, q1⟩ := H1.out.sleft n
      obtain ⟨m2, q2⟩ := m1.skeep k
      refine leaves_cons (f := 52) (args := #[.pointer (some ⟨P, 0, none⟩)]) (by simp) (by simp [go_sem]) ?_
      refine (munlock m2).mono ?_
      rintro e u' w2 ⟨rfl, rfl, h2, k2⟩
      exact ⟨_, results_tmp rfl _ _ _, rfl, h2, ((K1.out.trans q1).trans q2).trans k2⟩

set_option maxHeartbeats 4000000 in
theorem disarm_any (w : World) (P : Nat) (V L : Value) (s : Md) (k : Int) (h : Med w P V L s k) :
    Calls Try.prog 53 #[.pointer (some ⟨P, 0, none⟩)] w fun e w' => e = .returned (.tuple #[]) ∧ Med w' P V L { s with left := 0, keep := 0 } k ∧ Kept [P] w w' := by
  have HM := Hid.mk h
  have c5 := h.c5
  have c6 := h.c6
  have f5 := h.fz 5
  have f6 := h.fz 6
  clear h
  go_enter Try.func53, Try.ntmps53
  go_wp2
  go_end0
  obtain ⟨m1, q1⟩ := HM.out.sleft 0
  obtain ⟨m2, q2⟩ := m1.skeep 0
  exact ⟨rfl, m2, q1.trans q2⟩

set_option maxHeartbeats 4000000 in
theorem revive_any (w : World) (P : Nat) (V L : Value) (s : Md) (h : Med w P V L s 0) :
    Calls Try.prog 18 #[.pointer (some ⟨P, 0, none⟩)] w fun e w' => e = .returned (.tuple #[]) ∧ Med w' P V L ⟨s.b, s.g, false, 0, 0⟩ 0 ∧ Kept [P] w w' := by
  have HM := Hid.mk h
  clear h
  go_enter_defers Try.func18, Try.ntmps18
  go_wp2_with (go_at_call 51; refine (mlock HM.out).mono ?_; rintro e w1 ⟨rfl, h1, k1⟩; have H1 := Hid.mk h1; have K1 := Hid.mk k1; have c2 := h1.c4; have f4 := h1.fz 4; clear h1 k1)
  obtain ⟨m1, q1⟩ := H1.out.sdead false
  refine (disarm_any _ P V L _ 1 m1).mono ?_
  rintro e w3 ⟨rfl, m3, q3⟩
  have H3 := Hid.mk m3
  have K3 := Hid.mk ((K1.out.trans q1).trans q3)
  clear m1 q1 m3 q3 c2 f4
  go_wp2
  refine leaves_cons (f := 52) (args := #[.pointer (some ⟨P, 0, none⟩)]) (by simp) (by simp [go_sem]) ?_
  refine (munlock H3.out).mono ?_
  rintro e u' w2 ⟨rfl, rfl, h2, k2⟩
  exact ⟨_, results_none rfl _ _ _, rfl, h2, K3.out.trans k2⟩

set_option maxHeartbeats 4000000 in
theorem forget_any (w : World) (P : Nat) (V L : Value) (s : Md) (h : Med w P V L s 0) :
    Calls Try.prog 25 #[.pointer (some ⟨P, 0, none⟩)] w fun e w' => e = .returned (.tuple #[]) ∧ Med w' P V (.slice none 0 0) { s with g := [] } 0 ∧ Kept (foot P V L) w w' := by
  have HM := Hid.mk h
  clear h
  go_enter_defers Try.func25, Try.ntmps25
  go_wp2_with (go_at_call 51; refine (mlock HM.out).mono ?_; rintro e w1 ⟨rfl, h1, k1⟩; have H1 := Hid.mk h1; have K1 := Hid.mk k1; have c2 := h1.c3; have f4 := h1.fz 3; clear h1 k1)
  obtain ⟨m1, q1⟩ := H1.out.slog (L' := .slice none 0 0) [] (Kept.refl _ _) ⟨rfl, .inl ⟨rfl, rfl⟩⟩
  refine leaves_cons (f := 52) (args := #[.pointer (some ⟨P, 0, none⟩)]) (by simp) (by simp [go_sem]) ?_
  refine (munlock m1).mono ?_
  rintro e u' w2 ⟨rfl, rfl, h2, k2⟩
  refine ⟨_, results_none rfl _ _ _, rfl, h2, ?_⟩
  exact ((K1.out.at (foot_box P V L)).step q1 (fun x hx => by simp [foot] at hx ⊢; rcases hx with h | h <;> simp [h])).step k2 (fun x hx => by simp at hx; subst hx; simp [foot])
end Go.Proofs.Ytiojcfffhcipnaa
