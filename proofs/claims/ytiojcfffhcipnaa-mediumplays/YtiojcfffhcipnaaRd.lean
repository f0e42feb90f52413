import Derived.Test.YtiojcfffhcipnaaRc
namespace Go.Proofs.Ytiojcfffhcipnaa
open Go.RowKit

/-- The document's piece, in block R. -/
def RPc (w : World) (R P : Nat) (pa pl : Int) : Prop := w.heap[R]? = some (.cells #[.pointer (some ⟨P, 0, none⟩), .int .i64 pa, .int .i64 pl] 104 (0, 0))
theorem RPc.kept {w w' : World} {R P : Nat} {pa pl : Int} {ks : List Nat} (h : RPc w R P pa pl) (hk : Kept ks w w') (hn : R ∉ ks) : RPc w' R P pa pl := hk.heap h hn
theorem RPc.cells {w : World} {R P : Nat} {pa pl : Int} (h : RPc w R P pa pl) : w.cell? ⟨R, 0, none⟩ = some (.pointer (some ⟨P, 0, none⟩)) ∧ w.cell? ⟨R, 1, none⟩ = some (.int .i64 pa) ∧ w.cell? ⟨R, 2, none⟩ = some (.int .i64 pl) := by
  unfold RPc at h
  refine ⟨?_, ?_, ?_⟩ <;> simp [World.cell?, h]
theorem rfoot_ne {w : World} {P R : Nat} {V L : Value} {s : Md} {cs : Array Value} {t : Nat} (h : Rmd w P V L s) (hR : w.heap[R]? = some (.cells cs t (0, 0))) (h1 : t ≠ 81) (h2 : t ≠ 5) (h3 : t ≠ 63) : R ∉ foot P V L := by
  simp only [foot, List.mem_cons, List.mem_append, not_or]
  refine ⟨fun e => ?_, own_ty hR h2 h.row, own_ty hR h3 h.log⟩
  subst e
  rw [h.box] at hR
  simp at hR
  exact h1 hR.2.symm

set_option maxHeartbeats 4000000 in
theorem rpsize_any (w : World) (R P : Nat) (pa pl : Int) (h : RPc w R P pa pl) : Calls Try.prog 48 #[.pointer (some ⟨R, 0, none⟩)] w fun e w' => e = .returned (.int .i64 pl) ∧ w' = w := by
  obtain ⟨-, -, c2⟩ := h.cells
  clear h
  go_enter Try.func48, Try.ntmps48
  go_wp2
  go_ret
  exact ⟨rfl, rfl⟩

/-- What a read of a piece leaves. -/
def RpP (w : World) (P : Nat) (V L : Value) (s : Md) (pa pl a n : Int) (e : Ending) (w' : World) : Prop :=
  ∃ bo c L', e = .returned (.tuple #[.slice bo (rdB s pa pl a n).length c, .int .i64 (rdE s pa pl a n)]) ∧ w'.ownsRow w.heap.size 5 1 (.slice bo (rdB s pa pl a n).length c) (rdB s pa pl a n).length ((rdB s pa pl a n).map byt) ∧ Rmd w' P V L' (rdS s pa pl a n) ∧ Kept (P :: L.ownBlock.toList) w w' ∧ Lies w L L'

theorem rd_rr (s : Md) (pa pl a n : Int) (h : inB a n pl = true) : rdE s pa pl a n = rrE s (pa + a) n ∧ rdB s pa pl a n = rrB s (pa + a) n ∧ rdS s pa pl a n = rrS s (pa + a) n := by
  simp [rdE, rrE, rdB, rrB, rdS, rrS, h]
/-- Read of a medium, both sides. -/
theorem rd_med (s : Md) (a n : Int) (hb : s.b.length ≤ 268435456) : rdE s 0 268435456 a n = rrE s a n ∧ rdB s 0 268435456 a n = rrB s a n ∧ rdS s 0 268435456 a n = rrS s a n := by
  by_cases hi : inB a n (s.b.length : Int) = true
  · have hj : inB a n 268435456 = true := by simp only [inB, decide_eq_true_eq] at hi ⊢; omega
    have := rd_rr s 0 268435456 a n hj
    rw [Int.zero_add] at this
    exact this
  · have hi' : inB a n (s.b.length : Int) = false := by simpa using hi
    simp [rdE, rrE, rdB, rrB, rdS, rrS, hi']

set_option maxHeartbeats 8000000 in
set_option maxRecDepth 100000 in
theorem rpread_any (w : World) (R P : Nat) (V L : Value) (s : Md) (pa pl a n : Int) (hp : RPc w R P pa pl) (h : Rmd w P V L s) (ok : s.b.length ≤ 268435456) (okg : s.g.length ≤ 8796093022207) (a1 : a ≤ 9223372036854775807) (p0 : 0 ≤ pa) (p1 : pa ≤ 268435456) (p2 : 0 ≤ pl) (p3 : pl ≤ 268435456) :
    Calls Try.prog 47 #[.pointer (some ⟨R, 0, none⟩), .int .i64 a, .int .i64 n] w (RpP w P V L s pa pl a n) := by
  unfold RpP
  obtain ⟨c0, c1, c2⟩ := hp.cells
  have d1 := h.c1
  have HM := Hid.mk h
  obtain ⟨b, g, d, lf, kp⟩ := s
  simp only at d1 ok okg
  cases d with
  | true =>
    have e1 : rdB ⟨b, g, true, lf, kp⟩ pa pl a n = [] := by simp [rdB]
    have e2 : rdE ⟨b, g, true, lf, kp⟩ pa pl a n = 152 := by simp [rdE]
    have e3 : rdS ⟨b, g, true, lf, kp⟩ pa pl a n = ⟨b, g, true, lf, kp⟩ := by simp [rdS]
    rw [e1, e2, e3]
    clear e1 e2 e3 h hp
    go_enter Try.func47, Try.ntmps47
    go_wp2
    go_ret2
    exact ⟨none, 0, L, rfl, own_nil _ _ _ _, HM.out, Kept.refl _ _, Lies.refl _ _⟩
  | false =>
    have CL := Hid.mk (fun u => rlies_any a n pl u a1 p2 (by omega))
    by_cases hin : inB a n pl = true
    · obtain ⟨e2, e1, e3⟩ := rd_rr ⟨b, g, false, lf, kp⟩ pa pl a n hin
      rw [e1, e2, e3]
      rw [hin] at CL
      simp only [inB, decide_eq_true_eq] at hin
      have C := Hid.mk (rread_any w.drew P V L ⟨b, g, false, lf, kp⟩ (pa + a) n h.drew ok okg (by omega))
      have v1 : wrap64 (pa + a) = pa + a := by unfold wrap64; omega
      have v2 : IntKind.i64.wrap (pa + a) = pa + a := by unfold IntKind.wrap; simp [IntKind.bits, IntKind.signed]; omega
      have hF : R ∉ P :: L.ownBlock.toList := fun hm => rfoot_ne h hp (by decide) (by decide) (by decide) (inL P V L _ hm)
      have HP := Hid.mk (And.intro hp hF)
      clear h hp hF e1 e2 e3 hin a1 p0 p1 p2 p3 ok okg
      go_enter Try.func47, Try.ntmps47
      go_wp2_with (fail)
      refine (CL.out w).mono ?_
      rintro e wq ⟨rfl, hwq⟩
      obtain rfl := hwq.symm
      go_wp2_with (fail)
      go_region_held_law (fun u => u.cell? ⟨R, 0, none⟩ = some (.pointer (some ⟨P, 0, none⟩)) ∧ u.cell? ⟨R, 1, none⟩ = some (.int .i64 pa)) (first | exact ⟨c0, c1⟩ | exact ⟨y0, y1⟩ | go_keep) (first | (go_at_call 40; refine C.out.mono ?_; rintro e w1 ⟨bo, c, L', rfl, h1, h2, h3, h4⟩; obtain ⟨y0, y1, y2⟩ := (RPc.kept (w := w.drew) HP.out.1 h3 HP.out.2).cells; have H := Hid.mk (And.intro h1 (And.intro h2 (And.intro h3 h4))); clear h1 h2 h3 h4))
      clear y0 y1 y2
      go_wp2
      go_ret2
      exact ⟨bo, c, L', rfl, H.out.1, H.out.2.1, H.out.2.2.1.undrew, H.out.2.2.2.of_kept ((Kept.refl [] w).drew)⟩
    · have hin' : inB a n pl = false := by simpa using hin
      have e1 : rdB ⟨b, g, false, lf, kp⟩ pa pl a n = [] := by simp [rdB, hin']
      have e2 : rdE ⟨b, g, false, lf, kp⟩ pa pl a n = 151 := by simp [rdE, hin']
      have e3 : rdS ⟨b, g, false, lf, kp⟩ pa pl a n = ⟨b, g, false, lf, kp⟩ := by simp [rdS, hin']
      rw [e1, e2, e3]
      rw [hin'] at CL
      clear e1 e2 e3 h hp hin hin' a1
      go_enter Try.func47, Try.ntmps47
      go_wp2_with (fail)
      refine (CL.out w).mono ?_
      rintro e wq ⟨rfl, hwq⟩
      obtain rfl := hwq.symm
      go_wp2
      go_ret2
      exact ⟨none, 0, L, rfl, own_nil _ _ _ _, HM.out, Kept.refl _ _, Lies.refl _ _⟩

/-- What the document's Piece leaves. -/
def RPP (w : World) (P : Nat) (s : Md) (pa pl : Int) (e : Ending) (w' : World) : Prop :=
  Kept [] w w' ∧ ((inB pa pl (s.b.length : Int) = true ∧ ∃ R, e = .returned (.tuple #[.pointer (some ⟨R, 0, none⟩), .int .i64 0]) ∧ RPc w' R P pa pl ∧ w.heap.size ≤ R) ∨ (inB pa pl (s.b.length : Int) = false ∧ e = .returned (.tuple #[.pointer none, .int .i64 151])))

set_option maxHeartbeats 8000000 in
set_option maxRecDepth 100000 in
theorem rpiece_any (w : World) (P : Nat) (V L : Value) (s : Md) (pa pl : Int) (h : Rmd w P V L s) (ok : s.b.length ≤ 268435456) (a1 : pa ≤ 9223372036854775807) :
    Calls Try.prog 35 #[.pointer (some ⟨P, 0, none⟩), .agg #[.int .i64 pa, .int .i64 pl]] w (RPP w P s pa pl) := by
  unfold RPP
  obtain ⟨m, em⟩ : ∃ m, s.b.length = m := ⟨_, rfl⟩
  rw [em] at ok ⊢
  have CA := Hid.mk (fun u => rlies_any pa pl (m : Int) u a1 (by omega) (by omega))
  obtain ⟨z, ez⟩ : ∃ z, inB pa pl (m : Int) = z := ⟨_, rfl⟩
  rw [ez] at CA ⊢
  obtain ⟨bo, c, eV, -, -⟩ := h.bounds
  rw [em] at eV
  subst eV
  obtain ⟨w0, ew0, k0, hb0⟩ := alloc_new w (.cells #[.int .i64 pa, .int .i64 pl] 63 (0, 0))
  obtain ⟨Q, eQ⟩ : ∃ Q, Q = w.heap.size := ⟨_, rfl⟩
  rw [← eQ] at hb0
  obtain ⟨d0, d1⟩ := cells2 hb0
  have c0 := (h.keep k0).c0
  have K0 := Hid.mk k0
  have HB0 := Hid.mk hb0
  clear ez ok a1 h k0 hb0
  cases z with
  | true =>
    go_enter Try.func35, Try.ntmps35
    go_wp2_with (fail)
    rw [← eQ]
    clear ew0 eQ
    go_quiet ((go_at_call 57; exact Calls.quiet_of_same (CA.out _)))
    obtain ⟨w2, ew2, k2⟩ : ∃ w2, w0.drewN nq = w2 ∧ Kept [] w0 w2 := ⟨_, rfl, (Kept.refl _ _).drewN _⟩
    rw [ew2]
    obtain ⟨d0', d1'⟩ := cells2 (k2.heap HB0.out (by simp))
    have K2 := Hid.mk (K0.out.trans k2)
    clear ew2 k2 d0 d1 c0
    go_wp2
    go_ret2
    obtain ⟨w3, ew3, k3, hb3⟩ := alloc_new w2 (.cells #[.pointer (some ⟨P, 0, none⟩), .int .i64 pa, .int .i64 pl] 104 (0, 0))
    rw [ew3]
    exact ⟨K2.out.trans k3, .inl ⟨trivial, w2.heap.size, rfl, hb3, K2.out.size⟩⟩
  | false =>
    go_enter Try.func35, Try.ntmps35
    go_wp2_with (fail)
    rw [← eQ]
    clear ew0 eQ
    go_quiet ((go_at_call 57; exact Calls.quiet_of_same (CA.out _)))
    obtain ⟨w2, ew2, k2⟩ : ∃ w2, w0.drewN nq = w2 ∧ Kept [] w0 w2 := ⟨_, rfl, (Kept.refl _ _).drewN _⟩
    rw [ew2]
    have K2 := Hid.mk (K0.out.trans k2)
    clear ew2 k2 d0 d1 c0
    go_wp2
    go_ret2
    exact ⟨K2.out, .inr ⟨trivial, rfl⟩⟩
end Go.Proofs.Ytiojcfffhcipnaa
