import Derived.Test.YtiojcfffhcipnaaMh
namespace Go.Proofs.Ytiojcfffhcipnaa
open Go.RowKit
open Go.MuLone

theorem own_nil (w : World) (B e size : Nat) : w.ownsRow B e size (.slice none 0 0) 0 [] := ⟨by simp, .inl ⟨rfl, rfl⟩⟩

/-- What a read of a part leaves. -/
def RdP (w : World) (P : Nat) (V L : Value) (s : Md) (pa pl a n : Int) (e : Ending) (w' : World) : Prop :=
  ∃ bo c L', e = .returned (.tuple #[.slice bo (rdB s pa pl a n).length c, .int .i64 (rdE s pa pl a n)]) ∧ w'.ownsRow w.heap.size 5 1 (.slice bo (rdB s pa pl a n).length c) (rdB s pa pl a n).length ((rdB s pa pl a n).map byt) ∧ Med w' P V L' (rdS s pa pl a n) 0 ∧ Kept (P :: L.ownBlock.toList) w w' ∧ Lies w L L'

set_option maxHeartbeats 4000000 in
theorem rw_any (w : World) (P : Nat) (V L : Value) (s : Md) (pa pl a n : Int) (h : Med w P V L s 0) (ok : s.b.length ≤ 268435456) (okg : s.g.length ≤ 8796093022207) (a1 : a ≤ 9223372036854775807) (p0 : 0 ≤ pa) (p1 : pa ≤ 268435456) (p2 : 0 ≤ pl) (p3 : pl ≤ 268435456) :
    Calls Try.prog 54 #[.pointer (some ⟨P, 0, none⟩), .agg #[.int .i64 pa, .int .i64 pl], .int .i64 a, .int .i64 n] w (RdP w P V L s pa pl a n) := by
  unfold RdP
  by_cases hd : s.dead = true
  · refine (rw_dead w P V L s pa pl a n h hd).mono ?_
    rintro e w' ⟨rfl, h1, k1⟩
    have e1 : rdB s pa pl a n = [] := by simp [rdB, hd]
    have e2 : rdE s pa pl a n = 152 := by simp [rdE, hd]
    have e3 : rdS s pa pl a n = s := by simp [rdS, hd]
    rw [e1, e2, e3]
    exact ⟨none, 0, L, rfl, own_nil _ _ _ _, h1, k1.at (by simp), Lies.refl _ _⟩
  · have hd' : s.dead = false := by simpa using hd
    by_cases hi : (inB a n pl && inB (pa + a) n (s.b.length : Int)) = true
    · refine (rw_ok w P V L s pa pl a n h ok okg hd' a1 p0 p1 p2 p3 hi).mono ?_
      rintro e w' ⟨bo, c, L', rfl, h1, h2, h3, h4⟩
      have e1 : rdB s pa pl a n = (s.b.drop (pa + a).toNat).take n.toNat := by simp only [rdB, hd', hi]; rfl
      have e2 : rdE s pa pl a n = 0 := by simp only [rdE, hd', hi]; rfl
      have e3 : rdS s pa pl a n = { s with g := s.g ++ [(pa + a, n)] } := by simp only [rdS, hd', hi]; rfl
      have e4 : ((s.b.drop (pa + a).toNat).take n.toNat).length = n.toNat := by
        simp only [Bool.and_eq_true, inB, decide_eq_true_eq] at hi
        simp
        omega
      rw [e1, e2, e3, e4]
      exact ⟨bo, c, L', rfl, h1, h2, h3, h4⟩
    · have hi' : (inB a n pl && inB (pa + a) n (s.b.length : Int)) = false := by simpa using hi
      refine (rw_no w P V L s pa pl a n h ok hd' a1 p0 p1 p2 p3 hi').mono ?_
      rintro e w' ⟨rfl, h1, k1⟩
      have e1 : rdB s pa pl a n = [] := by simp only [rdB, hd', hi']; rfl
      have e2 : rdE s pa pl a n = 151 := by simp only [rdE, hd', hi']; rfl
      have e3 : rdS s pa pl a n = s := by simp only [rdS, hd', hi']; rfl
      rw [e1, e2, e3]
      exact ⟨none, 0, L, rfl, own_nil _ _ _ _, h1, k1.at (by simp), Lies.refl _ _⟩

theorem rdS_ok {s : Md} {pa pl a n : Int} (ok : Mok s) : Mok (rdS s pa pl a n) := by
  obtain ⟨h1, h2, h3, h4, h5, h6⟩ := ok
  unfold rdS
  split
  · exact ⟨h1, h2, h3, h4, h5, h6⟩
  · split
    · exact ⟨h1, h2, h3, h4, h5, h6⟩
    · exact ⟨h1, h2, h3, h4, h5, h6⟩
theorem rdS_g {s : Md} {pa pl a n : Int} : (rdS s pa pl a n).g.length ≤ s.g.length + 1 := by
  unfold rdS
  split
  · omega
  · split
    · simp
    · omega

set_option maxHeartbeats 4000000 in
set_option maxRecDepth 100000 in
theorem read_any (w : World) (P : Nat) (V L : Value) (s : Md) (a n : Int) (h : Med w P V L s 0) (ok : s.b.length ≤ 268435456) (okg : s.g.length ≤ 8796093022207) (a1 : a ≤ 9223372036854775807) :
    Calls Try.prog 20 #[.pointer (some ⟨P, 0, none⟩), .int .i64 a, .int .i64 n] w (RdP w P V L s 0 268435456 a n) := by
  have C := Hid.mk (rw_any w P V L s 0 268435456 a n h ok okg a1 (by omega) (by omega) (by omega) (by omega))
  clear h
  go_enter Try.func20, Try.ntmps20
  go_wp2_with (fail)
  refine C.out.mono ?_
  rintro e w1 ⟨bo, c, L', rfl, h1, h2, h3, h4⟩
  have H := Hid.mk (And.intro h1 (And.intro h2 (And.intro h3 h4)))
  clear h1 h2 h3 h4 C
  go_wp2
  go_ret2
  exact ⟨bo, c, L', rfl, H.out⟩

/-- A piece that lies in block R. -/
def Pc (w : World) (R P : Nat) (pa pl : Int) : Prop := w.heap[R]? = some (.cells #[.pointer (some ⟨P, 0, none⟩), .int .i64 pa, .int .i64 pl] 101 (0, 0))
theorem Pc.kept {w w' : World} {R P : Nat} {pa pl : Int} {ks : List Nat} (h : Pc w R P pa pl) (hk : Kept ks w w') (hn : R ∉ ks) : Pc w' R P pa pl := hk.heap h hn
theorem Pc.cells {w : World} {R P : Nat} {pa pl : Int} (h : Pc w R P pa pl) : w.cell? ⟨R, 0, none⟩ = some (.pointer (some ⟨P, 0, none⟩)) ∧ w.cell? ⟨R, 1, none⟩ = some (.int .i64 pa) ∧ w.cell? ⟨R, 2, none⟩ = some (.int .i64 pl) := by
  unfold Pc at h
  refine ⟨?_, ?_, ?_⟩ <;> simp [World.cell?, h]

set_option maxHeartbeats 4000000 in
theorem psize_any (w : World) (R P : Nat) (pa pl : Int) (h : Pc w R P pa pl) : Calls Try.prog 93 #[.pointer (some ⟨R, 0, none⟩)] w fun e w' => e = .returned (.int .i64 pl) ∧ w' = w := by
  obtain ⟨-, -, c2⟩ := h.cells
  clear h
  go_enter Try.func93, Try.ntmps93
  go_wp2
  go_ret
  exact ⟨rfl, rfl⟩

theorem foot_ne {w : World} {P R : Nat} {V L : Value} {s : Md} {k : Int} {cs : Array Value} {t : Nat} (h : Med w P V L s k) (hR : w.heap[R]? = some (.cells cs t (0, 0))) (h1 : t ≠ 79) (h2 : t ≠ 5) (h3 : t ≠ 63) : R ∉ foot P V L := by
  simp only [foot, List.mem_cons, List.mem_append, not_or]
  refine ⟨fun e => ?_, own_ty hR h2 h.row, own_ty hR h3 h.log⟩
  subst e
  rw [h.box] at hR
  simp at hR
  exact h1 hR.2.symm

set_option maxHeartbeats 8000000 in
set_option maxRecDepth 100000 in
theorem pread_any (w : World) (R P : Nat) (V L : Value) (s : Md) (pa pl a n : Int) (hp : Pc w R P pa pl) (h : Med w P V L s 0) (ok : s.b.length ≤ 268435456) (okg : s.g.length ≤ 8796093022207) (a1 : a ≤ 9223372036854775807) (p0 : 0 ≤ pa) (p1 : pa ≤ 268435456) (p2 : 0 ≤ pl) (p3 : pl ≤ 268435456) :
    Calls Try.prog 92 #[.pointer (some ⟨R, 0, none⟩), .int .i64 a, .int .i64 n] w (RdP w P V L s pa pl a n) := by
  have C := Hid.mk (rw_any w.drew P V L s pa pl a n h.drew ok okg a1 p0 p1 p2 p3)
  obtain ⟨c0, c1, c2⟩ := hp.cells
  have hF : R ∉ P :: L.ownBlock.toList := fun hm => foot_ne h hp (by decide) (by decide) (by decide) (by simp [foot] at hm ⊢; rcases hm with h | h <;> simp [h])
  have HP := Hid.mk (And.intro hp hF)
  clear h hp hF
  go_enter Try.func92, Try.ntmps92
  go_wp2_with (fail)
  go_region_held_law (fun u => u.cell? ⟨R, 0, none⟩ = some (.pointer (some ⟨P, 0, none⟩)) ∧ u.cell? ⟨R, 1, none⟩ = some (.int .i64 pa) ∧ u.cell? ⟨R, 2, none⟩ = some (.int .i64 pl)) (first | exact ⟨c0, c1, c2⟩ | exact ⟨d0, d1, d2⟩ | go_keep) (first | (go_at_call 54; refine C.out.mono ?_; rintro e w1 ⟨bo, c, L', rfl, h1, h2, h3, h4⟩; obtain ⟨d0, d1, d2⟩ := (Pc.kept (w := w.drew) HP.out.1 h3 HP.out.2).cells; have H := Hid.mk (And.intro h1 (And.intro h2 (And.intro h3 h4))); clear h1 h2 h3 h4))
  clear d0 d1 d2
  go_wp2
  go_ret2
  exact ⟨bo, c, L', rfl, H.out.1, H.out.2.1, H.out.2.2.1.undrew, H.out.2.2.2.of_kept ((Kept.refl [] w).drew)⟩

/-- What Piece leaves. -/
def PcP (w : World) (P : Nat) (V L : Value) (s : Md) (pa pl : Int) (e : Ending) (w' : World) : Prop :=
  Med w' P V L s 0 ∧ Kept [P] w w' ∧ ((inB pa pl (s.b.length : Int) = true ∧ ∃ R, e = .returned (.tuple #[.iface 99 (.pointer (some ⟨R, 0, none⟩)), .int .i64 0]) ∧ Pc w' R P pa pl ∧ w.heap.size ≤ R) ∨ (inB pa pl (s.b.length : Int) = false ∧ e = .returned (.tuple #[.nilIface, .int .i64 151])))

set_option maxHeartbeats 8000000 in
set_option maxRecDepth 100000 in
theorem piece_any (w : World) (P : Nat) (V L : Value) (s : Md) (pa pl : Int) (h : Med w P V L s 0) (ok : s.b.length ≤ 268435456) (a1 : pa ≤ 9223372036854775807) :
    Calls Try.prog 22 #[.pointer (some ⟨P, 0, none⟩), .agg #[.int .i64 pa, .int .i64 pl]] w (PcP w P V L s pa pl) := by
  unfold PcP
  obtain ⟨b, g, d, lf, kp⟩ := s
  simp only at ok ⊢
  have HM := Hid.mk h
  clear h
  obtain ⟨m, em⟩ : ∃ m, b.length = m := ⟨_, rfl⟩
  rw [em] at ok ⊢
  have CA := Hid.mk (fun u => lies_any pa pl (m : Int) u a1 (by omega) (by omega))
  obtain ⟨z, ez⟩ : ∃ z, inB pa pl (m : Int) = z := ⟨_, rfl⟩
  rw [ez] at CA ⊢
  clear ez ok a1
  cases z with
  | true =>
    go_enter_defers Try.func22, Try.ntmps22
    go_wp2_with (fail)
    obtain ⟨w0, ew0, k0, hb0⟩ := alloc_new w (.cells #[.int .i64 pa, .int .i64 pl] 63 (0, 0))
    rw [ew0]
    clear ew0
    obtain ⟨Q, eQ⟩ : ∃ Q, Q = w.heap.size := ⟨_, rfl⟩
    rw [← eQ] at hb0 ⊢
    clear eQ
    refine (mlock (HM.out.keep k0)).mono ?_
    rintro e w1 ⟨rfl, h1, k1⟩
    have H1 := Hid.mk h1
    have hb1 := k1.heap hb0 (fun hm => by simp at hm; subst hm; have := (HM.out.keep k0).box; rw [hb0] at this; simp at this)
    obtain ⟨d0, d1⟩ := cells2 hb1
    have HB1 := Hid.mk hb1
    have K1 := Hid.mk ((k0.mono (by simp) : Kept [P] w w0).trans k1)
    obtain ⟨bo, c, eV, -, -, -, -⟩ := row_form2 h1.row
    simp only [em] at eV
    subst eV
    have c2 := h1.c2
    clear h1 k1 k0 hb0 hb1
    go_wp2_with (fail)
    go_quiet ((go_at_call 55; exact Calls.quiet_of_same (CA.out _)))
    obtain ⟨w2, ew2, k2⟩ : ∃ w2, w1.drewN nq = w2 ∧ Kept [] w1 w2 := ⟨_, rfl, (Kept.refl _ _).drewN _⟩
    rw [ew2]
    have H2 := Hid.mk (H1.out.keep k2)
    have K2 := Hid.mk (K1.out.step k2 (by simp))
    obtain ⟨d0', d1'⟩ := cells2 (k2.heap HB1.out (by simp))
    clear ew2 k2 d0 d1 c2
    go_wp2
    obtain ⟨w3, ew3, k3, hb3⟩ := alloc_new w2 (.cells #[.pointer (some ⟨P, 0, none⟩), .int .i64 pa, .int .i64 pl] 101 (0, 0))
    rw [ew3]
    have H3 := Hid.mk (H2.out.keep k3)
    refine leaves_cons (f := 52) (args := #[.pointer (some ⟨P, 0, none⟩)]) (by simp) (by simp [go_sem]) ?_
    refine (munlock H3.out).mono ?_
    rintro e u' w4 ⟨rfl, rfl, h4, k4⟩
    refine ⟨_, results_tmp2 rfl _ _ _, h4, (K2.out.step k3 (by simp)).trans k4, .inl ⟨trivial, w2.heap.size, rfl, ?_, K2.out.size⟩⟩
    exact Pc.kept hb3 k4 (fun hm => by simp at hm; have := H3.out.box; rw [← hm, hb3] at this; simp at this)
  | false =>
    go_enter_defers Try.func22, Try.ntmps22
    go_wp2_with (fail)
    obtain ⟨w0, ew0, k0, hb0⟩ := alloc_new w (.cells #[.int .i64 pa, .int .i64 pl] 63 (0, 0))
    rw [ew0]
    clear ew0
    obtain ⟨Q, eQ⟩ : ∃ Q, Q = w.heap.size := ⟨_, rfl⟩
    rw [← eQ] at hb0 ⊢
    clear eQ
    refine (mlock (HM.out.keep k0)).mono ?_
    rintro e w1 ⟨rfl, h1, k1⟩
    have H1 := Hid.mk h1
    have hb1 := k1.heap hb0 (fun hm => by simp at hm; subst hm; have := (HM.out.keep k0).box; rw [hb0] at this; simp at this)
    obtain ⟨d0, d1⟩ := cells2 hb1
    have K1 := Hid.mk ((k0.mono (by simp) : Kept [P] w w0).trans k1)
    obtain ⟨bo, c, eV, -, -, -, -⟩ := row_form2 h1.row
    simp only [em] at eV
    subst eV
    have c2 := h1.c2
    clear h1 k1 k0 hb0 hb1
    go_wp2_with (fail)
    go_quiet ((go_at_call 55; exact Calls.quiet_of_same (CA.out _)))
    obtain ⟨w2, ew2, k2⟩ : ∃ w2, w1.drewN nq = w2 ∧ Kept [] w1 w2 := ⟨_, rfl, (Kept.refl _ _).drewN _⟩
    rw [ew2]
    have H2 := Hid.mk (H1.out.keep k2)
    have K2 := Hid.mk (K1.out.step k2 (by simp))
    clear ew2 k2 d0 d1 c2
    go_wp2
    refine leaves_cons (f := 52) (args := #[.pointer (some ⟨P, 0, none⟩)]) (by simp) (by simp [go_sem]) ?_
    refine (munlock H2.out).mono ?_
    rintro e u' w4 ⟨rfl, rfl, h4, k4⟩
    exact ⟨_, results_tmp2 rfl _ _ _, h4, K2.out.trans k4, .inr ⟨trivial, rfl⟩⟩
end Go.Proofs.Ytiojcfffhcipnaa
