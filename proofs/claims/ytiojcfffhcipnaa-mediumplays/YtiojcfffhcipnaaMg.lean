import Derived.Test.YtiojcfffhcipnaaMf
namespace Go.Proofs.Ytiojcfffhcipnaa
open Go.RowKit
open Go.MuLone

theorem reads_cut {w : World} {ao : Option Addr} {l : List Nat} (h : Reads w ao l) (a k cap : Nat) (hk : a + k ≤ l.length) (hcap : l.length ≤ cap) : Reads w (if cap = a then ao else ao.map (fun x => x.add a)) ((l.drop a).take k) := by
  by_cases h0 : k = 0
  · subst h0; exact .inl (by simp)
  · have hca : cap ≠ a := by omega
    rw [if_neg hca]
    rcases h with h | ⟨g, off, e, hc⟩
    · subst h; simp at hk; omega
    · subst e
      refine .inr ⟨g, off + a, by rw [Option.map_some, addN], fun i hi => ?_⟩
      have hi' : i < k ∧ a + i < l.length := by simp at hi; omega
      have := hc (a + i) hi'.2
      rw [Nat.add_assoc, this]
      simp [List.getElem?_take_of_lt hi'.1, List.getElem?_drop]

/-- What a read answers, and what it leaves. -/
def rdE (s : Md) (pa pl a n : Int) : Int := if s.dead then 152 else if inB a n pl && inB (pa + a) n (s.b.length : Int) then 0 else 151
def rdB (s : Md) (pa pl a n : Int) : List Nat := if s.dead then [] else if inB a n pl && inB (pa + a) n (s.b.length : Int) then (s.b.drop (pa + a).toNat).take n.toNat else []
def rdS (s : Md) (pa pl a n : Int) : Md := if s.dead then s else if inB a n pl && inB (pa + a) n (s.b.length : Int) then { s with g := s.g ++ [(pa + a, n)] } else s

theorem cells2 {w : World} {Q : Nat} {a b : Value} {t : Nat} (h : w.heap[Q]? = some (.cells #[a, b] t (0, 0))) : w.cell? ⟨Q, 0, none⟩ = some a ∧ w.cell? ⟨Q, 1, none⟩ = some b := by simp [World.cell?, h]
theorem alloc_new (w : World) (o : Obj) : ∃ w1, w.alloc o = w1 ∧ Kept [] w w1 ∧ w1.heap[w.heap.size]? = some o := ⟨_, rfl, (Kept.refl _ _).alloc _, heap_alloc_new _ _⟩

set_option maxHeartbeats 8000000 in
set_option maxRecDepth 100000 in
theorem rw_dead (w : World) (P : Nat) (V L : Value) (s : Md) (pa pl a n : Int) (h : Med w P V L s 0) (hd : s.dead = true) :
    Calls Try.prog 54 #[.pointer (some ⟨P, 0, none⟩), .agg #[.int .i64 pa, .int .i64 pl], .int .i64 a, .int .i64 n] w fun e w' => e = .returned (.tuple #[.slice none 0 0, .int .i64 152]) ∧ Med w' P V L s 0 ∧ Kept [P] w w' := by
  obtain ⟨b, g, d, lf, kp⟩ := s
  simp only at hd
  subst hd
  have HM := Hid.mk h
  clear h
  go_enter_defers Try.func54, Try.ntmps54
  go_wp2_with (fail)
  obtain ⟨w0, ew0, k0, hb0⟩ := alloc_new w (.cells #[.int .i64 pa, .int .i64 pl] 63 (0, 0))
  rw [ew0]
  clear ew0
  refine (mlock (HM.out.keep k0)).mono ?_
  rintro e w1 ⟨rfl, h1, k1⟩
  have H1 := Hid.mk h1
  have K1 := Hid.mk ((k0.mono (by simp) : Kept [P] w w0).trans k1)
  have c4 := h1.c4
  clear h1 k1 k0 hb0
  go_wp2
  refine leaves_cons (f := 52) (args := #[.pointer (some ⟨P, 0, none⟩)]) (by simp) (by simp [go_sem]) ?_
  refine (munlock H1.out).mono ?_
  rintro e u' w3 ⟨rfl, rfl, h2, k2⟩
  exact ⟨_, results_tmp2 rfl _ _ _, rfl, h2, K1.out.trans k2⟩

set_option maxHeartbeats 8000000 in
set_option maxRecDepth 100000 in
theorem rw_no (w : World) (P : Nat) (V L : Value) (s : Md) (pa pl a n : Int) (h : Med w P V L s 0) (ok : s.b.length ≤ 268435456) (hd : s.dead = false) (a1 : a ≤ 9223372036854775807) (p0 : 0 ≤ pa) (p1 : pa ≤ 268435456) (p2 : 0 ≤ pl) (p3 : pl ≤ 268435456) (hin : (inB a n pl && inB (pa + a) n (s.b.length : Int)) = false) :
    Calls Try.prog 54 #[.pointer (some ⟨P, 0, none⟩), .agg #[.int .i64 pa, .int .i64 pl], .int .i64 a, .int .i64 n] w fun e w' => e = .returned (.tuple #[.slice none 0 0, .int .i64 151]) ∧ Med w' P V L s 0 ∧ Kept [P] w w' := by
  obtain ⟨b, g, d, lf, kp⟩ := s
  simp only at hd ok hin
  subst hd
  have HM := Hid.mk h
  clear h
  obtain ⟨m, em⟩ : ∃ m, b.length = m := ⟨_, rfl⟩
  rw [em] at ok hin
  have CA := Hid.mk (fun u => lies_any a n pl u a1 p2 (by omega))
  by_cases hi : inB a n pl = true
  · have hj : inB (pa + a) n (m : Int) = false := by simpa [hi] using hin
    have hi' := hi
    simp only [inB, decide_eq_true_eq] at hi'
    have CB := Hid.mk (fun u => lies_any (pa + a) n (m : Int) u (by omega) (by omega) (by omega))
    rw [hi] at CA
    rw [hj] at CB
    have v1 : wrap64 (pa + a) = pa + a := by unfold wrap64; omega
    have v2 : IntKind.i64.wrap (pa + a) = pa + a := by unfold IntKind.wrap; simp [IntKind.bits, IntKind.signed]; omega
    clear hin hi hi' hj a1 p0 p1 p2 p3 ok
    go_enter_defers Try.func54, Try.ntmps54
    go_wp2_with (fail)
    obtain ⟨w0, ew0, k0, hb0⟩ := alloc_new w (.cells #[.int .i64 pa, .int .i64 pl] 63 (0, 0))
    rw [ew0]
    clear ew0
    obtain ⟨Q, eQ⟩ : ∃ Q, Q = w.heap.size := ⟨_, rfl⟩
    rw [← eQ] at hb0 ⊢
    clear eQ
    refine (mlock (HM.out.keep k0)).mono ?_
    rintro e w1 ⟨rfl, h1, k1⟩
    have H1 := Hid.mk h1
    have hb1 := k1.heap hb0 (fun hm => by simp at hm; subst hm; have := (HM.out.keep k0).box; rw [hb0] at this; simp at this)
    obtain ⟨d0, d1⟩ := cells2 hb1
    have K1 := Hid.mk ((k0.mono (by simp) : Kept [P] w w0).trans k1)
    have c4 := h1.c4
    obtain ⟨bo, c, eV, -, hmc, -, -⟩ := row_form2 h1.row
    simp only [em] at eV
    subst eV
    have c2 := h1.c2
    clear h1 k1 k0 hb0 hb1 hmc
    go_wp2_with (fail)
    go_quiet ((first | (go_at_call_of 55 pl; exact Calls.quiet_of_same (CA.out _)) | (go_at_call 55; exact Calls.quiet_of_same (CB.out _))))
    obtain ⟨w2, ew2, k2⟩ : ∃ w2, w1.drewN nq = w2 ∧ Kept [] w1 w2 := ⟨_, rfl, (Kept.refl _ _).drewN _⟩
    rw [ew2]
    have H2 := Hid.mk (H1.out.keep k2)
    have K2 := Hid.mk (K1.out.step k2 (by simp))
    clear ew2 k2
    go_wp2
    refine leaves_cons (f := 52) (args := #[.pointer (some ⟨P, 0, none⟩)]) (by simp) (by simp [go_sem]) ?_
    refine (munlock H2.out).mono ?_
    rintro e u' w3 ⟨rfl, rfl, h2, k2⟩
    exact ⟨_, results_tmp2 rfl _ _ _, rfl, h2, K2.out.trans k2⟩
  · have hi' : inB a n pl = false := by simpa using hi
    rw [hi'] at CA
    clear hin hi hi' a1 p0 p1 p2 p3 ok
    go_enter_defers Try.func54, Try.ntmps54
    go_wp2_with (fail)
    obtain ⟨w0, ew0, k0, hb0⟩ := alloc_new w (.cells #[.int .i64 pa, .int .i64 pl] 63 (0, 0))
    rw [ew0]
    clear ew0
    obtain ⟨Q, eQ⟩ : ∃ Q, Q = w.heap.size := ⟨_, rfl⟩
    rw [← eQ] at hb0 ⊢
    clear eQ
    refine (mlock (HM.out.keep k0)).mono ?_
    rintro e w1 ⟨rfl, h1, k1⟩
    have H1 := Hid.mk h1
    have hb1 := k1.heap hb0 (fun hm => by simp at hm; subst hm; have := (HM.out.keep k0).box; rw [hb0] at this; simp at this)
    obtain ⟨d0, d1⟩ := cells2 hb1
    have K1 := Hid.mk ((k0.mono (by simp) : Kept [P] w w0).trans k1)
    have c4 := h1.c4
    obtain ⟨bo, c, eV, -, hmc, -, -⟩ := row_form2 h1.row
    simp only [em] at eV
    subst eV
    have c2 := h1.c2
    clear h1 k1 k0 hb0 hb1 hmc
    go_wp2_with (fail)
    go_quiet ((go_at_call 55; exact Calls.quiet_of_same (CA.out _)))
    obtain ⟨w2, ew2, k2⟩ : ∃ w2, w1.drewN nq = w2 ∧ Kept [] w1 w2 := ⟨_, rfl, (Kept.refl _ _).drewN _⟩
    rw [ew2]
    have H2 := Hid.mk (H1.out.keep k2)
    have K2 := Hid.mk (K1.out.step k2 (by simp))
    clear ew2 k2
    go_wp2
    refine leaves_cons (f := 52) (args := #[.pointer (some ⟨P, 0, none⟩)]) (by simp) (by simp [go_sem]) ?_
    refine (munlock H2.out).mono ?_
    rintro e u' w3 ⟨rfl, rfl, h2, k2⟩
    exact ⟨_, results_tmp2 rfl _ _ _, rfl, h2, K2.out.trans k2⟩
end Go.Proofs.Ytiojcfffhcipnaa
