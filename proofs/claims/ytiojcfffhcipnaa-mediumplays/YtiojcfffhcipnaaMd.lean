import Derived.Test.YtiojcfffhcipnaaMc
namespace Go.Proofs.Ytiojcfffhcipnaa
open Go.RowKit
open Go.MuLone

/-- What Append answers, and what it leaves. -/
def apE (s : Md) (l : List Nat) : Int := if s.dead then 152 else if 268435456 < s.b.length + l.length then 153 else if s.left = 1 then 152 else 0
def apA (s : Md) (l : List Nat) : Int := if s.dead then 0 else if 268435456 < s.b.length + l.length then 0 else if s.left = 1 then 0 else (s.b.length : Int)
def apS (s : Md) (l : List Nat) : Md := if s.dead then s else if 268435456 < s.b.length + l.length then s else if s.left = 1 then ⟨s.b ++ l.take s.keep.toNat, s.g, true, 0, 0⟩ else { s with b := s.b ++ l, left := if s.left = 0 then 0 else s.left - 1 }

theorem Reads.keptP {w w' : World} {ao : Option Addr} {l : List Nat} {P : Nat} (h : Reads w ao l) (hk : Kept [P] w w') (hn : l = [] ∨ ∀ g off, ao = some ⟨g, off, none⟩ → g ≠ P) : Reads w' ao l := by
  rcases hn with rfl | hn
  · exact .inl rfl
  · exact h.kept hk (fun g off e => by simpa using hn g off e)
theorem Lies.of_kept {w w1 : World} {V V' : Value} {ks : List Nat} (h : Lies w1 V V') (hk : Kept ks w w1) : Lies w V V' := by
  rcases h with h | ⟨g, h, hs⟩
  · exact .inl h
  · exact .inr ⟨g, h, Nat.le_trans hk.size hs⟩

set_option maxHeartbeats 8000000 in
set_option maxRecDepth 100000 in
theorem append_ok (w : World) (P : Nat) (V L : Value) (s : Md) (so : Option Addr) (m sc : Nat) (l : List Nat) (h : Med w P V L s 0) (ok : Mok s) (hr : Reads w so l) (hm : l.length = m) (hc : so = none → sc = 0) (hP : l = [] ∨ ∀ g off, so = some ⟨g, off, none⟩ → g ≠ P)
    (hd : s.dead = false) (hf : s.b.length + m ≤ 268435456) (hl : s.left ≠ 1) :
    Calls Try.prog 15 #[.pointer (some ⟨P, 0, none⟩), .slice so m sc] w fun e w' => ∃ V', e = .returned (.tuple #[.int .i64 (s.b.length : Int), .int .i64 0]) ∧ Med w' P V' L { s with b := s.b ++ l, left := if s.left = 0 then 0 else s.left - 1 } 0 ∧ Kept (P :: V.ownBlock.toList) w w' ∧ Lies w V V' := by
  obtain ⟨b, g, d, lf, kp⟩ := s
  simp only at hd hf hl ⊢
  subst hd
  obtain ⟨-, -, l0, l1, -, -⟩ := ok
  simp only at l0 l1
  obtain ⟨lf', el'⟩ : ∃ x : Int, x = if lf = 0 then 0 else lf - 1 := ⟨_, rfl⟩
  rw [← el']
  have HM := Hid.mk h
  have HR := Hid.mk hr
  clear h hr
  obtain ⟨n, en⟩ : ∃ n, b.length = n := ⟨_, rfl⟩
  rw [en] at hf ⊢
  have q1 : wrap64 (268435456 - (n : Int)) = 268435456 - (n : Int) := by unfold wrap64; omega
  have q2 : ¬ (268435456 - (n : Int) < (m : Int)) := by omega
  have q3 : (lf == 1) = false := by simpa using hl
  have q4 : wrap64 (lf - 1) = lf - 1 := by unfold wrap64; omega
  have hz : (lf - 1 < 0 ∧ lf' = 0) ∨ (¬ lf - 1 < 0 ∧ lf' = lf - 1) := by rw [el']; split <;> omega
  clear hf el' l0 l1 hl
  rcases hz with ⟨hz, rfl⟩ | ⟨hz, rfl⟩
  · go_enter_defers Try.func15, Try.ntmps15
    go_wp2_with (fail)
    refine (mlock HM.out).mono ?_
    rintro e w1 ⟨rfl, h1, k1⟩
    have H1 := Hid.mk h1
    have K1 := Hid.mk k1
    obtain ⟨bo, c, eV, n1, -, -, -⟩ := row_form2 h1.row
    simp only [en] at eV
    subst eV
    have c2 := h1.c2
    have c4 := h1.c4
    have c5 := h1.c5
    have f5 := h1.fz 5
    obtain ⟨m2, k2⟩ := h1.sleft 0
    have r2 : Reads (w1.setCell ⟨P, 5, none⟩ (.int .i64 0)) so l := (HR.out.keptP k1 hP).keptP k2 hP
    obtain ⟨v', u', hrun, ho, hk, hL⟩ := app_at _ 29 _ _ _ m2.row so m sc l r2 hm (by simp only [en]; omega) hc
    obtain ⟨bz, cz, ez, -, -, -, -⟩ := row_form2 ho
    subst ez
    try simp only [en] at hrun
    obtain ⟨m3, k3⟩ := m2.srow (V' := .slice bz _ cz) (b ++ l) hk (by simp only at ho; simpa [hm, List.map_append] using ho)
    have cu : u'.cell? ⟨P, 2, none⟩ = some (.slice bo n c) := by
      have hb := hk.heap m2.box (own_ty m2.box (by decide) m2.row)
      simp [World.cell?, hb]
    have fu : u'.frozen? ⟨P, 2, none⟩ = false := by
      have hb := hk.heap m2.box (own_ty m2.box (by decide) m2.row)
      simp [World.frozen?, hb]
    simp only [en] at m3 k3
    have M3 := Hid.mk m3
    have KK := Hid.mk (((k1.trans k2).at (List.mem_cons_self (a := P) (l := (Value.slice bo n c).ownBlock.toList))).step k3 (fun x hx => .inl hx))
    simp only [en] at hL
    have HLL := Hid.mk (hL.of_kept (k1.trans k2))
    have e2 : (w1.setCell ⟨P, 5, none⟩ (.int .i64 0)).cell? ⟨P, 2, none⟩ = some (.slice bo n c) := by
      have := m2.c2
      exact this
    clear h1 k1 m2 k2 r2 ho hk hL m3 k3 HR
    go_wp2_with (at_builtin; refine wpList_app_eq' rfl _ _ 29 rfl _ _ (.slice bz _ cz) u' rfl rfl hrun ?_)
    refine leaves_cons (f := 52) (args := #[.pointer (some ⟨P, 0, none⟩)]) (by simp) (by simp [go_sem]) ?_
    refine (munlock M3.out).mono ?_
    rintro e u9 w3 ⟨rfl, rfl, h3, k3⟩
    exact ⟨_, results_tmp2 rfl _ _ _, _, rfl, h3, KK.out.step k3 (fun x hx => by simp at hx; subst hx; simp), HLL.out⟩
  · go_enter_defers Try.func15, Try.ntmps15
    go_wp2_with (fail)
    refine (mlock HM.out).mono ?_
    rintro e w1 ⟨rfl, h1, k1⟩
    have H1 := Hid.mk h1
    have K1 := Hid.mk k1
    obtain ⟨bo, c, eV, n1, -, -, -⟩ := row_form2 h1.row
    simp only [en] at eV
    subst eV
    have c2 := h1.c2
    have c4 := h1.c4
    have c5 := h1.c5
    have f5 := h1.fz 5
    obtain ⟨m2, k2⟩ := h1.sleft (lf - 1)
    have r2 : Reads (w1.setCell ⟨P, 5, none⟩ (.int .i64 (lf - 1))) so l := (HR.out.keptP k1 hP).keptP k2 hP
    obtain ⟨v', u', hrun, ho, hk, hL⟩ := app_at _ 29 _ _ _ m2.row so m sc l r2 hm (by simp only [en]; omega) hc
    obtain ⟨bz, cz, ez, -, -, -, -⟩ := row_form2 ho
    subst ez
    try simp only [en] at hrun
    obtain ⟨m3, k3⟩ := m2.srow (V' := .slice bz _ cz) (b ++ l) hk (by simp only at ho; simpa [hm, List.map_append] using ho)
    have cu : u'.cell? ⟨P, 2, none⟩ = some (.slice bo n c) := by
      have hb := hk.heap m2.box (own_ty m2.box (by decide) m2.row)
      simp [World.cell?, hb]
    have fu : u'.frozen? ⟨P, 2, none⟩ = false := by
      have hb := hk.heap m2.box (own_ty m2.box (by decide) m2.row)
      simp [World.frozen?, hb]
    simp only [en] at m3 k3
    have M3 := Hid.mk m3
    have KK := Hid.mk (((k1.trans k2).at (List.mem_cons_self (a := P) (l := (Value.slice bo n c).ownBlock.toList))).step k3 (fun x hx => .inl hx))
    simp only [en] at hL
    have HLL := Hid.mk (hL.of_kept (k1.trans k2))
    have e2 : (w1.setCell ⟨P, 5, none⟩ (.int .i64 (lf - 1))).cell? ⟨P, 2, none⟩ = some (.slice bo n c) := by
      have := m2.c2
      exact this
    clear h1 k1 m2 k2 r2 ho hk hL m3 k3 HR
    go_wp2_with (at_builtin; refine wpList_app_eq' rfl _ _ 29 rfl _ _ (.slice bz _ cz) u' rfl rfl hrun ?_)
    refine leaves_cons (f := 52) (args := #[.pointer (some ⟨P, 0, none⟩)]) (by simp) (by simp [go_sem]) ?_
    refine (munlock M3.out).mono ?_
    rintro e u9 w3 ⟨rfl, rfl, h3, k3⟩
    exact ⟨_, results_tmp2 rfl _ _ _, _, rfl, h3, KK.out.step k3 (fun x hx => by simp at hx; subst hx; simp), HLL.out⟩

set_option maxHeartbeats 8000000 in
set_option maxRecDepth 100000 in
theorem append_dead (w : World) (P : Nat) (V L : Value) (s : Md) (so : Option Addr) (m sc : Nat) (h : Med w P V L s 0) (hd : s.dead = true) :
    Calls Try.prog 15 #[.pointer (some ⟨P, 0, none⟩), .slice so m sc] w fun e w' => e = .returned (.tuple #[.int .i64 0, .int .i64 152]) ∧ Med w' P V L s 0 ∧ Kept [P] w w' := by
  obtain ⟨b, g, d, lf, kp⟩ := s
  simp only at hd
  subst hd
  have HM := Hid.mk h
  clear h
  go_enter_defers Try.func15, Try.ntmps15
  go_wp2_with (go_at_call 51; refine (mlock HM.out).mono ?_; rintro e w1 ⟨rfl, h1, k1⟩; have H1 := Hid.mk h1; have K1 := Hid.mk k1; have c2 := h1.c4; clear h1 k1)
  refine leaves_cons (f := 52) (args := #[.pointer (some ⟨P, 0, none⟩)]) (by simp) (by simp [go_sem]) ?_
  refine (munlock H1.out).mono ?_
  rintro e u' w2 ⟨rfl, rfl, h2, k2⟩
  exact ⟨_, results_tmp2 rfl _ _ _, rfl, h2, K1.out.trans k2⟩

set_option maxHeartbeats 8000000 in
set_option maxRecDepth 100000 in
theorem append_full (w : World) (P : Nat) (V L : Value) (s : Md) (so : Option Addr) (m sc : Nat) (h : Med w P V L s 0) (hn : s.b.length ≤ 268435456) (hd : s.dead = false) (hf : 268435456 < s.b.length + m) :
    Calls Try.prog 15 #[.pointer (some ⟨P, 0, none⟩), .slice so m sc] w fun e w' => e = .returned (.tuple #[.int .i64 0, .int .i64 153]) ∧ Med w' P V L s 0 ∧ Kept [P] w w' := by
  obtain ⟨b, g, d, lf, kp⟩ := s
  simp only at hd hf hn
  subst hd
  have HM := Hid.mk h
  clear h
  obtain ⟨n, en⟩ : ∃ n, b.length = n := ⟨_, rfl⟩
  rw [en] at hf hn
  have q1 : wrap64 (268435456 - (n : Int)) = 268435456 - (n : Int) := by unfold wrap64; omega
  have q2 : (268435456 - (n : Int) < (m : Int)) := by omega
  clear hf hn
  go_enter_defers Try.func15, Try.ntmps15
  go_wp2_with (go_at_call 51; refine (mlock HM.out).mono ?_; rintro e w1 ⟨rfl, h1, k1⟩; have H1 := Hid.mk h1; have K1 := Hid.mk k1; have c2 := h1.c4; obtain ⟨bo, c, eV, n1, -, -, -⟩ := row_form2 h1.row; simp only [en] at eV; subst eV; have c3 := h1.c2; clear h1 k1)
  refine leaves_cons (f := 52) (args := #[.pointer (some ⟨P, 0, none⟩)]) (by simp) (by simp [go_sem]) ?_
  refine (munlock H1.out).mono ?_
  rintro e u' w2 ⟨rfl, rfl, h2, k2⟩
  exact ⟨_, results_tmp2 rfl _ _ _, rfl, h2, K1.out.trans k2⟩

theorem step_app {ops : Array Oper} {o : Oper} {a : Act} {w : World} {K : Act → World → Prop} {Q : Exit → Act → World → Prop} {E : Prop} (hg : o.guard = none) (s x : Operand) (t : Nat)
    (hop : o.op = Op.call { callee := Callee.builtin Builtin.append, args := #[s, x], argTypes := #[t, t] }) (v1 v2 v' : Value) (w' : World) (hs : a.eval s = v1) (hx : a.eval x = v2)
    (hr : Sem.run Try.prog (Builtin.append_ #[t, t] o.type #[v1, v2]) w = .ok v' w') (hK : K (a.put o.dst v') w') :
    if Region.wanted o (yielded ops a.tmps) = true then Oper.wp Try.prog o a w K Q else E := by
  have hw : Region.wanted o (yielded ops a.tmps) = true := by simp [Region.wanted, hg]
  rw [if_pos hw]
  unfold Oper.wp
  simp [execOp, hop, resolve, invoke, builtin, hs, hx, hr, Result.andThen]
  exact hK
theorem Med.drew {w : World} {P : Nat} {V L : Value} {s : Md} {k : Int} (h : Med w P V L s k) : Med w.drew P V L s k := h.keep ((Kept.refl _ _).drew)

end Go.Proofs.Ytiojcfffhcipnaa
