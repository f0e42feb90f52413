import Derived.Test.YtiojcfffhcipnaaMe
namespace Go.Proofs.Ytiojcfffhcipnaa
open Go.RowKit
open Go.MuLone

set_option maxHeartbeats 4000000 in
/-- Append, in one form. -/
theorem append_any (w : World) (P : Nat) (V L : Value) (s : Md) (so : Option Addr) (m sc : Nat) (l : List Nat) (h : Med w P V L s 0) (ok : Mok s) (hr : Reads w so l) (hm : l.length = m) (hms : m ≤ sc) (hc : so = none → sc = 0) (hP : l = [] ∨ ∀ g off, so = some ⟨g, off, none⟩ → g ≠ P) :
    Calls Try.prog 15 #[.pointer (some ⟨P, 0, none⟩), .slice so m sc] w fun e w' => ∃ V', e = .returned (.tuple #[.int .i64 (apA s l), .int .i64 (apE s l)]) ∧ Med w' P V' L (apS s l) 0 ∧ Kept (P :: V.ownBlock.toList) w w' ∧ Lies w V V' := by
  by_cases hd : s.dead = true
  · refine (append_dead w P V L s so m sc h hd).mono ?_
    rintro e w' ⟨rfl, h1, k1⟩
    exact ⟨V, by simp [apA, apE, hd], by simpa [apS, hd] using h1, k1.at (by simp), Lies.refl _ _⟩
  · have hd' : s.dead = false := by simpa using hd
    by_cases hf : 268435456 < s.b.length + m
    · refine (append_full w P V L s so m sc h ok.n hd' hf).mono ?_
      rintro e w' ⟨rfl, h1, k1⟩
      exact ⟨V, by simp [apA, apE, hd, hm, hf], by simpa [apS, hd, hm, hf] using h1, k1.at (by simp), Lies.refl _ _⟩
    · by_cases hl : s.left = 1
      · refine (append_dies w P V L s so m sc l h ok hr hm hms hc hP hd' (by omega) hl).mono ?_
        rintro e w' ⟨V', rfl, h1, k1, l1⟩
        exact ⟨V', by simp [apA, apE, hd, hm, hf, hl], by simpa [apS, hd, hm, hf, hl] using h1, k1, l1⟩
      · refine (append_ok w P V L s so m sc l h ok hr hm hc hP hd' (by omega) hl).mono ?_
        rintro e w' ⟨V', rfl, h1, k1, l1⟩
        exact ⟨V', by simp [apA, apE, hd, hm, hf, hl], by simpa [apS, hd, hm, hf, hl] using h1, k1, l1⟩
theorem apS_ok {s : Md} {l : List Nat} (ok : Mok s) (hl : Byts l) : Mok (apS s l) := by
  obtain ⟨h1, h2, h3, h4, h5, h6⟩ := ok
  unfold apS
  split
  · exact ⟨h1, h2, h3, h4, h5, h6⟩
  · split
    · exact ⟨h1, h2, h3, h4, h5, h6⟩
    · split
      · refine ⟨by simp; omega, fun b hb => ?_, by simp, by simp, by simp, by simp⟩
        simp only [List.mem_append] at hb
        rcases hb with hb | hb
        · exact h2 b hb
        · exact hl b (List.mem_of_mem_take hb)
      · refine ⟨by simp; omega, fun b hb => ?_, by simp only; split <;> omega, by simp only; split <;> omega, h5, h6⟩
        simp only [List.mem_append] at hb
        rcases hb with hb | hb
        · exact h2 b hb
        · exact hl b hb

theorem own_take {w : World} {B e : Nat} {bo : Option Addr} {m c n : Nat} {xs : List Value} (h : w.ownsRow B e 1 (.slice bo m c) m xs) (hn : n ≤ m) : w.ownsRow B e 1 (.slice bo n c) n (xs.take n) := by
  have h1 := h.1
  refine ⟨by simp; omega, ?_⟩
  rcases h.2 with ⟨h2, h3⟩ | ⟨g, cap, cur, h2, h3, h4, h5, h6, h7, h8⟩
  · subst h3
    obtain rfl : n = 0 := by omega
    exact .inl ⟨h2, rfl⟩
  · simp only [Value.slice.injEq] at h2
    obtain ⟨rfl, -, rfl⟩ := h2
    refine .inr ⟨g, c, cur, rfl, h3, h4, by omega, h6, h7, ?_⟩
    rw [← h8, List.take_take]
    congr 1
    omega

/-- What Truncate answers, and what it leaves. -/
def trE (s : Md) (n : Int) : Int := if n < 0 ∨ (s.b.length : Int) < n then 151 else 0
def trS (s : Md) (n : Int) : Md := if n < 0 ∨ (s.b.length : Int) < n then s else { s with b := s.b.take n.toNat }

set_option maxHeartbeats 8000000 in
set_option maxRecDepth 100000 in
theorem truncate_any (w : World) (P : Nat) (V L : Value) (s : Md) (n : Int) (h : Med w P V L s 0) :
    Calls Try.prog 32 #[.pointer (some ⟨P, 0, none⟩), .int .i64 n] w fun e w' => ∃ V', e = .returned (.int .i64 (trE s n)) ∧ Med w' P V' L (trS s n) 0 ∧ Kept [P] w w' ∧ V'.ownBlock = V.ownBlock := by
  obtain ⟨b, g, d, lf, kp⟩ := s
  have HM := Hid.mk h
  clear h
  obtain ⟨m, em⟩ : ∃ m, b.length = m := ⟨_, rfl⟩
  by_cases hn : n < 0 ∨ (m : Int) < n
  · have e1 : trE ⟨b, g, d, lf, kp⟩ n = 151 := by simp [trE, em, hn]
    have e2 : trS ⟨b, g, d, lf, kp⟩ n = ⟨b, g, d, lf, kp⟩ := by simp [trS, em, hn]
    rw [e1, e2]
    clear e1 e2
    by_cases h1 : n < 0
    · clear hn
      go_enter_defers Try.func32, Try.ntmps32
      go_wp2_with (go_at_call 51; refine (mlock HM.out).mono ?_; rintro e w1 ⟨rfl, h1, k1⟩; have H1 := Hid.mk h1; have K1 := Hid.mk k1; obtain ⟨bo, c, eV, -, -, -, -⟩ := row_form2 h1.row; simp only [em] at eV; subst eV; have c2 := h1.c2; clear h1 k1)
      refine leaves_cons (f := 52) (args := #[.pointer (some ⟨P, 0, none⟩)]) (by simp) (by simp [go_sem]) ?_
      refine (munlock H1.out).mono ?_
      rintro e u' w2 ⟨rfl, rfl, h2, k2⟩
      exact ⟨_, results_tmp rfl _ _ _, _, rfl, h2, K1.out.trans k2, rfl⟩
    · have h2 : (m : Int) < n := by omega
      clear hn
      go_enter_defers Try.func32, Try.ntmps32
      go_wp2_with (go_at_call 51; refine (mlock HM.out).mono ?_; rintro e w1 ⟨rfl, h1, k1⟩; have H1 := Hid.mk h1; have K1 := Hid.mk k1; obtain ⟨bo, c, eV, -, -, -, -⟩ := row_form2 h1.row; simp only [em] at eV; subst eV; have c2 := h1.c2; clear h1 k1)
      refine leaves_cons (f := 52) (args := #[.pointer (some ⟨P, 0, none⟩)]) (by simp) (by simp [go_sem]) ?_
      refine (munlock H1.out).mono ?_
      rintro e u' w2 ⟨rfl, rfl, h2, k2⟩
      exact ⟨_, results_tmp rfl _ _ _, _, rfl, h2, K1.out.trans k2, rfl⟩
  · have e1 : trE ⟨b, g, d, lf, kp⟩ n = 0 := by simp [trE, em, hn]
    have e2 : trS ⟨b, g, d, lf, kp⟩ n = ⟨b.take n.toNat, g, d, lf, kp⟩ := by simp [trS, em, hn]
    rw [e1, e2]
    clear e1 e2
    obtain ⟨q, rfl⟩ : ∃ q : Nat, n = (q : Int) := ⟨n.toNat, by omega⟩
    have hq : q ≤ m := by omega
    have HQ := Hid.mk hq
    have q1 : decide ((q : Int) < 0) = false := by simp
    have q2 : ¬ (m : Int) < (q : Int) := by omega
    have q3 : ¬ m < q := by omega
    simp only [Int.toNat_natCast]
    clear hn hq
    go_enter_defers Try.func32, Try.ntmps32
    go_wp2_with (fail)
    refine (mlock HM.out).mono ?_
    rintro e w1 ⟨rfl, h1, k1⟩
    have H1 := Hid.mk h1
    have K1 := Hid.mk k1
    obtain ⟨bo, c, eV, -, hmc, -, -⟩ := row_form2 h1.row
    simp only [em] at eV hmc
    subst eV
    have c2 := h1.c2
    have f2 := h1.fz 2
    have SL := slice_h bo m c q (by have := HQ.out; omega)
    have hqc : (q : Int) ≤ (c : Int) := by have := HQ.out; omega
    have hrow : w1.ownsRow 0 5 1 (.slice bo q c) (b.take q).length ((b.take q).map byt) := by
      have := h1.row
      simp only [em] at this
      have := own_take this HQ.out
      rw [List.map_take, show (b.take q).length = q by simp [em]; have := HQ.out; omega]
      exact this
    obtain ⟨m3, k3⟩ := h1.srow (V' := .slice bo q c) (b.take q) (Kept.refl _ _) hrow
    have k3' : Kept [P] w1 (w1.setCell ⟨P, 2, none⟩ (.slice bo q c)) := (Kept.refl _ _).setCell (.inl (by simp)) _
    have M3 := Hid.mk m3
    have K3 := Hid.mk (k1.trans k3')
    clear h1 k1 m3 k3 k3' hrow hmc
    go_wp2
    refine leaves_cons (f := 52) (args := #[.pointer (some ⟨P, 0, none⟩)]) (by simp) (by simp [go_sem]) ?_
    refine (munlock M3.out).mono ?_
    rintro e u' w2 ⟨rfl, rfl, h2, k2⟩
    refine ⟨_, results_tmp rfl _ _ _, _, rfl, h2, K3.out.trans k2, ?_⟩
    cases bo <;> rfl

/-- What Overwrite answers, and what it leaves. -/
def owE (s : Md) (a : Int) (l : List Nat) : Int := if inB a (l.length : Int) (s.b.length : Int) then 0 else 151
def owB (b : List Nat) (a : Nat) (l : List Nat) : List Nat := b.take a ++ l ++ b.drop (a + l.length)
def owS (s : Md) (a : Int) (l : List Nat) : Md := if inB a (l.length : Int) (s.b.length : Int) then { s with b := owB s.b a.toNat l } else s
theorem owB_len (b : List Nat) (a : Nat) (l : List Nat) (h : a + l.length ≤ b.length) : (owB b a l).length = b.length := by simp [owB]; omega

theorem copy_at (w : World) (bo : Option Addr) (n c : Nat) (b : List Nat) (ho : w.ownsRow 0 5 1 (.slice bo n c) n (b.map byt)) (so : Option Addr) (m sc : Nat) (l : List Nat) (hr : Reads w so l) (hm : l.length = m) (a : Nat) (ha : a + m ≤ n) :
    ∃ w', Sem.run Try.prog (Builtin.copy_ #[29, 29] 3 #[.slice (if c = a then bo else bo.map (fun x => x.add a)) (n - a) (c - a), .slice so m sc]) w = .ok (.int .i64 (m : Int)) w' ∧ w'.ownsRow 0 5 1 (.slice bo n c) n ((owB b a l).map byt) ∧ Kept (Value.slice bo n c).ownBlock.toList w w' := by
  have hsz : (Try.prog.info? 5).map (·.size) = some 1 := by kernel_rfl
  have hbl : b.length = n := by have := ho.1; simpa using this
  by_cases h0 : m = 0
  · subst h0
    have hl0 : l = [] := List.length_eq_zero_iff.1 hm
    subst hl0
    refine ⟨w, run_copy_none w 29 29 3 5 _ _ _ _ _ _ Try.underlying29 hsz (by simp), ?_, Kept.refl _ _⟩
    simpa [owB, List.take_append_drop] using ho
  · have hr' : Reads w so l := hr
    rcases hr with h | ⟨sg, off, e, hc⟩
    · subst h; simp at hm; omega
    · subst e
      have h9 := ho
      rcases ho.2 with ⟨_, h⟩ | ⟨g, cap, cur, h2, h3, h4, h5, h6, h7, h8⟩
      · omega
      · simp only [Value.slice.injEq] at h2
        obtain ⟨rfl, -, rfl⟩ := h2
        have hca : c ≠ a := by omega
        rw [if_neg hca, Option.map_some, addN, Nat.zero_add]
        have h := run_copy_row (P := Try.prog) w 29 29 3 5 g a (n - a) (c - a) ⟨sg, off, none⟩ m sc cur 5 (l.map byt) Try.underlying29 hsz h4 (by rw [List.length_map]; show _ = min _ _; omega) (fun j v hv => by
          have hj : j < l.length := by
            rcases Nat.lt_or_ge j l.length with h | h
            · exact h
            · rw [List.getElem?_eq_none (by simp; omega)] at hv; cases hv
          rw [addN, hc j hj]
          rw [List.getElem?_map, List.getElem?_eq_getElem hj] at hv
          simp only [Option.map_some, Option.some.injEq] at hv
          rw [← hv, List.getD_eq_getElem?_getD, List.getElem?_eq_getElem hj]
          rfl) (by simp; omega) (bytes_one _)
        rw [List.length_map] at h
        obtain ⟨w', h1, h2, h3'⟩ := setRow_kept h4 (cur.toList.take a ++ l.map byt ++ cur.toList.drop (a + l.length)).toArray
        have hcl : cur.toList.length = c := by simp [h7]
        refine ⟨w', by rw [h, h1, hm]; rfl, ⟨by simp [owB_len b a l (by omega), hbl], .inr ⟨g, c, _, rfl, h3, h2, h5, h6, by simp; omega, ?_⟩⟩, by simpa [Value.ownBlock] using h3'⟩
        have e8 : cur.toList.take n = b.map byt := by simpa using h8
        rw [Nat.mul_one]
        simp only [owB, List.map_append, List.map_take, List.map_drop]
        rw [← e8]
        have hA : (cur.toList.take a ++ l.map byt).length = a + l.length := by simp; omega
        rw [List.take_append, hA, List.take_of_length_le (by omega), List.take_take, show min a n = a by omega, List.drop_take]

theorem wpList_copy_eq {P : Program} {w : World} {ops : Array Oper} {rest : List Oper} {o : Oper} {a : Act} {Q : Exit → Act → World → Prop} (hgd : o.guard = none) (s x : Operand) (t : TypeId)
    (ho : o.op = .call { callee := .builtin .copy, args := #[s, x], argTypes := #[t, t] }) (v y v' : Value) (w' : World) (hs : a.eval s = v) (hx : a.eval x = y)
    (hrun : Sem.run P (Builtin.copy_ #[t, t] o.type #[v, y]) w = .ok v' w') (h : wpList P ops Q rest (a.put o.dst v') w') : wpList P ops Q (o :: rest) a w := by
  refine wpList_plain hgd fun K hK => ?_
  unfold Oper.wp
  simp [execOp, ho, resolve, invoke, builtin, hs, hx, hrun, Result.andThen]
  exact hK _ _ h

set_option maxHeartbeats 8000000 in
set_option maxRecDepth 100000 in
theorem overwrite_any (w : World) (P : Nat) (V L : Value) (s : Md) (a : Int) (so : Option Addr) (m sc : Nat) (l : List Nat) (h : Med w P V L s 0) (ok : s.b.length ≤ 268435456) (hr : Reads w so l) (hm : l.length = m) (hP : l = [] ∨ ∀ g off, so = some ⟨g, off, none⟩ → g ≠ P) (a1 : a ≤ 9223372036854775807) :
    Calls Try.prog 30 #[.pointer (some ⟨P, 0, none⟩), .int .i64 a, .slice so m sc] w fun e w' => e = .returned (.int .i64 (owE s a l)) ∧ Med w' P V L (owS s a l) 0 ∧ Kept (P :: V.ownBlock.toList) w w' := by
  obtain ⟨b, g, d, lf, kp⟩ := s
  simp only at ok
  have HM := Hid.mk h
  have HR := Hid.mk hr
  clear h hr
  obtain ⟨n, en⟩ : ∃ n, b.length = n := ⟨_, rfl⟩
  rw [en] at ok
  have CL := Hid.mk (fun u => lies_any a (m : Int) (n : Int) u a1 (by omega) (by omega))
  by_cases hin : inB a (m : Int) (n : Int) = true
  · have e1 : owE ⟨b, g, d, lf, kp⟩ a l = 0 := by simp [owE, en, hm, hin]
    have e2 : owS ⟨b, g, d, lf, kp⟩ a l = ⟨owB b a.toNat l, g, d, lf, kp⟩ := by simp [owS, en, hm, hin]
    rw [e1, e2]
    rw [hin] at CL
    simp only [inB, decide_eq_true_eq] at hin
    obtain ⟨q, rfl⟩ : ∃ q : Nat, a = (q : Int) := ⟨a.toNat, by omega⟩
    simp only [Int.toNat_natCast]
    have hqm : q + m ≤ n := by omega
    have HQ := Hid.mk hqm
    clear e1 e2 hin hqm a1
    go_enter_defers Try.func30, Try.ntmps30
    go_wp2_with (fail)
    refine (mlock HM.out).mono ?_
    rintro e w1 ⟨rfl, h1, k1⟩
    have H1 := Hid.mk h1
    have K1 := Hid.mk k1
    obtain ⟨bo, c, eV, -, hmc, -, -⟩ := row_form2 h1.row
    simp only [en] at eV hmc
    subst eV
    have c2 := h1.c2
    have f2 := h1.fz 2
    have hrow := h1.row
    simp only [en] at hrow
    obtain ⟨w2, hrun, ho, hk⟩ := copy_at w1 bo n c b hrow so m sc l (HR.out.keptP k1 hP) hm q HQ.out
    have SL := slice_l bo n c q (by have := HQ.out; omega)
    obtain ⟨dv, edv⟩ : ∃ dv, Value.slice (if c = q then bo else bo.map (fun x => x.add q)) (n - q) (c - q) = dv := ⟨_, rfl⟩
    rw [edv] at hrun
    simp only [edv] at SL
    have ol : (owB b q l).length = n := by rw [owB_len b q l (by have := HQ.out; omega), en]
    have M2 : Hid (Med w2 P (.slice bo n c) L ⟨owB b q l, g, d, lf, kp⟩ 1) := Hid.mk ⟨hk.heap h1.box (own_ty h1.box (by decide) h1.row), by simp only [ol]; exact ho, hk.row h1.log (own_two h1.log h1.row (by decide))⟩
    have K2 := Hid.mk ((k1.at (List.mem_cons_self (a := P) (l := (Value.slice bo n c).ownBlock.toList))).step hk (fun x hx => .inl (List.mem_cons_of_mem _ hx)))
    clear h1 k1 hrow ho hk hmc edv ol
    go_wp2_with (fail)
    refine (CL.out w1).mono ?_
    rintro e w1' ⟨rfl, hw1⟩
    obtain rfl := hw1.symm
    go_wp2_with (at_builtin; refine wpList_copy_eq rfl _ _ 29 rfl _ _ _ _ rfl rfl hrun ?_)
    refine leaves_cons (f := 52) (args := #[.pointer (some ⟨P, 0, none⟩)]) (by simp) (by simp [go_sem]) ?_
    refine (munlock M2.out).mono ?_
    rintro e u' w3 ⟨rfl, rfl, h2, k2⟩
    exact ⟨_, results_tmp rfl _ _ _, rfl, h2, K2.out.step k2 (fun x hx => by simp at hx; subst hx; simp)⟩
  · have hin' : inB a (m : Int) (n : Int) = false := by simpa using hin
    have e1 : owE ⟨b, g, d, lf, kp⟩ a l = 151 := by simp [owE, en, hm, hin']
    have e2 : owS ⟨b, g, d, lf, kp⟩ a l = ⟨b, g, d, lf, kp⟩ := by simp [owS, en, hm, hin']
    rw [e1, e2]
    rw [hin'] at CL
    clear e1 e2 hin hin' a1
    go_enter_defers Try.func30, Try.ntmps30
    go_wp2_with (fail)
    refine (mlock HM.out).mono ?_
    rintro e w1 ⟨rfl, h1, k1⟩
    have H1 := Hid.mk h1
    have K1 := Hid.mk k1
    obtain ⟨bo, c, eV, -, hmc, -, -⟩ := row_form2 h1.row
    simp only [en] at eV hmc
    subst eV
    have c2 := h1.c2
    clear h1 k1 hmc
    go_wp2_with (fail)
    refine (CL.out w1).mono ?_
    rintro e w1' ⟨rfl, hw1⟩
    obtain rfl := hw1.symm
    go_wp2
    refine leaves_cons (f := 52) (args := #[.pointer (some ⟨P, 0, none⟩)]) (by simp) (by simp [go_sem]) ?_
    refine (munlock H1.out).mono ?_
    rintro e u' w3 ⟨rfl, rfl, h2, k2⟩
    exact ⟨_, results_tmp rfl _ _ _, rfl, h2, (K1.out.trans k2).at (by simp)⟩
end Go.Proofs.Ytiojcfffhcipnaa
