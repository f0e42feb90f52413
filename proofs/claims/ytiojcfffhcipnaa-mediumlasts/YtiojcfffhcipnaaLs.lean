import Derived.Test.YtiojcfffhcipnaaOb
import Derived.Handy
namespace Go.Proofs.Ytiojcfffhcipnaa
open Go.RowKit
open Go.MuLone

/-- A list of bytes that is an element of a list. -/
structure Row where
  ao : Option Addr
  m : Nat
  c : Nat
  l : List Nat
structure Row.Ok (w : World) (r : Row) : Prop where
  rd : Reads w r.ao r.l
  by_ : Byts r.l
  len : r.l.length = r.m
  cap : r.m ≤ r.c
  non : r.ao = none → r.c = 0
/-- Lists of bytes that came in. -/
structure Rws (w : World) (sa : Option Addr) (N : Nat) (f : Nat → Row) : Prop where
  len : N ≤ 5864062014634
  ok : ∀ i, i < N → Row.Ok w (f i)
  lies : 0 < N → ∃ b off, sa = some ⟨b, off, none⟩ ∧ ∀ i, i < N → w.cell? ⟨b, off + i, none⟩ = some (.slice (f i).ao (f i).m (f i).c)

theorem cell_keep {w w' : World} {ks : List Nat} {a : Addr} {v : Value} (hk : Kept ks w w') (h : w.cell? a = some v) (hn : a.block ∉ ks) : w'.cell? a = some v :=
  (World.cell?_of_block (hk.block _ (World.block_lt_of_cell? w _ h) hn)).trans h
/-- A medium, and bytes that are another's. -/
structure Lw (W w : World) (P : Nat) (V L X : Value) (s : Md) (A : List Nat) : Prop where
  ow : Ow W w P V L s
  xo : w.ownsRow 0 5 1 X A.length (A.map byt)
  xn : ∀ x ∈ X.ownBlock.toList, W.heap.size ≤ x ∧ x ∉ foot P V L
section
variable {W w w' : World} {P : Nat} {V V' L L' X X' : Value} {s s' : Md} {A A' : List Nat}
theorem foot_lt (h : Med w P V L s 0) : ∀ x ∈ foot P V L, x < w.heap.size := fun x hf => by
  simp only [foot, List.mem_cons, List.mem_append] at hf
  rcases hf with rfl | hf | hf
  · exact (Array.getElem?_eq_some_iff.1 h.box).1
  · exact own_lt h.row x hf
  · exact own_lt h.log x hf
theorem Lw.v (h : Lw W w P V L X s A) (hm : Med w' P V' L s' 0) (hk : Kept (P :: V.ownBlock.toList) w w') (hl : Lies w V V') : Lw W w' P V' L X s' A := by
  refine ⟨h.ow.v hm hk hl, hk.row h.xo (fun g hg hx => (h.xn g (by simp [hg])).2 (inV _ _ _ _ hx)), fun x hx => ⟨(h.xn x hx).1, fun hf => ?_⟩⟩
  have hlt := own_lt h.xo x hx
  have h2 := (h.xn x hx).2
  simp only [foot, List.mem_cons, List.mem_append, not_or] at hf h2
  rcases hf with hf | hf | hf
  · exact h2.1 hf
  · rcases hl.mem x hf with h3 | h3
    · exact h2.2.1 h3
    · omega
  · exact h2.2.2 hf
theorem Lw.l (h : Lw W w P V L X s A) (hm : Med w' P V L' s' 0) (hk : Kept (P :: L.ownBlock.toList) w w') (hl : Lies w L L') : Lw W w' P V L' X s' A := by
  refine ⟨h.ow.l hm hk hl, hk.row h.xo (fun g hg hx => (h.xn g (by simp [hg])).2 (inL _ _ _ _ hx)), fun x hx => ⟨(h.xn x hx).1, fun hf => ?_⟩⟩
  have hlt := own_lt h.xo x hx
  have h2 := (h.xn x hx).2
  simp only [foot, List.mem_cons, List.mem_append, not_or] at hf h2
  rcases hf with hf | hf | hf
  · exact h2.1 hf
  · exact h2.2.1 hf
  · rcases hl.mem x hf with h3 | h3
    · exact h2.2.2 h3
    · omega
theorem Lw.p (h : Lw W w P V L X s A) (hm : Med w' P V L s' 0) (hk : Kept [P] w w') : Lw W w' P V L X s' A := h.v hm (hk.at (by simp)) (Lies.refl _ _)
theorem Lw.keep (h : Lw W w P V L X s A) (hk : Kept [] w w') : Lw W w' P V L X s A := h.p (h.ow.med.keep hk) (hk.mono (by simp))
theorem Lw.app (h : Lw W w P V L X s A) (hk : Kept X.ownBlock.toList w w') (ho : w'.ownsRow 0 5 1 X' A'.length (A'.map byt)) (hl : Lies w X X') : Lw W w' P V L X' s A' := by
  have hF : ∀ x ∈ foot P V L, x ∉ X.ownBlock.toList := fun x hx hm => (h.xn x hm).2 hx
  refine ⟨⟨h.ow.med.kept hk hF, h.ow.fr, h.ow.old.step hk (fun x hx => .inr (h.xn x hx).1)⟩, ho, fun x hx => ?_⟩
  rcases hl.mem x hx with h3 | h3
  · exact h.xn x h3
  · exact ⟨Nat.le_trans h.ow.old.size h3, fun hf => by have := foot_lt h.ow.med x hf; omega⟩
end

/-- How the medium stands ahead of round k. -/
def lsS (A : List Nat) (n k : Nat) (kp : Int) : Md := if k < n then ⟨A, [], false, ((n - k : Nat) : Int), kp⟩ else ⟨A, [], false, 0, 0⟩

theorem rd_dead (s : Md) (hd : s.dead = true) (a b c d : Int) : rdE s a b c d = 152 ∧ rdB s a b c d = [] ∧ rdS s a b c d = s := by simp [rdE, rdB, rdS, hd]
theorem rd_all (A : List Nat) (lf kp : Int) (hA : A.length ≤ 268435456) : rdE ⟨A, [], false, lf, kp⟩ 0 268435456 0 (A.length : Int) = 0 ∧ rdB ⟨A, [], false, lf, kp⟩ 0 268435456 0 (A.length : Int) = A ∧ rdS ⟨A, [], false, lf, kp⟩ 0 268435456 0 (A.length : Int) = ⟨A, [(0, (A.length : Int))], false, lf, kp⟩ := by
  have h1 : inB 0 (A.length : Int) 268435456 = true := by simp only [inB, decide_eq_true_eq]; omega
  have h2 : inB (0 + 0) (A.length : Int) (A.length : Int) = true := by simp only [inB, decide_eq_true_eq]; omega
  simp only [rdE, rdB, rdS, h1, h2]
  simp

theorem rd_half (A : List Nat) (g : List (Int × Int)) (lf kq : Int) (h z : Nat) (hz : h + z = A.length) : rdE ⟨A, g, false, lf, kq⟩ 0 (A.length : Int) (h : Int) (z : Int) = 0 ∧ rdB ⟨A, g, false, lf, kq⟩ 0 (A.length : Int) (h : Int) (z : Int) = A.drop h ∧ rdS ⟨A, g, false, lf, kq⟩ 0 (A.length : Int) (h : Int) (z : Int) = ⟨A, g ++ [(0 + (h : Int), (z : Int))], false, lf, kq⟩ := by
  have h1 : inB (h : Int) (z : Int) (A.length : Int) = true := by simp only [inB, decide_eq_true_eq]; omega
  have h2 : inB (0 + (h : Int)) (z : Int) (A.length : Int) = true := by simp only [inB, decide_eq_true_eq]; omega
  have h3 : (A.drop h).take z = A.drop h := List.take_of_length_le (by simp; omega)
  refine ⟨by simp only [rdE, h1, h2]; rfl, ?_, by simp only [rdS, h1, h2]; rfl⟩
  simp only [rdB, h1, h2, Bool.false_eq_true, if_false, Bool.and_self, if_true]
  rw [Int.zero_add, Int.toNat_natCast, Int.toNat_natCast, h3]
theorem rd_over (A : List Nat) (g : List (Int × Int)) (lf kq : Int) (h y : Nat) (hz : h + y = A.length + 1) : rdE ⟨A, g, false, lf, kq⟩ 0 (A.length : Int) (h : Int) (y : Int) = 151 ∧ rdB ⟨A, g, false, lf, kq⟩ 0 (A.length : Int) (h : Int) (y : Int) = [] ∧ rdS ⟨A, g, false, lf, kq⟩ 0 (A.length : Int) (h : Int) (y : Int) = ⟨A, g, false, lf, kq⟩ := by
  have h1 : inB (h : Int) (y : Int) (A.length : Int) = false := by simp only [inB, decide_eq_false_iff_not]; omega
  exact ⟨by simp [rdE, h1], by simp [rdB, h1], by simp [rdS, h1]⟩
theorem str_at {w : World} {bo : Option Addr} {n c : Nat} {l : List Nat} (h : Reads w bo l) (hl : l.length = n) (k : Nat) : Sem.run Try.prog (convert 29 9 (.slice bo n c)) (w.drewN k) = .ok (.string (bstr l)) (w.drewN k) := by
  have := reads_str (h.keep ((Kept.refl _ _).drewN k)) c
  rw [hl] at this
  exact this
theorem half_facts (xl : Nat) (hx : xl ≤ 268435456) : ∃ h z y : Nat, (xl : Int).tdiv 2 = (h : Int) ∧ wrap64 ((xl : Int) - (h : Int)) = (z : Int) ∧ wrap64 (h : Int) = (h : Int) ∧ wrap64 ((z : Int) + 1) = (y : Int) ∧ IntKind.i64.wrap (h : Int) = (h : Int) ∧ h + z = xl ∧ h ≤ xl ∧ y = z + 1 := by
  refine ⟨xl / 2, xl - xl / 2, xl - xl / 2 + 1, ?_, ?_, ?_, ?_, ?_, by omega, by omega, rfl⟩
  · rw [Int.tdiv_eq_ediv_of_nonneg (by omega)]; omega
  · unfold wrap64; omega
  · unfold wrap64; omega
  · unfold wrap64; omega
  · unfold IntKind.wrap; simp [IntKind.bits, IntKind.signed]; omega
theorem row5_keep {w w' : World} {P : Nat} {V L X : Value} {s : Md} {k : Int} {B n : Nat} {xs : List Value} (h : Med w P V L s k) (ho : w.ownsRow B 5 1 X n xs) (hk : Kept (P :: L.ownBlock.toList) w w') : w'.ownsRow B 5 1 X n xs := by
  refine hk.row ho (fun g hg hm => ?_)
  simp only [List.mem_cons] at hm
  rcases hm with rfl | hm
  · have := own_ty h.box (by decide) (own_zero ho); simp [hg] at this
  · exact own_two (own_zero ho) h.log (by decide) g hg hm
theorem lsS_step (A l : List Nat) (n k : Nat) (kp : Int) (h : k + 1 ≠ n) : (lsS A n k kp).dead = false ∧ (lsS A n k kp).b = A ∧ (lsS A n k kp).left ≠ 1 ∧ ({ lsS A n k kp with b := (lsS A n k kp).b ++ l, left := if (lsS A n k kp).left = 0 then 0 else (lsS A n k kp).left - 1 } : Md) = lsS (A ++ l) n (k + 1) kp := by
  unfold lsS
  by_cases h1 : k < n
  · have h2 : k + 1 < n := by omega
    rw [if_pos h1, if_pos h2]
    refine ⟨rfl, rfl, by simp only; omega, ?_⟩
    simp only
    rw [if_neg (show ¬ (((n - k : Nat) : Int) = 0) by omega)]
    congr 1
    omega
  · have h2 : ¬ k + 1 < n := by omega
    rw [if_neg h1, if_neg h2]
    exact ⟨rfl, rfl, by simp, by simp⟩
theorem lsS_ok (A : List Nat) (n k : Nat) (kp : Int) (h1 : A.length ≤ 268435456) (h2 : Byts A) (h3 : 0 ≤ kp) (h4 : kp ≤ 1200) (h5 : n ≤ 200000) : Mok (lsS A n k kp) := by
  unfold lsS
  split
  · exact ⟨h1, h2, by simp only; omega, by simp only; omega, h3, by simp only; omega⟩
  · exact ⟨h1, h2, by simp, by simp, by simp, by simp⟩
theorem lsS_form (A : List Nat) (n k : Nat) (kp : Int) : ∃ lf kq, lsS A n k kp = ⟨A, [], false, lf, kq⟩ := by
  unfold lsS
  split
  · exact ⟨_, _, rfl⟩
  · exact ⟨_, _, rfl⟩

set_option maxHeartbeats 64000000 in
set_option maxRecDepth 1000000 in
theorem lasts_any (sa : Option Addr) (N cap : Nat) (f : Nat → Row) (n0 k0 : Int) (w : World) (hA : Rws w sa N f) (n1 : -9223372036854775808 ≤ n0) (n2 : n0 ≤ 9223372036854775807) (k1 : -9223372036854775808 ≤ k0) (k2 : k0 ≤ 9223372036854775807) :
    Calls Try.prog 5 #[.slice sa N cap, .int .i64 n0, .int .i64 k0] w fun e w' => e = .returned (.bool true) ∧ Kept [] w w' := by
  have HA := Hid.mk hA
  have C1 := Hid.mk (fun u => place_any n0 200000 u n1 n2 (by decide))
  have C2 := Hid.mk (fun u => place_any k0 1200 u k1 k2 (by decide))
  obtain ⟨p, ep⟩ : ∃ p : Nat, pick n0 200000 = (p : Int) := ⟨(pick n0 200000).toNat, by have := pick_lo n0 200000 (by decide); omega⟩
  obtain ⟨kp, ek⟩ : ∃ p : Nat, pick k0 1200 = (p : Int) := ⟨(pick k0 1200).toNat, by have := pick_lo k0 1200 (by decide); omega⟩
  have hp := pick_hi n0 200000 (by decide)
  have hkp := pick_hi k0 1200 (by decide)
  rw [ep] at C1 hp
  rw [ek] at C2 hkp
  obtain ⟨n, en⟩ : ∃ n : Nat, n = p + 1 := ⟨_, rfl⟩
  have HN : Hid (1 ≤ n ∧ n ≤ 200000 ∧ kp < 1200) := Hid.mk (by omega)
  have v1 : wrap64 (1 + (p : Int)) = (n : Int) := by unfold wrap64; omega
  clear hA n1 n2 k1 k2 ep ek hp hkp en
  go_enter Try.func5, Try.ntmps5
  go_wp2_with (fail)
  refine (shown_any w).mono ?_
  rintro e w1 ⟨rfl, k1⟩
  have K1 := Hid.mk k1
  clear k1
  go_wp2_with (fail)
  refine (new_any w1).mono ?_
  rintro e w2 ⟨rfl, h2, k2⟩
  obtain ⟨P, eP⟩ : ∃ P, w1.heap.size = P := ⟨_, rfl⟩
  rw [eP] at h2 ⊢
  have O2 : Hid (Ow w w2 P (.slice none 0 0) (.slice none 0 0) ⟨[], [], false, 0, 0⟩) := Hid.mk ⟨h2, fun x hx => by simp [foot, Value.ownBlock] at hx; have := K1.out.size; omega, K1.out.trans k2⟩
  have HPw : Hid (w.heap.size ≤ P) := Hid.mk (eP ▸ K1.out.size)
  clear h2 k2 eP
  go_wp2_with (fail)
  refine (C1.out w2).mono ?_
  rintro e w2' ⟨rfl, hw2⟩
  obtain rfl := hw2.symm
  go_wp2_with (fail)
  refine (C2.out w2).mono ?_
  rintro e w2' ⟨rfl, hw2⟩
  obtain rfl := hw2.symm
  go_wp2_with (fail)
  refine (arm_any w2 P _ _ _ (n : Int) (kp : Int) O2.out.med).mono ?_
  rintro e w4 ⟨rfl, h4, k4⟩
  have a1 : arE ⟨[], [], false, 0, 0⟩ (n : Int) (kp : Int) = 0 := by simp only [arE]; rw [if_neg (by decide), if_neg (by omega)]
  have a2 : arS ⟨[], [], false, 0, 0⟩ (n : Int) (kp : Int) = lsS [] n 0 (kp : Int) := by simp only [arS, lsS]; rw [if_neg (by decide), if_neg (by omega), if_pos (by have := HN.out; omega)]; rfl
  rw [a1]
  rw [a2] at h4
  have L4 : Hid (Lw w w4 P (.slice none 0 0) (.slice none 0 0) (.slice none 0 0) (lsS [] n 0 (kp : Int)) []) := Hid.mk ⟨O2.out.p h4 k4, own_nil _ _ _ _, by simp [Value.ownBlock]⟩
  clear h4 k4 a1 a2 O2 K1 C1 C2 v1
  go_wp2
  go_loopw [2, 9, 10] (fun kv x i wr => ∃ (k xl xc kk : Nat) (xo : Option Addr), k ≤ N ∧ k ≤ 200000 ∧ i = .int .i64 (k : Int) ∧ kv = .int .i64 (kk : Int) ∧ x = .slice xo xl xc ∧ xl ≤ 1000 * k ∧ (k < n → kk = kp) ∧ kk ≤ 1200 ∧ ∃ V L A, A.length = xl ∧ Byts A ∧ Hid (Lw w wr P V L (.slice xo xl xc) (lsS A n k (kp : Int)) A)) (fun _ _ i _ => N - (intOf i).toNat)
  case atStart => exact ⟨0, 0, 0, kp, none, Nat.zero_le _, by omega, rfl, rfl, rfl, Nat.le_refl _, fun _ => rfl, by have := HN.out; omega, _, _, [], rfl, by simp [Byts], L4⟩
  case round =>
    obtain ⟨k, xl, xc, kk, xo, hk, hk2, rfl, rfl, rfl, hxl, hkk, hkb, V, L, A, hAl, hAb, HL⟩ := hrel
    by_cases hlt : k < N ∧ k < 200000
    · obtain ⟨hlt, hlt2⟩ := hlt
      have ik : (k : Int) < (N : Int) := by omega
      have ik2 : (k : Int) < 200000 := by omega
      obtain ⟨bA, off, rfl, hat⟩ := HA.out.lies (by omega)
      have hrow := HA.out.ok k hlt
      have d0 := cell_keep HL.out.ow.old (hat k hlt) (by simp)
      obtain ⟨⟨ao, m0, c, l0⟩, ef⟩ : ∃ r, f k = r := ⟨_, rfl⟩
      rw [ef] at hrow d0
      obtain ⟨hr, hb, hm0, hmc, hc⟩ := hrow
      simp only at hr hb hm0 hmc hc d0
      obtain ⟨m, l, hS, hbr⟩ : ∃ m l, Small w ao m c l ∧ ((1000 < m0 ∧ m = 1000 ∧ ∀ u, Sem.run Try.prog (Instr.slice 29 (.slice ao m0 c) none (some (.int .i64 1000)) none) u = .ok (.slice ao m c) u) ∨ (¬ 1000 < m0 ∧ m = m0)) := by
        by_cases hbig : 1000 < m0
        · exact ⟨1000, l0.take 1000, ⟨reads_take _ hr, fun b h => hb b (List.mem_of_mem_take h), by simp; omega, by omega, by omega, hc, reads_lt (reads_take _ hr)⟩, .inl ⟨hbig, rfl, fun u => slice_h ao m0 c 1000 (by omega) u⟩⟩
        · exact ⟨m0, l0, ⟨hr, hb, hm0, hmc, by omega, hc, reads_lt hr⟩, .inr ⟨hbig, rfl⟩⟩
      have HS := Hid.mk hS
      have HG : Hid (k < N ∧ k < 200000 ∧ xl ≤ 1000 * k ∧ (k < n → kk = kp) ∧ kk ≤ 1200 ∧ A.length = xl ∧ Byts A ∧ m ≤ 1000) := Hid.mk ⟨hlt, hlt2, hxl, hkk, hkb, hAl, hAb, hS.low⟩
      have HP := Hid.mk (hS.ne (W := w) HPw.out (Nat.le_refl _))
      clear hr hb hm0 hmc hc hS ef hat hlt hlt2 hxl hkk hkb hAl hAb hk hk2
      rcases hbr with ⟨q0, hm9, SLB⟩ | ⟨q0, hm9⟩
      · have q0' :  (1000 : Int) < (m0 : Int) := by omega
        clear hm9
        by_cases hd : k + 1 = n
        · have hst : lsS A n k (kp : Int) = ⟨A, [], false, 1, (kp : Int)⟩ := by unfold lsS; rw [if_pos (by omega), show n - k = 1 by omega]; rfl
          obtain ⟨q, eq⟩ : ∃ q : Nat, q = min kp m := ⟨_, rfl⟩
          have ekk : kk = kp := HG.out.2.2.2.1 (by omega)
          subst ekk
          have HQ : Hid (q = min kk m ∧ k + 1 = n) := Hid.mk ⟨eq, hd⟩
          have e1 : ((k : Int) + 1 == (n : Int)) = true := by simpa using (by omega : (k : Int) + 1 = (n : Int))
          have e2 : (k : Int) + 1 = (n : Int) := by omega
          rw [hst] at HL
          clear q0 hst eq hd
          go_wp2_with (fail)
          refine (append_dies _ P V L _ ao m c l HL.out.ow.med ⟨by have := HG.out; simp only; omega, HG.out.2.2.2.2.2.2.1, by simp, by simp, by simp, by have := HN.out; simp only; omega⟩ (HS.out.rd.keep HL.out.ow.old) HS.out.len HS.out.cap HS.out.non HP.out rfl (by have := HG.out; simp only; omega) rfl).mono ?_
          rintro e w5 ⟨V5, rfl, h5, k5, l5⟩
          have ltk : l.take kk = l.take q := by
            by_cases h9 : kk ≤ m
            · congr 1; have := HQ.out; omega
            · rw [List.take_of_length_le (by have := HS.out.len; omega), List.take_of_length_le (by have := HS.out.len; have := HQ.out; omega)]
          simp only [Int.toNat_natCast, ltk] at h5
          have L5 := Hid.mk (HL.out.v h5 k5 l5)
          clear h5 k5 l5 ltk HL d0
          have SLQ := slice_h ao m c q (by have := HQ.out; have := HS.out.cap; omega)
          have iq : (q : Int) ≤ (c : Int) := by have := HQ.out; have := HS.out.cap; omega
          have xo5 := L5.out.xo
          rw [HG.out.2.2.2.2.2.1] at xo5
          obtain ⟨v', u', hrun, ho, hk9, hL9⟩ := app_at w5 29 _ _ _ xo5 ao q c (l.take q) (reads_take q (HS.out.rd.keep L5.out.ow.old)) (by simp; have := HQ.out; have := HS.out.len; omega) (by have := HG.out; have := HQ.out; omega) HS.out.non
          obtain ⟨lz, cz, ez, -, -, -, -⟩ := row_form2 ho
          subst ez
          have hlen : (A ++ l.take q).length = xl + q := by simp; have := HG.out; have := HQ.out; have := HS.out.len; omega
          have L6 := Hid.mk (L5.out.app (X' := .slice lz (xl + q) cz) (A' := A ++ l.take q) hk9 (by rw [hlen, List.map_append]; exact ho) hL9)
          clear xo5 ho hk9 hL9 hlen
          by_cases hkm : (m : Int) < (kk : Int)
          · have hkm2 : m < kk := by omega
            obtain rfl : m = q := by have := HQ.out; omega
            go_wp2_with (at_builtin; refine wpList_app_eq' rfl _ _ 29 rfl _ _ _ _ rfl rfl hrun ?_)
            refine (read_any u' P V5 L _ 0 0 L6.out.ow.med (by simp; have := HG.out; have := HS.out.len; omega) (by simp) (by omega)).mono ?_
            rintro e w7 ⟨b7, c7, L7', rfl, -, h7, k7, l7⟩
            obtain ⟨r1, r2, r3⟩ := rd_dead ⟨A ++ l.take m, [], true, 0, 0⟩ rfl 0 268435456 0 0
            rw [r1, r2]
            rw [r3] at h7
            have L7 := Hid.mk (L6.out.l h7 k7 l7)
            clear h7 k7 l7 r1 r2 r3 hrun
            simp only [List.length_nil]
            go_wp2_with (fail)
            refine (append_dead w7 P V5 L7' _ none 0 0 L7.out.ow.med rfl).mono ?_
            rintro e w8 ⟨rfl, h8, k8⟩
            have L8 := Hid.mk (L7.out.p h8 k8)
            clear h8 k8
            go_wp2_with (fail)
            refine (dead_any w8 P V5 L7' _ L8.out.ow.med).mono ?_
            rintro e w9 ⟨rfl, h9, k9⟩
            have L9 := Hid.mk (L8.out.p h9 k9)
            clear h9 k9
            go_wp2_with (fail)
            refine (arm_any w9 P V5 L7' _ 0 0 L9.out.ow.med).mono ?_
            rintro e wa ⟨rfl, ha, ka⟩
            have a1 : arE ⟨A ++ l.take m, [], true, 0, 0⟩ 0 0 = 152 := by simp [arE]
            have a2 : arS ⟨A ++ l.take m, [], true, 0, 0⟩ 0 0 = ⟨A ++ l.take m, [], true, 0, 0⟩ := by simp [arS]
            rw [a1]
            rw [a2] at ha
            have La := Hid.mk (L9.out.p ha ka)
            clear ha ka a1 a2
            go_wp2_with (fail)
            refine (revive_any wa P V5 L7' _ La.out.ow.med).mono ?_
            rintro e wb ⟨rfl, hb, kb⟩
            have Lb := Hid.mk (La.out.p hb kb)
            clear hb kb
            have hst2 : (⟨A ++ l.take m, [], false, 0, 0⟩ : Md) = lsS (A ++ l.take m) n (k + 1) (kk : Int) := by unfold lsS; rw [if_neg (by have := HQ.out; omega)]
            simp only [hst2] at Lb
            clear hst2
            go_wp2
            go_roundw
            case rel => exact ⟨k + 1, xl + m, cz, m, lz, by have := HG.out; omega, by have := HG.out; omega, by go_num, rfl, rfl, by have := HG.out; omega, fun h => absurd h (by have := HQ.out; omega), by have := HG.out; have := HN.out; omega, _, _, A ++ l.take m, by simp; have := HG.out; have := HS.out.len; have := HQ.out; omega, fun b hb => by (simp only [List.mem_append] at hb; rcases hb with hb | hb; exact HG.out.2.2.2.2.2.2.1 b hb; exact HS.out.by_ b (List.mem_of_mem_take hb)), Lb⟩
            case measure => have := HG.out; simp [intOf]; omega
          · have hkm2 : ¬ m < kk := by omega
            obtain rfl : kk = q := by have := HQ.out; omega
            go_wp2_with (at_builtin; refine wpList_app_eq' rfl _ _ 29 rfl _ _ _ _ rfl rfl hrun ?_)
            refine (read_any u' P V5 L _ 0 0 L6.out.ow.med (by simp; have := HG.out; have := HS.out.len; omega) (by simp) (by omega)).mono ?_
            rintro e w7 ⟨b7, c7, L7', rfl, -, h7, k7, l7⟩
            obtain ⟨r1, r2, r3⟩ := rd_dead ⟨A ++ l.take kk, [], true, 0, 0⟩ rfl 0 268435456 0 0
            rw [r1, r2]
            rw [r3] at h7
            have L7 := Hid.mk (L6.out.l h7 k7 l7)
            clear h7 k7 l7 r1 r2 r3 hrun
            simp only [List.length_nil]
            go_wp2_with (fail)
            refine (append_dead w7 P V5 L7' _ none 0 0 L7.out.ow.med rfl).mono ?_
            rintro e w8 ⟨rfl, h8, k8⟩
            have L8 := Hid.mk (L7.out.p h8 k8)
            clear h8 k8
            go_wp2_with (fail)
            refine (dead_any w8 P V5 L7' _ L8.out.ow.med).mono ?_
            rintro e w9 ⟨rfl, h9, k9⟩
            have L9 := Hid.mk (L8.out.p h9 k9)
            clear h9 k9
            go_wp2_with (fail)
            refine (arm_any w9 P V5 L7' _ 0 0 L9.out.ow.med).mono ?_
            rintro e wa ⟨rfl, ha, ka⟩
            have a1 : arE ⟨A ++ l.take kk, [], true, 0, 0⟩ 0 0 = 152 := by simp [arE]
            have a2 : arS ⟨A ++ l.take kk, [], true, 0, 0⟩ 0 0 = ⟨A ++ l.take kk, [], true, 0, 0⟩ := by simp [arS]
            rw [a1]
            rw [a2] at ha
            have La := Hid.mk (L9.out.p ha ka)
            clear ha ka a1 a2
            go_wp2_with (fail)
            refine (revive_any wa P V5 L7' _ La.out.ow.med).mono ?_
            rintro e wb ⟨rfl, hb, kb⟩
            have Lb := Hid.mk (La.out.p hb kb)
            clear hb kb
            have hst2 : (⟨A ++ l.take kk, [], false, 0, 0⟩ : Md) = lsS (A ++ l.take kk) n (k + 1) (kk : Int) := by unfold lsS; rw [if_neg (by have := HQ.out; omega)]
            simp only [hst2] at Lb
            clear hst2
            go_wp2
            go_roundw
            case rel => exact ⟨k + 1, xl + kk, cz, kk, lz, by have := HG.out; omega, by have := HG.out; omega, by go_num, rfl, rfl, by have := HG.out; omega, fun h => absurd h (by have := HQ.out; omega), by have := HG.out; have := HN.out; omega, _, _, A ++ l.take kk, by simp; have := HG.out; have := HS.out.len; have := HQ.out; omega, fun b hb => by (simp only [List.mem_append] at hb; rcases hb with hb | hb; exact HG.out.2.2.2.2.2.2.1 b hb; exact HS.out.by_ b (List.mem_of_mem_take hb)), Lb⟩
            case measure => have := HG.out; simp [intOf]; omega
        · have hd1 : ((k : Int) + 1 == (n : Int)) = false := by simpa using (by omega : ¬ (k : Int) + 1 = (n : Int))
          have hd2 : ¬ (k : Int) + 1 = (n : Int) := by omega
          obtain ⟨s1, s2, s3, s4⟩ := lsS_step A l n k (kp : Int) hd
          have HD := Hid.mk hd
          clear q0 hd
          go_wp2_with (fail)
          refine (append_ok _ P V L _ ao m c l HL.out.ow.med (lsS_ok A n k (kp : Int) (by have := HG.out; omega) HG.out.2.2.2.2.2.2.1 (by omega) (by have := HN.out; omega) HN.out.2.1) (HS.out.rd.keep HL.out.ow.old) HS.out.len HS.out.non HP.out s1 (by rw [s2]; have := HG.out; omega) s3).mono ?_
          rintro e w5 ⟨V5, rfl, h5, k5, l5⟩
          rw [s4] at h5
          rw [s2, HG.out.2.2.2.2.2.1]
          have L5 := Hid.mk (HL.out.v h5 k5 l5)
          clear h5 k5 l5 HL d0 s1 s2 s3 s4
          have xo5 := L5.out.xo
          rw [HG.out.2.2.2.2.2.1] at xo5
          obtain ⟨v', u', hrun, ho, hk9, hL9⟩ := app_at w5 29 _ _ _ xo5 ao m c l (HS.out.rd.keep L5.out.ow.old) HS.out.len (by have := HG.out; omega) HS.out.non
          obtain ⟨lz, cz, ez, -, -, -, -⟩ := row_form2 ho
          subst ez
          have hlen : (A ++ l).length = xl + m := by simp; have := HG.out; have := HS.out.len; omega
          have L6 := Hid.mk (L5.out.app (X' := .slice lz (xl + m) cz) (A' := A ++ l) hk9 (by rw [hlen, List.map_append]; exact ho) hL9)
          clear xo5 ho hk9 hL9
          go_wp2_with (at_builtin; refine wpList_app_eq' rfl _ _ 29 rfl _ _ _ _ rfl rfl hrun ?_)
          go_roundw
          case rel => exact ⟨k + 1, xl + m, cz, kk, lz, by have := HG.out; omega, by have := HG.out; omega, by go_num, rfl, rfl, by have := HG.out; omega, fun h => HG.out.2.2.2.1 (by omega), HG.out.2.2.2.2.1, _, _, A ++ l, hlen, fun b hb => by (simp only [List.mem_append] at hb; rcases hb with hb | hb; exact HG.out.2.2.2.2.2.2.1 b hb; exact HS.out.by_ b hb), L6⟩
          case measure => have := HG.out; simp [intOf]; omega
      · have q0' : ¬ (1000 : Int) < (m0 : Int) := by omega
        subst hm9
        by_cases hd : k + 1 = n
        · have hst : lsS A n k (kp : Int) = ⟨A, [], false, 1, (kp : Int)⟩ := by unfold lsS; rw [if_pos (by omega), show n - k = 1 by omega]; rfl
          obtain ⟨q, eq⟩ : ∃ q : Nat, q = min kp m := ⟨_, rfl⟩
          have ekk : kk = kp := HG.out.2.2.2.1 (by omega)
          subst ekk
          have HQ : Hid (q = min kk m ∧ k + 1 = n) := Hid.mk ⟨eq, hd⟩
          have e1 : ((k : Int) + 1 == (n : Int)) = true := by simpa using (by omega : (k : Int) + 1 = (n : Int))
          have e2 : (k : Int) + 1 = (n : Int) := by omega
          rw [hst] at HL
          clear q0 hst eq hd
          go_wp2_with (fail)
          refine (append_dies _ P V L _ ao m c l HL.out.ow.med ⟨by have := HG.out; simp only; omega, HG.out.2.2.2.2.2.2.1, by simp, by simp, by simp, by have := HN.out; simp only; omega⟩ (HS.out.rd.keep HL.out.ow.old) HS.out.len HS.out.cap HS.out.non HP.out rfl (by have := HG.out; simp only; omega) rfl).mono ?_
          rintro e w5 ⟨V5, rfl, h5, k5, l5⟩
          have ltk : l.take kk = l.take q := by
            by_cases h9 : kk ≤ m
            · congr 1; have := HQ.out; omega
            · rw [List.take_of_length_le (by have := HS.out.len; omega), List.take_of_length_le (by have := HS.out.len; have := HQ.out; omega)]
          simp only [Int.toNat_natCast, ltk] at h5
          have L5 := Hid.mk (HL.out.v h5 k5 l5)
          clear h5 k5 l5 ltk HL d0
          have SLQ := slice_h ao m c q (by have := HQ.out; have := HS.out.cap; omega)
          have iq : (q : Int) ≤ (c : Int) := by have := HQ.out; have := HS.out.cap; omega
          have xo5 := L5.out.xo
          rw [HG.out.2.2.2.2.2.1] at xo5
          obtain ⟨v', u', hrun, ho, hk9, hL9⟩ := app_at w5 29 _ _ _ xo5 ao q c (l.take q) (reads_take q (HS.out.rd.keep L5.out.ow.old)) (by simp; have := HQ.out; have := HS.out.len; omega) (by have := HG.out; have := HQ.out; omega) HS.out.non
          obtain ⟨lz, cz, ez, -, -, -, -⟩ := row_form2 ho
          subst ez
          have hlen : (A ++ l.take q).length = xl + q := by simp; have := HG.out; have := HQ.out; have := HS.out.len; omega
          have L6 := Hid.mk (L5.out.app (X' := .slice lz (xl + q) cz) (A' := A ++ l.take q) hk9 (by rw [hlen, List.map_append]; exact ho) hL9)
          clear xo5 ho hk9 hL9 hlen
          by_cases hkm : (m : Int) < (kk : Int)
          · have hkm2 : m < kk := by omega
            obtain rfl : m = q := by have := HQ.out; omega
            go_wp2_with (at_builtin; refine wpList_app_eq' rfl _ _ 29 rfl _ _ _ _ rfl rfl hrun ?_)
            refine (read_any u' P V5 L _ 0 0 L6.out.ow.med (by simp; have := HG.out; have := HS.out.len; omega) (by simp) (by omega)).mono ?_
            rintro e w7 ⟨b7, c7, L7', rfl, -, h7, k7, l7⟩
            obtain ⟨r1, r2, r3⟩ := rd_dead ⟨A ++ l.take m, [], true, 0, 0⟩ rfl 0 268435456 0 0
            rw [r1, r2]
            rw [r3] at h7
            have L7 := Hid.mk (L6.out.l h7 k7 l7)
            clear h7 k7 l7 r1 r2 r3 hrun
            simp only [List.length_nil]
            go_wp2_with (fail)
            refine (append_dead w7 P V5 L7' _ none 0 0 L7.out.ow.med rfl).mono ?_
            rintro e w8 ⟨rfl, h8, k8⟩
            have L8 := Hid.mk (L7.out.p h8 k8)
            clear h8 k8
            go_wp2_with (fail)
            refine (dead_any w8 P V5 L7' _ L8.out.ow.med).mono ?_
            rintro e w9 ⟨rfl, h9, k9⟩
            have L9 := Hid.mk (L8.out.p h9 k9)
            clear h9 k9
            go_wp2_with (fail)
            refine (arm_any w9 P V5 L7' _ 0 0 L9.out.ow.med).mono ?_
            rintro e wa ⟨rfl, ha, ka⟩
            have a1 : arE ⟨A ++ l.take m, [], true, 0, 0⟩ 0 0 = 152 := by simp [arE]
            have a2 : arS ⟨A ++ l.take m, [], true, 0, 0⟩ 0 0 = ⟨A ++ l.take m, [], true, 0, 0⟩ := by simp [arS]
            rw [a1]
            rw [a2] at ha
            have La := Hid.mk (L9.out.p ha ka)
            clear ha ka a1 a2
            go_wp2_with (fail)
            refine (revive_any wa P V5 L7' _ La.out.ow.med).mono ?_
            rintro e wb ⟨rfl, hb, kb⟩
            have Lb := Hid.mk (La.out.p hb kb)
            clear hb kb
            have hst2 : (⟨A ++ l.take m, [], false, 0, 0⟩ : Md) = lsS (A ++ l.take m) n (k + 1) (kk : Int) := by unfold lsS; rw [if_neg (by have := HQ.out; omega)]
            simp only [hst2] at Lb
            clear hst2
            go_wp2
            go_roundw
            case rel => exact ⟨k + 1, xl + m, cz, m, lz, by have := HG.out; omega, by have := HG.out; omega, by go_num, rfl, rfl, by have := HG.out; omega, fun h => absurd h (by have := HQ.out; omega), by have := HG.out; have := HN.out; omega, _, _, A ++ l.take m, by simp; have := HG.out; have := HS.out.len; have := HQ.out; omega, fun b hb => by (simp only [List.mem_append] at hb; rcases hb with hb | hb; exact HG.out.2.2.2.2.2.2.1 b hb; exact HS.out.by_ b (List.mem_of_mem_take hb)), Lb⟩
            case measure => have := HG.out; simp [intOf]; omega
          · have hkm2 : ¬ m < kk := by omega
            obtain rfl : kk = q := by have := HQ.out; omega
            go_wp2_with (at_builtin; refine wpList_app_eq' rfl _ _ 29 rfl _ _ _ _ rfl rfl hrun ?_)
            refine (read_any u' P V5 L _ 0 0 L6.out.ow.med (by simp; have := HG.out; have := HS.out.len; omega) (by simp) (by omega)).mono ?_
            rintro e w7 ⟨b7, c7, L7', rfl, -, h7, k7, l7⟩
            obtain ⟨r1, r2, r3⟩ := rd_dead ⟨A ++ l.take kk, [], true, 0, 0⟩ rfl 0 268435456 0 0
            rw [r1, r2]
            rw [r3] at h7
            have L7 := Hid.mk (L6.out.l h7 k7 l7)
            clear h7 k7 l7 r1 r2 r3 hrun
            simp only [List.length_nil]
            go_wp2_with (fail)
            refine (append_dead w7 P V5 L7' _ none 0 0 L7.out.ow.med rfl).mono ?_
            rintro e w8 ⟨rfl, h8, k8⟩
            have L8 := Hid.mk (L7.out.p h8 k8)
            clear h8 k8
            go_wp2_with (fail)
            refine (dead_any w8 P V5 L7' _ L8.out.ow.med).mono ?_
            rintro e w9 ⟨rfl, h9, k9⟩
            have L9 := Hid.mk (L8.out.p h9 k9)
            clear h9 k9
            go_wp2_with (fail)
            refine (arm_any w9 P V5 L7' _ 0 0 L9.out.ow.med).mono ?_
            rintro e wa ⟨rfl, ha, ka⟩
            have a1 : arE ⟨A ++ l.take kk, [], true, 0, 0⟩ 0 0 = 152 := by simp [arE]
            have a2 : arS ⟨A ++ l.take kk, [], true, 0, 0⟩ 0 0 = ⟨A ++ l.take kk, [], true, 0, 0⟩ := by simp [arS]
            rw [a1]
            rw [a2] at ha
            have La := Hid.mk (L9.out.p ha ka)
            clear ha ka a1 a2
            go_wp2_with (fail)
            refine (revive_any wa P V5 L7' _ La.out.ow.med).mono ?_
            rintro e wb ⟨rfl, hb, kb⟩
            have Lb := Hid.mk (La.out.p hb kb)
            clear hb kb
            have hst2 : (⟨A ++ l.take kk, [], false, 0, 0⟩ : Md) = lsS (A ++ l.take kk) n (k + 1) (kk : Int) := by unfold lsS; rw [if_neg (by have := HQ.out; omega)]
            simp only [hst2] at Lb
            clear hst2
            go_wp2
            go_roundw
            case rel => exact ⟨k + 1, xl + kk, cz, kk, lz, by have := HG.out; omega, by have := HG.out; omega, by go_num, rfl, rfl, by have := HG.out; omega, fun h => absurd h (by have := HQ.out; omega), by have := HG.out; have := HN.out; omega, _, _, A ++ l.take kk, by simp; have := HG.out; have := HS.out.len; have := HQ.out; omega, fun b hb => by (simp only [List.mem_append] at hb; rcases hb with hb | hb; exact HG.out.2.2.2.2.2.2.1 b hb; exact HS.out.by_ b (List.mem_of_mem_take hb)), Lb⟩
            case measure => have := HG.out; simp [intOf]; omega
        · have hd1 : ((k : Int) + 1 == (n : Int)) = false := by simpa using (by omega : ¬ (k : Int) + 1 = (n : Int))
          have hd2 : ¬ (k : Int) + 1 = (n : Int) := by omega
          obtain ⟨s1, s2, s3, s4⟩ := lsS_step A l n k (kp : Int) hd
          have HD := Hid.mk hd
          clear q0 hd
          go_wp2_with (fail)
          refine (append_ok _ P V L _ ao m c l HL.out.ow.med (lsS_ok A n k (kp : Int) (by have := HG.out; omega) HG.out.2.2.2.2.2.2.1 (by omega) (by have := HN.out; omega) HN.out.2.1) (HS.out.rd.keep HL.out.ow.old) HS.out.len HS.out.non HP.out s1 (by rw [s2]; have := HG.out; omega) s3).mono ?_
          rintro e w5 ⟨V5, rfl, h5, k5, l5⟩
          rw [s4] at h5
          rw [s2, HG.out.2.2.2.2.2.1]
          have L5 := Hid.mk (HL.out.v h5 k5 l5)
          clear h5 k5 l5 HL d0 s1 s2 s3 s4
          have xo5 := L5.out.xo
          rw [HG.out.2.2.2.2.2.1] at xo5
          obtain ⟨v', u', hrun, ho, hk9, hL9⟩ := app_at w5 29 _ _ _ xo5 ao m c l (HS.out.rd.keep L5.out.ow.old) HS.out.len (by have := HG.out; omega) HS.out.non
          obtain ⟨lz, cz, ez, -, -, -, -⟩ := row_form2 ho
          subst ez
          have hlen : (A ++ l).length = xl + m := by simp; have := HG.out; have := HS.out.len; omega
          have L6 := Hid.mk (L5.out.app (X' := .slice lz (xl + m) cz) (A' := A ++ l) hk9 (by rw [hlen, List.map_append]; exact ho) hL9)
          clear xo5 ho hk9 hL9
          go_wp2_with (at_builtin; refine wpList_app_eq' rfl _ _ 29 rfl _ _ _ _ rfl rfl hrun ?_)
          go_roundw
          case rel => exact ⟨k + 1, xl + m, cz, kk, lz, by have := HG.out; omega, by have := HG.out; omega, by go_num, rfl, rfl, by have := HG.out; omega, fun h => HG.out.2.2.2.1 (by omega), HG.out.2.2.2.2.1, _, _, A ++ l, hlen, fun b hb => by (simp only [List.mem_append] at hb; rcases hb with hb | hb; exact HG.out.2.2.2.2.2.2.1 b hb; exact HS.out.by_ b hb), L6⟩
          case measure => have := HG.out; simp [intOf]; omega
    · by_cases hkN : k < N
      · have j1 : (k : Int) < (N : Int) := by omega
        have j2 : ¬ (k : Int) < 200000 := by omega
        clear hlt hkN
        obtain ⟨lf, kq, hst⟩ := lsS_form A n k (kp : Int)
        rw [hst] at HL
        have HB : Hid (A.length ≤ 268435456 ∧ xl ≤ 268435456 ∧ A.length = xl) := Hid.mk (by omega)
        obtain ⟨h, z, y, t1, t2, t3, t4, t5, tz⟩ := half_facts xl HB.out.2.1
        have HZ : Hid (h + z = xl ∧ h ≤ xl ∧ y = z + 1) := Hid.mk tz
        clear tz hst hk hk2 hxl hkk hkb hAl hAb
        go_wp2_with (fail)
        refine (bytes_any _ P V L _ HL.out.ow.med HB.out.1).mono ?_
        rintro e w6 ⟨b6, c6, rfl, o6, h6, k6⟩
        have L6 := Hid.mk (HL.out.p h6 k6)
        have O6 := Hid.mk (own_zero o6)
        clear h6 k6 o6 HL
        simp only [HB.out.2.2]
        go_wp2_with (fail)
        refine (read_any w6 P V L _ 0 (xl : Int) L6.out.ow.med HB.out.1 (by simp) (by omega)).mono ?_
        rintro e w7 ⟨b7, c7, L7', rfl, o7, h7, k7, l7⟩
        obtain ⟨r1, r2, r3⟩ := rd_all A lf kq HB.out.1
        rw [HB.out.2.2] at r1 r2 r3
        rw [r1, r2]
        rw [r2] at o7
        rw [r3] at h7
        have L7 := Hid.mk (L6.out.l h7 k7 l7)
        have O6' := Hid.mk (row5_keep L6.out.ow.med O6.out k7)
        have O7 := Hid.mk (own_zero o7)
        simp only [HB.out.2.2]
        clear h7 k7 l7 r1 r2 r3 o7 O6
        go_wp2_with (fail)
        refine (piece_any w7 P V L7' _ 0 (xl : Int) L7.out.ow.med HB.out.1 (by omega)).mono ?_
        rintro e w8 ⟨h8, k8, hp⟩
        have hin : inB 0 (xl : Int) (xl : Int) = true := by simp only [inB, decide_eq_true_eq]; omega
        rcases hp with ⟨-, R, rfl, p8, -⟩ | ⟨hx, -⟩
        rotate_left
        · simp only [HB.out.2.2, hin] at hx; cases hx
        clear hin
        have L8 := Hid.mk (L7.out.p h8 k8)
        have k8' : Kept (P :: L7'.ownBlock.toList) w7 w8 := k8.at (by simp)
        have O6 := Hid.mk (row5_keep L7.out.ow.med O6'.out k8')
        have O8 := Hid.mk (row5_keep L7.out.ow.med O7.out k8')
        have P8 := Hid.mk p8
        clear h8 k8 k8' p8 O6' O7
        have x8 := L8.out.xo
        have sA : Sem.run Try.prog (convert 29 9 (.slice xo xl xc)) w8 = .ok (.string (bstr A)) w8 := by have := reads_str (reads_row (n := xl) (cap := xc) (by rw [HB.out.2.2] at x8; exact x8)) xc; rw [HB.out.2.2] at this; exact this
        have s6 : Sem.run Try.prog (convert 29 9 (.slice b6 xl c6)) w8 = .ok (.string (bstr A)) w8 := by have := reads_str (reads_row (n := xl) (cap := c6) (by have := O6.out; simp only [HB.out.2.2] at this; exact this)) c6; rw [HB.out.2.2] at this; exact this
        have s7 : Sem.run Try.prog (convert 29 9 (.slice b7 xl c7)) w8 = .ok (.string (bstr A)) w8 := by have := reads_str (reads_row (n := xl) (cap := c7) (by have := O8.out; simp only [HB.out.2.2] at this; exact this)) c7; rw [HB.out.2.2] at this; exact this
        clear x8
        go_wp2_with (fail)
        refine (pread_any w8 R P V L7' _ 0 (xl : Int) (h : Int) (z : Int) P8.out L8.out.ow.med HB.out.1 (by simp) (by have := HZ.out; have := HB.out; omega) (by omega) (by omega) (by omega) (by have := HB.out; omega)).mono ?_
        rintro e w9 ⟨b9, c9, L9', rfl, o9, h9, k9, l9⟩
        obtain ⟨r1, r2, r3⟩ := rd_half A [(0, (xl : Int))] lf kq h z (by have := HZ.out; have := HB.out; omega)
        rw [HB.out.2.2] at r1 r2 r3
        rw [r1, r2]
        rw [r2] at o9
        rw [r3] at h9
        have ld : (A.drop h).length = z := by have := HZ.out; have := HB.out; simp; omega
        rw [ld] at o9 ⊢
        have L9 := Hid.mk (L8.out.l h9 k9 l9)
        have O9 := Hid.mk (own_zero o9)
        have P9 := Hid.mk (P8.out.kept k9 (fun hm => foot_ne L8.out.ow.med P8.out (by decide) (by decide) (by decide) (inL P V L7' _ hm)))
        have HLD := Hid.mk ld
        clear h9 k9 l9 r1 r2 r3 o9 sA s6 s7 ld O6 O8 P8 L8 L7
        go_wp2_with (fail)
        refine (pread_any w9 R P V L9' _ 0 (xl : Int) (h : Int) (y : Int) P9.out L9.out.ow.med HB.out.1 (by simp) (by have := HZ.out; have := HB.out; omega) (by omega) (by omega) (by omega) (by have := HB.out; omega)).mono ?_
        rintro e wa ⟨ba, ca, La', rfl, -, ha, ka, la⟩
        obtain ⟨r1, r2, r3⟩ := rd_over A ([(0, (xl : Int))] ++ [(0 + (h : Int), (z : Int))]) lf kq h y (by have := HZ.out; have := HB.out; omega)
        rw [HB.out.2.2] at r1 r2 r3
        rw [r1, r2]
        rw [r3] at ha
        have La := Hid.mk (L9.out.l ha ka la)
        have Oa := Hid.mk (row5_keep L9.out.ow.med O9.out ka)
        have Pa := Hid.mk (P9.out.kept ka (fun hm => foot_ne L9.out.ow.med P9.out (by decide) (by decide) (by decide) (inL P V L9' _ hm)))
        simp only [List.length_nil]
        clear ha ka la r1 r2 r3 t2 t4 O9 P9 L9
        have xoa := La.out.xo
        rw [HB.out.2.2] at xoa
        obtain ⟨xo', xc', e9, -, hxc, -, -⟩ := row_form2 xoa
        cases e9
        have SLH := slice_l xo xl xc h (by have := HZ.out; omega)
        have rcut := reads_cut (reads_row (n := xl) (cap := xc) xoa) h z xc (by have := HZ.out; have := HB.out; omega) (by have := HB.out; omega)
        rw [List.take_of_length_le (by rw [HLD.out]; exact Nat.le_refl _)] at rcut
        obtain ⟨ad, ead⟩ : ∃ ad, (if xc = h then xo else xo.map (fun x => x.add h)) = ad := ⟨_, rfl⟩
        obtain ⟨cd, ecd⟩ : ∃ cd, xc - h = cd := ⟨_, rfl⟩
        simp only [ead, ecd, show xl - h = z by have := HZ.out; omega] at SLH rcut
        have g1 := fun k => str_at (c := c9) (reads_row (n := z) (cap := c9) Oa.out) HLD.out k
        have g2 := fun k => str_at (c := cd) rcut HLD.out k
        have CS := Hid.mk (fun k => psize_any (wa.drewN k) R P 0 (xl : Int) (Pa.out.kept ((Kept.refl [] wa).drewN k) (by simp)))
        clear ead ecd xoa rcut hxc
        go_wp2_with (fail)
        refine wp_region_quiet_lit (by kernel_rfl) (by kernel_rfl) ?_
        repeat (quiet_step (fail))
        refine wpQuiet_step (fun K hK => ?_)
        go_simp
        refine ⟨.int .i64 (xl : Int), fun a => ?_, hK _ ?_⟩
        · go_invoke
          simp only [Result.andThen_ok]
          go_simp
          exact Calls.quiet_of_same (CS.out _)
        clear hK K
        repeat (quiet_step (fail))
        refine wpQuiet_nil ?_
        intro _ hw'
        obtain ⟨nq, hwq⟩ := hw'
        subst hwq
        obtain ⟨wb, ewb, kb⟩ : ∃ wb, wa.drewN nq = wb ∧ Kept [] wa wb := ⟨_, rfl, (Kept.refl _ _).drewN _⟩
        rw [ewb]
        have Kb := Hid.mk ((La.out.ow.old).trans kb)
        clear g1 g2 SLH ewb kb t1 t3 t5
        go_wp2
        go_ret
        exact ⟨rfl, Kb.out⟩
      · have j1 : ¬ (k : Int) < (N : Int) := by omega
        have j2 : ¬ k < N := hkN
        clear hlt hkN
        obtain ⟨lf, kq, hst⟩ := lsS_form A n k (kp : Int)
        rw [hst] at HL
        have HB : Hid (A.length ≤ 268435456 ∧ xl ≤ 268435456 ∧ A.length = xl) := Hid.mk (by omega)
        obtain ⟨h, z, y, t1, t2, t3, t4, t5, tz⟩ := half_facts xl HB.out.2.1
        have HZ : Hid (h + z = xl ∧ h ≤ xl ∧ y = z + 1) := Hid.mk tz
        clear tz hst hk hk2 hxl hkk hkb hAl hAb
        go_wp2_with (fail)
        refine (bytes_any _ P V L _ HL.out.ow.med HB.out.1).mono ?_
        rintro e w6 ⟨b6, c6, rfl, o6, h6, k6⟩
        have L6 := Hid.mk (HL.out.p h6 k6)
        have O6 := Hid.mk (own_zero o6)
        clear h6 k6 o6 HL
        simp only [HB.out.2.2]
        go_wp2_with (fail)
        refine (read_any w6 P V L _ 0 (xl : Int) L6.out.ow.med HB.out.1 (by simp) (by omega)).mono ?_
        rintro e w7 ⟨b7, c7, L7', rfl, o7, h7, k7, l7⟩
        obtain ⟨r1, r2, r3⟩ := rd_all A lf kq HB.out.1
        rw [HB.out.2.2] at r1 r2 r3
        rw [r1, r2]
        rw [r2] at o7
        rw [r3] at h7
        have L7 := Hid.mk (L6.out.l h7 k7 l7)
        have O6' := Hid.mk (row5_keep L6.out.ow.med O6.out k7)
        have O7 := Hid.mk (own_zero o7)
        simp only [HB.out.2.2]
        clear h7 k7 l7 r1 r2 r3 o7 O6
        go_wp2_with (fail)
        refine (piece_any w7 P V L7' _ 0 (xl : Int) L7.out.ow.med HB.out.1 (by omega)).mono ?_
        rintro e w8 ⟨h8, k8, hp⟩
        have hin : inB 0 (xl : Int) (xl : Int) = true := by simp only [inB, decide_eq_true_eq]; omega
        rcases hp with ⟨-, R, rfl, p8, -⟩ | ⟨hx, -⟩
        rotate_left
        · simp only [HB.out.2.2, hin] at hx; cases hx
        clear hin
        have L8 := Hid.mk (L7.out.p h8 k8)
        have k8' : Kept (P :: L7'.ownBlock.toList) w7 w8 := k8.at (by simp)
        have O6 := Hid.mk (row5_keep L7.out.ow.med O6'.out k8')
        have O8 := Hid.mk (row5_keep L7.out.ow.med O7.out k8')
        have P8 := Hid.mk p8
        clear h8 k8 k8' p8 O6' O7
        have x8 := L8.out.xo
        have sA : Sem.run Try.prog (convert 29 9 (.slice xo xl xc)) w8 = .ok (.string (bstr A)) w8 := by have := reads_str (reads_row (n := xl) (cap := xc) (by rw [HB.out.2.2] at x8; exact x8)) xc; rw [HB.out.2.2] at this; exact this
        have s6 : Sem.run Try.prog (convert 29 9 (.slice b6 xl c6)) w8 = .ok (.string (bstr A)) w8 := by have := reads_str (reads_row (n := xl) (cap := c6) (by have := O6.out; simp only [HB.out.2.2] at this; exact this)) c6; rw [HB.out.2.2] at this; exact this
        have s7 : Sem.run Try.prog (convert 29 9 (.slice b7 xl c7)) w8 = .ok (.string (bstr A)) w8 := by have := reads_str (reads_row (n := xl) (cap := c7) (by have := O8.out; simp only [HB.out.2.2] at this; exact this)) c7; rw [HB.out.2.2] at this; exact this
        clear x8
        go_wp2_with (fail)
        refine (pread_any w8 R P V L7' _ 0 (xl : Int) (h : Int) (z : Int) P8.out L8.out.ow.med HB.out.1 (by simp) (by have := HZ.out; have := HB.out; omega) (by omega) (by omega) (by omega) (by have := HB.out; omega)).mono ?_
        rintro e w9 ⟨b9, c9, L9', rfl, o9, h9, k9, l9⟩
        obtain ⟨r1, r2, r3⟩ := rd_half A [(0, (xl : Int))] lf kq h z (by have := HZ.out; have := HB.out; omega)
        rw [HB.out.2.2] at r1 r2 r3
        rw [r1, r2]
        rw [r2] at o9
        rw [r3] at h9
        have ld : (A.drop h).length = z := by have := HZ.out; have := HB.out; simp; omega
        rw [ld] at o9 ⊢
        have L9 := Hid.mk (L8.out.l h9 k9 l9)
        have O9 := Hid.mk (own_zero o9)
        have P9 := Hid.mk (P8.out.kept k9 (fun hm => foot_ne L8.out.ow.med P8.out (by decide) (by decide) (by decide) (inL P V L7' _ hm)))
        have HLD := Hid.mk ld
        clear h9 k9 l9 r1 r2 r3 o9 sA s6 s7 ld O6 O8 P8 L8 L7
        go_wp2_with (fail)
        refine (pread_any w9 R P V L9' _ 0 (xl : Int) (h : Int) (y : Int) P9.out L9.out.ow.med HB.out.1 (by simp) (by have := HZ.out; have := HB.out; omega) (by omega) (by omega) (by omega) (by have := HB.out; omega)).mono ?_
        rintro e wa ⟨ba, ca, La', rfl, -, ha, ka, la⟩
        obtain ⟨r1, r2, r3⟩ := rd_over A ([(0, (xl : Int))] ++ [(0 + (h : Int), (z : Int))]) lf kq h y (by have := HZ.out; have := HB.out; omega)
        rw [HB.out.2.2] at r1 r2 r3
        rw [r1, r2]
        rw [r3] at ha
        have La := Hid.mk (L9.out.l ha ka la)
        have Oa := Hid.mk (row5_keep L9.out.ow.med O9.out ka)
        have Pa := Hid.mk (P9.out.kept ka (fun hm => foot_ne L9.out.ow.med P9.out (by decide) (by decide) (by decide) (inL P V L9' _ hm)))
        simp only [List.length_nil]
        clear ha ka la r1 r2 r3 t2 t4 O9 P9 L9
        have xoa := La.out.xo
        rw [HB.out.2.2] at xoa
        obtain ⟨xo', xc', e9, -, hxc, -, -⟩ := row_form2 xoa
        cases e9
        have SLH := slice_l xo xl xc h (by have := HZ.out; omega)
        have rcut := reads_cut (reads_row (n := xl) (cap := xc) xoa) h z xc (by have := HZ.out; have := HB.out; omega) (by have := HB.out; omega)
        rw [List.take_of_length_le (by rw [HLD.out]; exact Nat.le_refl _)] at rcut
        obtain ⟨ad, ead⟩ : ∃ ad, (if xc = h then xo else xo.map (fun x => x.add h)) = ad := ⟨_, rfl⟩
        obtain ⟨cd, ecd⟩ : ∃ cd, xc - h = cd := ⟨_, rfl⟩
        simp only [ead, ecd, show xl - h = z by have := HZ.out; omega] at SLH rcut
        have g1 := fun k => str_at (c := c9) (reads_row (n := z) (cap := c9) Oa.out) HLD.out k
        have g2 := fun k => str_at (c := cd) rcut HLD.out k
        have CS := Hid.mk (fun k => psize_any (wa.drewN k) R P 0 (xl : Int) (Pa.out.kept ((Kept.refl [] wa).drewN k) (by simp)))
        clear ead ecd xoa rcut hxc
        go_wp2_with (fail)
        refine wp_region_quiet_lit (by kernel_rfl) (by kernel_rfl) ?_
        repeat (quiet_step (fail))
        refine wpQuiet_step (fun K hK => ?_)
        go_simp
        refine ⟨.int .i64 (xl : Int), fun a => ?_, hK _ ?_⟩
        · go_invoke
          simp only [Result.andThen_ok]
          go_simp
          exact Calls.quiet_of_same (CS.out _)
        clear hK K
        repeat (quiet_step (fail))
        refine wpQuiet_nil ?_
        intro _ hw'
        obtain ⟨nq, hwq⟩ := hw'
        subst hwq
        obtain ⟨wb, ewb, kb⟩ : ∃ wb, wa.drewN nq = wb ∧ Kept [] wa wb := ⟨_, rfl, (Kept.refl _ _).drewN _⟩
        rw [ewb]
        have Kb := Hid.mk ((La.out.ow.old).trans kb)
        clear g1 g2 SLH ewb kb t1 t3 t5
        go_wp2
        go_ret
        exact ⟨rfl, Kb.out⟩
end Go.Proofs.Ytiojcfffhcipnaa
