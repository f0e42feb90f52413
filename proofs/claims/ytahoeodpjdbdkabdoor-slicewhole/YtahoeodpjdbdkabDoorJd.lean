import Derived.Test.YtahoeodpjdbdkabDoorJc
namespace Go.Proofs.YtahoeodpjdbdkabDoor
open Go.RowKit

theorem wpList_app_eq {w : World} {ops : Array Oper} {rest : List Oper} {o : Oper} {a : Act} {Q : Exit → Act → World → Prop} (hgd : o.guard = none) (s x : Operand) (ho : o.op = .call { callee := .builtin .append, args := #[s, x], argTypes := #[27, 27] }) (v1 v2 v' : Value) (w' : World) (hs : a.eval s = v1) (hx : a.eval x = v2)
    (hr : Sem.run Tryd.prog (Builtin.append_ #[27, 27] o.type #[v1, v2]) w = .ok v' w') (h : wpList Tryd.prog ops Q rest (a.put o.dst v') w') : wpList Tryd.prog ops Q (o :: rest) a w := by
  refine wpList_plain hgd fun K hK => ?_
  unfold Oper.wp execOp
  simp only [ho, resolve, invoke, builtin, Sem.run_bind, Sem.run_pure, Result.andThen_ok, List.map_toArray, List.map_cons, List.map_nil, hs, hx, hr]
  exact hK _ _ h

/-- Three cells written over. -/
theorem set3 {w6 : World} {R : Nat} {x y z : Value} (b0 : w6.heap[R]? = some (.cells #[x, y, z] 24 (0, 0))) (a b c : Value) :
    (((w6.setCell ⟨R, 0, none⟩ a).setCell ⟨R, 1, none⟩ b).setCell ⟨R, 2, none⟩ c).heap[R]? = some (.cells #[a, b, c] 24 (0, 0)) ∧ Kept [R] w6 (((w6.setCell ⟨R, 0, none⟩ a).setCell ⟨R, 1, none⟩ b).setCell ⟨R, 2, none⟩ c) := by
  refine ⟨?_, (((Kept.refl [R] w6).setCell (p := ⟨R, 0, none⟩) (by simp) _).setCell (p := ⟨R, 1, none⟩) (by simp) _).setCell (p := ⟨R, 2, none⟩) (by simp) _⟩
  rw [heap_setCell_at (heap_setCell_at (heap_setCell_at b0))]
  simp
/-- Noughts over noughts. -/
theorem zero3 {w6 : World} {R : Nat} (b : w6.heap[R]? = some (.cells #[.int .i64 0, .int .i64 0, .slice none 0 0] 24 (0, 0))) :
    (((w6.setCell ⟨R, 0, none⟩ (.int .i64 0)).setCell ⟨R, 1, none⟩ (.int .i64 0)).setCell ⟨R, 2, none⟩ (.slice none 0 0)).heap[R]? = some (.cells #[.int .i64 0, .int .i64 0, .slice none 0 0] 24 (0, 0)) ∧ Kept [R] w6 (((w6.setCell ⟨R, 0, none⟩ (.int .i64 0)).setCell ⟨R, 1, none⟩ (.int .i64 0)).setCell ⟨R, 2, none⟩ (.slice none 0 0)) := by
  refine ⟨?_, (((Kept.refl [R] w6).setCell (p := ⟨R, 0, none⟩) (by simp) _).setCell (p := ⟨R, 1, none⟩) (by simp) _).setCell (p := ⟨R, 2, none⟩) (by simp) _⟩
  rw [heap_setCell_at (heap_setCell_at (heap_setCell_at b))]
  simp

set_option maxHeartbeats 8000000 in
set_option maxRecDepth 1000000 in
theorem sliceWhole_any (W H D d : Int) (ao : Option Addr) (n c : Nat) (f : Nat → Int) (cut : Int) (so : Option Addr) (m mc : Nat) (l : List Nat) (w : World) (hT : Tab w) (hs : In16 w ao n f) (hcut : i64b cut) (hr : Reads w so l) (hby : Byts l) (hm : l.length = m) (hl : m ≤ 140737488351232) (hnc : so = none → mc = 0) :
    Calls Tryd.prog 3 #[.agg #[.int .i64 W, .int .i64 H, .slice ao n c, .int .i64 D, .int .i64 d], .int .i64 cut, .slice so m mc] w fun e w' => e = .returned (.bool true) ∧ Kept [] w w' := by
  obtain ⟨w1, hw1, k1, b1⟩ := five_new w (.int .i64 W) (.int .i64 H) (.slice ao n c) (.int .i64 D) (.int .i64 d) 26
  obtain ⟨Q, hQ⟩ : ∃ Q, w.heap.size = Q := ⟨_, rfl⟩
  rw [hQ] at b1
  have K1 := Hid.mk k1
  have B1 := Hid.mk b1
  have HS := Hid.mk hs
  have HT := Hid.mk hT
  have HR := Hid.mk (And.intro hr (And.intro hby (And.intro hm (And.intro hl hnc))))
  have C1 := Hid.mk (alive_any w1 (hT.kept k1 (by simp)))
  clear k1 b1 hs hT hr hby hm hnc
  go_enter Tryd.func3, Tryd.ntmps3
  go_wp2_with (fail)
  refine C1.out.mono ?_
  rintro e w2 ⟨rfl, k2⟩
  have K2 := Hid.mk (K1.out.trans k2)
  have B2 := Hid.mk (k2.heap B1.out (by simp))
  obtain ⟨z0, z1, z2, z3, z4⟩ := five_cells B2.out
  have hs2 : In16 w2 ao n f := ⟨by
    rcases HS.out.1 with h | ⟨sb, so, h1, h2⟩
    · exact .inl h
    · exact .inr ⟨sb, so, h1, h2.keep K2.out (by simp)⟩, HS.out.2⟩
  have C2 := Hid.mk (may_any W H D d ao n c f w2 hs2)
  clear k2 C1 hs2
  go_wp2_with (fail)
  refine C2.out.mono ?_
  rintro e w3 ⟨bb, rfl, hbb, k3⟩
  have K3 := Hid.mk (K2.out.trans k3)
  have B3 := Hid.mk (k3.heap B2.out (by simp))
  have Hbb := Hid.mk hbb
  clear k3 C2 hbb z0 z1 z2 z3 z4
  obtain ⟨z0, z1, z2, z3, z4⟩ := five_cells B3.out
  cases bb with
  | false =>
    go_wp2
    go_ret
    exact ⟨rfl, K3.out⟩
  | true =>
    have hm := Hbb.out.1 rfl
    obtain ⟨Wn, Hn, T, hwi, hhi, BK⟩ := hm.blk HS.out.2
    have hw := BK.w
    obtain ⟨sb, so', rfl, hsm⟩ : ∃ sb so', ao = some ⟨sb, so', none⟩ ∧ Smp w sb so' n f := by
      rcases HS.out.1 with h | h
      · omega
      · exact h
    obtain ⟨x, b, ht⟩ := tell_ex (T := T) (d := d) (D := D) (cutf n f) hw.1 BK.n_ hw.2.2.2.2.1
    obtain ⟨c0, t0, hct, hkind⟩ := tell_first BK ht
    have hlen := tell_len BK ht
    have HSm := Hid.mk (hsm.congr (fun i hi => cutf_in n f i hi))
    have hn1 : n ≤ 4194304 := hw.2.2.2.2.2
    have C3 := Hid.mk (Encode_any (sc := c) w3 BK (HSm.out.keep K3.out (by simp)) (HT.out.kept K3.out (by simp)) ht)
    have CC := Hid.mk (fun (g k : Nat) (W' : World) (hk : k < nby x) (hg : W'.heap[g]? = some (.cells ((byts x).map byt).toArray 5 (0, 0))) (hK : Kept [] w W') => dec_cut W' BK ht (HT.out.kept hK (by simp)) g k (nby x) hk hg)
    have CM := Hid.mk (fun (g2 c2 : Nat) (W' : World) (h1 : 1 ≤ m) (hr : Reads W' (some ⟨g2, 0, none⟩) (byts x ++ l)) (hK : Kept [] w W') => dec_more W' BK ht (HT.out.kept hK (by simp)) (some ⟨g2, 0, none⟩) m c2 l HR.out.2.1 HR.out.2.2.1 h1 HR.out.2.2.2.1 hr)
    have CN := Hid.mk (fun (g2 c2 : Nat) (W' : World) (hr : Reads W' (some ⟨g2, 0, none⟩) (byts x)) (hK : Kept [] w W') => Decode_any (cap := c2) W' BK (HT.out.kept hK (by simp)) ht hr)
    have CR := Hid.mk (fun (g : Nat) (e : Int) (W' : World) (h0 : c0 = 0) (e0 : 0 ≤ e) (e1 : e ≤ 63) (hg : W'.heap[g]? = some (.cells ((byts x).map byt).toArray 5 (0, 0))) (hK : Kept [] w W') => dec_raw (e := e) W' BK ht (HT.out.kept hK (by simp)) g (nby x) (by rw [← h0]; exact hct) e0 e1 hg)
    obtain ⟨L, hL⟩ : ∃ L, nby x = L := ⟨_, rfl⟩
    have hll : (byts x).length = L := by rw [← hL]; exact big_length _ _
    have hL1 : 1 ≤ L := by rw [← hll, hct]; simp
    rw [hL] at C3 CC CM CN CR hlen
    have HCt := Hid.mk hct
    have Hc0 : c0 = 0 ∨ c0 = 1 := by rcases hkind with ⟨h, _⟩ | ⟨h, _⟩ <;> omega
    have HP := Hid.mk (fun W' => pick_any cut (L : Int) W' hcut.1 hcut.2 (by omega) (by omega))
    have HP2 := Hid.mk (fun W' => pick_any cut 64 W' hcut.1 hcut.2 (by omega) (by omega))
    have p1 := pk_in cut (n := (L : Int)) (by omega)
    have p2 := pk_in cut (n := 64) (by omega)
    obtain ⟨kk, hkk⟩ := Int.eq_ofNat_of_zero_le p1.1
    obtain ⟨e2, he2⟩ : ∃ e2, pk cut 64 = e2 := ⟨_, rfl⟩
    rw [hkk] at HP p1
    rw [he2] at HP2 p2
    have hkL : kk < L := by omega
    rw [← hwi, ← hhi] at C3
    have CC2 : Hid (∀ (g k : Nat) (W' : World), k < L → W'.heap[g]? = some (.cells ((byts x).map byt).toArray 5 (0, 0)) → Kept [] w W' → Calls Tryd.prog 9 #[.slice (some ⟨g, 0, none⟩) k L, .int .i64 W, .int .i64 H, .int .i64 D, .int .i64 d] W' fun e w' => e = noBlk 102 ∧ Kept [] W' w') := Hid.mk (by rw [hwi, hhi]; exact CC.out)
    have CM2 : Hid (∀ (g2 c2 : Nat) (W' : World), 1 ≤ m → Reads W' (some ⟨g2, 0, none⟩) (byts x ++ l) → Kept [] w W' → Calls Tryd.prog 9 #[.slice (some ⟨g2, 0, none⟩) (L + m) c2, .int .i64 W, .int .i64 H, .int .i64 D, .int .i64 d] W' fun e w' => e = noBlk 103 ∧ Kept [] W' w') := Hid.mk (by rw [hwi, hhi]; exact CM.out)
    have CN2 : Hid (∀ (g2 c2 : Nat) (W' : World), Reads W' (some ⟨g2, 0, none⟩) (byts x) → Kept [] w W' → Calls Tryd.prog 9 #[.slice (some ⟨g2, 0, none⟩) L c2, .int .i64 W, .int .i64 H, .int .i64 D, .int .i64 d] W' fun e w' => ∃ G, e = .returned (.tuple #[.agg #[.int .i64 W, .int .i64 H, .slice (some ⟨G, 0, none⟩) n n], .int .i64 0]) ∧ W'.heap.size ≤ G ∧ Smp w' G 0 n b ∧ Kept [] W' w') := Hid.mk (by rw [hwi, hhi]; exact CN.out)
    have CR2 : Hid (∀ (g : Nat) (W' : World), c0 = 0 → W'.heap[g]? = some (.cells ((byts x).map byt).toArray 5 (0, 0)) → Kept [] w W' → Calls Tryd.prog 9 #[.slice (some ⟨g, 0, none⟩) L L, .int .i64 W, .int .i64 H, .int .i64 D, .int .i64 e2] W' fun e w' => ∃ G, e = .returned (.tuple #[.agg #[.int .i64 W, .int .i64 H, .slice (some ⟨G, 0, none⟩) n n], .int .i64 0]) ∧ W'.heap.size ≤ G ∧ Smp w' G 0 n (cutf n f) ∧ Kept [] W' w') := Hid.mk (by rw [hwi, hhi]; intro g W' h0 hg hK; exact CR.out g e2 W' h0 p2.1 (by omega) hg hK)
    clear CC CM CN CR hwi hhi hkk he2 p2 hcut hm BK hw hsm ht hct hkind Hbb HS
    have l0 : ((L : Int) == 0) = false := by simp; omega
    go_wp2_with (fail)
    refine C3.out.mono ?_
    rintro e w4 ⟨g4, rfl, -, hb4, k4⟩
    have K4 := Hid.mk (K3.out.trans k4)
    have B4 := Hid.mk (k4.heap B3.out (by simp))
    have G4 := Hid.mk hb4
    clear hb4 k4 C3 z0 z1 z2 z3 z4
    obtain ⟨z0, z1, z2, z3, z4⟩ := five_cells B4.out
    obtain ⟨w5, hw5, k5, b5⟩ := three_new w4 (.int .i64 0) (.int .i64 0) (.slice none 0 0) 24
    obtain ⟨R, hR⟩ : ∃ R, w4.heap.size = R := ⟨_, rfl⟩
    rw [hR] at b5
    have hRQ : ¬ R = Q := ne_ty b5 (k5.heap B4.out (by simp)) (by decide)
    obtain ⟨y0, y1, y2, y3, y4⟩ := five_cells (k5.heap B4.out (by simp))
    have CA : Hid (∀ W', Kept [] w5 W' → Calls Tryd.prog 9 #[.slice (some ⟨g4, 0, none⟩) kk L, .int .i64 W, .int .i64 H, .int .i64 D, .int .i64 d] W' fun e w' => e = noBlk 102 ∧ Hid (Kept [] w4 w' ∧ w4.heap.size ≤ R ∧ w'.heap[R]? = some (.cells #[.int .i64 0, .int .i64 0, .slice none 0 0] 24 (0, 0))) ∧ (w'.cell? ⟨Q, 0, none⟩ = some (.int .i64 W) ∧ w'.cell? ⟨Q, 1, none⟩ = some (.int .i64 H) ∧ w'.cell? ⟨Q, 3, none⟩ = some (.int .i64 D) ∧ w'.cell? ⟨Q, 4, none⟩ = some (.int .i64 d)) ∧ w'.cell? ⟨R, 0, none⟩ = some (.int .i64 0) ∧ w'.cell? ⟨R, 1, none⟩ = some (.int .i64 0) ∧ w'.cell? ⟨R, 2, none⟩ = some (.slice none 0 0) ∧ w'.frozen? ⟨R, 0, none⟩ = false ∧ w'.frozen? ⟨R, 1, none⟩ = false ∧ w'.frozen? ⟨R, 2, none⟩ = false) := Hid.mk (fun W' hk' => (CC2.out g4 kk W' hkL ((k5.trans hk').heap G4.out (by simp)) (K4.out.trans (k5.trans hk'))).mono (by
      rintro e w' ⟨rfl, h⟩
      have hh := hk'.trans h
      have hb := hh.heap b5 (by simp)
      obtain ⟨c0, c1, c2, cf⟩ := cells_three hb
      obtain ⟨a0, a1, a2, a3, a4⟩ := five_cells ((k5.trans hh).heap B4.out (by simp))
      exact ⟨rfl, Hid.mk ⟨k5.trans hh, by omega, hb⟩, ⟨a0, a1, a3, a4⟩, c0, c1, c2, cf 0, cf 1, cf 2⟩))
    have CB : Hid (∀ W', Kept [] w4 W' → Calls Tryd.prog 9 #[.slice (some ⟨g4, 0, none⟩) kk L, .int .i64 W, .int .i64 H, .int .i64 D, .int .i64 d] W' fun e w0 => e = noBlk 102 ∧ ∃ w' R, w0.alloc (.cells #[.int .i64 0, .int .i64 0, .slice none 0 0] 24 (0, 0)) = w' ∧ w0.heap.size = R ∧ Hid (Kept [] w4 w' ∧ w4.heap.size ≤ R ∧ w'.heap[R]? = some (.cells #[.int .i64 0, .int .i64 0, .slice none 0 0] 24 (0, 0))) ∧ (w0.cell? ⟨Q, 0, none⟩ = some (.int .i64 W) ∧ w0.cell? ⟨Q, 1, none⟩ = some (.int .i64 H) ∧ w0.cell? ⟨Q, 3, none⟩ = some (.int .i64 D) ∧ w0.cell? ⟨Q, 4, none⟩ = some (.int .i64 d)) ∧ (w'.cell? ⟨Q, 0, none⟩ = some (.int .i64 W) ∧ w'.cell? ⟨Q, 1, none⟩ = some (.int .i64 H) ∧ w'.cell? ⟨Q, 3, none⟩ = some (.int .i64 D) ∧ w'.cell? ⟨Q, 4, none⟩ = some (.int .i64 d)) ∧ ¬ R = Q ∧ w'.cell? ⟨R, 0, none⟩ = some (.int .i64 0) ∧ w'.cell? ⟨R, 1, none⟩ = some (.int .i64 0) ∧ w'.cell? ⟨R, 2, none⟩ = some (.slice none 0 0) ∧ w'.frozen? ⟨R, 0, none⟩ = false ∧ w'.frozen? ⟨R, 1, none⟩ = false ∧ w'.frozen? ⟨R, 2, none⟩ = false) := Hid.mk (fun W' hk' => (CC2.out g4 kk W' hkL (hk'.heap G4.out (by simp)) (K4.out.trans hk')).mono (by
      rintro e w0 ⟨rfl, h⟩
      obtain ⟨w', hw', k', b'⟩ := three_new w0 (.int .i64 0) (.int .i64 0) (.slice none 0 0) 24
      have hh := hk'.trans h
      have hb := hh.heap B4.out (by simp)
      have hb2 := k'.heap hb (by simp)
      obtain ⟨c0, c1, c2, cf⟩ := cells_three b'
      obtain ⟨a0, a1, a2, a3, a4⟩ := five_cells hb
      obtain ⟨d0, d1, d2, d3, d4⟩ := five_cells hb2
      exact ⟨rfl, w', _, hw', rfl, Hid.mk ⟨hh.trans k', hh.size, b'⟩, ⟨a0, a1, a3, a4⟩, ⟨d0, d1, d3, d4⟩, ne_ty b' hb2 (by decide), c0, c1, c2, cf 0, cf 1, cf 2⟩))
    have kL : (kk : Int) ≤ L := by omega
    have k0 : (0 : Int) ≤ kk := by omega
    clear k5 b5 hQ
    go_wp2
    go_cut [11, 12] (fun s11 s12 wc => ∃ R, s11 = .pointer (some ⟨R, 0, none⟩) ∧ s12 = .int .i64 102 ∧ Hid (Kept [] w4 wc ∧ w4.heap.size ≤ R ∧ wc.heap[R]? = some (.cells #[.int .i64 0, .int .i64 0, .slice none 0 0] 24 (0, 0))))
    case first =>
      go_region_held_law (fun w' => (w'.cell? ⟨Q, 0, none⟩ = some (.int .i64 W) ∧ w'.cell? ⟨Q, 1, none⟩ = some (.int .i64 H) ∧ w'.cell? ⟨Q, 3, none⟩ = some (.int .i64 D) ∧ w'.cell? ⟨Q, 4, none⟩ = some (.int .i64 d))) (first | exact ⟨z0, z1, z3, z4⟩ | exact ⟨y0, y1, y3, y4⟩ | exact t | exact t' | go_keep) (first | (go_at_call 10; refine (HP.out _).mono ?_; rintro e w6 ⟨rfl, hw6⟩; obtain rfl := hw6.symm) | (go_at_call 9; refine (CA.out _ (by with_reducible exact (Kept.refl _ _).drew)).mono ?_; rintro e w6 ⟨rfl, R6, t, x0, x1, x2, f0, f1, f2⟩) | (go_at_call 9; refine (CB.out _ (by with_reducible exact (Kept.refl _ _).drew)).mono ?_; rintro e w5' ⟨rfl, w6, R', hw6, hR6, R6, t, t', hRQ', x0, x1, x2, f0, f1, f2⟩))
      all_goals go_wp2
      all_goals go_meet
      all_goals exact ⟨_, rfl, rfl, Hid.mk ⟨R6.out.1.step (zero3 R6.out.2.2).2 (by intro x hx; simp at hx; subst hx; exact .inr R6.out.2.1), R6.out.2.1, (zero3 R6.out.2.2).1⟩⟩
    case rest =>
      clear hw5 hR hRQ y0 y1 y2 y3 y4 CA CB z0 z1 z2 z3 z4 hkL kL k0 p1 HP CC2 R
      obtain ⟨R, rfl, rfl, hc⟩ := hcut
      have K6 := Hid.mk (K4.out.trans hc.out.1)
      have B6 := Hid.mk (hc.out.1.heap B4.out (by simp))
      have G6 := Hid.mk (hc.out.1.heap G4.out (by simp))
      obtain ⟨x0, x1, x2⟩ := agg3' hc.out.2.2
      obtain ⟨v1, u1, g2, c2, u2, r1, r2, k2, hrd⟩ := app_two wc 27 g4 L (byts x) G6.out hll hL1 hlen so m mc l (HR.out.1.keep K6.out) HR.out.2.2.1 hl HR.out.2.2.2.2
      have K7 := Hid.mk (K6.out.trans k2)
      have B7 := Hid.mk (k2.heap B6.out (by simp))
      have G7 := Hid.mk (k2.heap G6.out (by simp))
      have RD := Hid.mk hrd
      clear hc k2 hrd
      obtain ⟨z0, z1, z2, z3, z4⟩ := five_cells B7.out
      go_upto_region 12 with (at_builtin; first | refine wpList_app_eq rfl _ _ rfl _ _ _ _ rfl rfl r1 ?_ | refine wpList_app_eq rfl _ _ rfl _ _ _ _ rfl rfl r2 ?_)
      go_cut [14, 15] (fun s14 s15 wd => ∃ R E V0 V1 o nn cc, s14 = .pointer (some ⟨R, 0, none⟩) ∧ s15 = .int .i64 E ∧ Hid (Kept [] u2 wd ∧ wd.heap[R]? = some (.cells #[V0, V1, .slice o nn cc] 24 (0, 0)) ∧ (1 ≤ m → E = 103 ∧ nn = 0)))
      case first =>
        by_cases hm1 : 1 ≤ m
        · have C5 := Hid.mk (CM2.out g2 c2 u2 hm1 RD.out K7.out)
          go_wp2_with (fail)
          refine C5.out.mono ?_
          rintro e u3 ⟨rfl, k3⟩
          obtain ⟨u4, hu4, k4, b4⟩ := three_new u3 (.int .i64 0) (.int .i64 0) (.slice none 0 0) 24
          obtain ⟨R3, hR3⟩ : ∃ R3, u3.heap.size = R3 := ⟨_, rfl⟩
          rw [hR3] at b4
          obtain ⟨y0, y1, y2, yf⟩ := cells_three b4
          have f0 := yf 0
          have f1 := yf 1
          have f2 := yf 2
          have RR := Hid.mk (And.intro b4 (And.intro (k3.trans k4) (show u2.heap.size ≤ R3 by rw [← hR3]; exact k3.size)))
          clear k3 k4 b4 yf
          go_wp2
          go_meet
          exact ⟨R3, 103, _, _, _, 0, _, rfl, rfl, Hid.mk ⟨RR.out.2.1.step (zero3 RR.out.1).2 (by intro x hx; simp at hx; subst hx; exact .inr RR.out.2.2), (zero3 RR.out.1).1, fun _ => ⟨rfl, rfl⟩⟩⟩
        · have hm0 : m = 0 := by omega
          have hl0 : l = [] := List.eq_nil_of_length_eq_zero (by rw [HR.out.2.2.1]; exact hm0)
          have hrd := RD.out
          rw [hl0, List.append_nil] at hrd
          have C5 := Hid.mk (CN2.out g2 c2 u2 hrd K7.out)
          have HM := Hid.mk hm1
          clear hl0 hrd hm1
          subst hm0
          go_wp2_with (fail)
          refine C5.out.mono ?_
          rintro e u3 ⟨G, rfl, -, -, k3⟩
          obtain ⟨u4, hu4, k4, b4⟩ := three_new u3 (.int .i64 W) (.int .i64 H) (.slice (some ⟨G, 0, none⟩) n n) 24
          obtain ⟨R3, hR3⟩ : ∃ R3, u3.heap.size = R3 := ⟨_, rfl⟩
          rw [hR3] at b4
          have RR := Hid.mk (And.intro b4 (k3.trans k4))
          clear k3 k4 b4
          go_wp2
          go_meet
          exact ⟨R3, 0, _, _, _, _, _, rfl, rfl, Hid.mk ⟨RR.out.2, RR.out.1, fun h => absurd h HM.out⟩⟩
      case rest =>
        obtain ⟨R3, E, V0, V1, o, nn, cc, rfl, rfl, hd⟩ := hcut
        have K8 := Hid.mk (K7.out.trans hd.out.1)
        have B8 := Hid.mk (hd.out.1.heap B7.out (by simp))
        have G8 := Hid.mk (hd.out.1.heap G7.out (by simp))
        have HE := Hid.mk hd.out.2.2
        obtain ⟨y0, y1, y2⟩ := agg3' hd.out.2.1
        clear hd CM2 CN2 RD r1 r2 z0 z1 z2 z3 z4 x0 x1 x2
        go_upto_region 13 with (fail)
        go_cut [106] (fun s106 we => s106 = .bool false ∧ we = wc)
        case first =>
          by_cases hm1 : 1 ≤ m
          · obtain ⟨rfl, rfl⟩ := HE.out hm1
            have hmI : (0 : Int) < m := by omega
            go_wp2
            go_meet
            exact ⟨rfl, rfl⟩
          · have hm0 : m = 0 := by omega
            subst hm0
            go_wp2
            go_meet
            exact ⟨rfl, rfl⟩
        case rest =>
          obtain ⟨rfl, hwe⟩ := hcut
          subst hwe
          have hc0 : wc.cell? ⟨g4, 0, none⟩ = some (.int .u8 (c0 : Int)) := by
            have h := G8.out
            rw [HCt.out] at h
            have h' : wc.cell? ⟨g4, 0, none⟩ = some (byt c0) := by simp [World.cell?, h]
            exact h'
          have i0 : (0 : Int) < L := by omega
          clear y0 y1 y2
          rcases Hc0 with h0 | h0
          · subst h0
            replace hc0 : wc.cell? ⟨g4, 0, none⟩ = some (.int .u8 0) := hc0
            obtain ⟨z0, z1, z2, z3, z4⟩ := five_cells B8.out
            obtain ⟨w5, hw5, k5, b5⟩ := three_new wc (.int .i64 0) (.int .i64 0) (.slice none 0 0) 24
            obtain ⟨R5, hR5⟩ : ∃ R, wc.heap.size = R := ⟨_, rfl⟩
            rw [hR5] at b5
            have hRQ : ¬ R5 = Q := ne_ty b5 (k5.heap B8.out (by simp)) (by decide)
            obtain ⟨y0, y1, y2, y3, y4⟩ := five_cells (k5.heap B8.out (by simp))
            have CA : Hid (∀ W', Kept [] w5 W' → Calls Tryd.prog 9 #[.slice (some ⟨g4, 0, none⟩) L L, .int .i64 W, .int .i64 H, .int .i64 D, .int .i64 e2] W' fun e w' => ∃ G, e = (.returned (.tuple #[.agg #[.int .i64 W, .int .i64 H, .slice (some ⟨G, 0, none⟩) n n], .int .i64 0])) ∧ Hid (Kept [] wc w' ∧ wc.heap.size ≤ R5 ∧ w'.heap[R5]? = some (.cells #[.int .i64 0, .int .i64 0, .slice none 0 0] 24 (0, 0)) ∧ Smp w' G 0 n (cutf n f) ∧ w5.heap.size ≤ G) ∧ (w'.cell? ⟨Q, 0, none⟩ = some (.int .i64 W) ∧ w'.cell? ⟨Q, 1, none⟩ = some (.int .i64 H) ∧ w'.cell? ⟨Q, 3, none⟩ = some (.int .i64 D)) ∧ w'.cell? ⟨R5, 0, none⟩ = some (.int .i64 0) ∧ w'.cell? ⟨R5, 1, none⟩ = some (.int .i64 0) ∧ w'.cell? ⟨R5, 2, none⟩ = some (.slice none 0 0) ∧ w'.frozen? ⟨R5, 0, none⟩ = false ∧ w'.frozen? ⟨R5, 1, none⟩ = false ∧ w'.frozen? ⟨R5, 2, none⟩ = false) := Hid.mk (fun W' hk' => (CR2.out g4 W' rfl ((k5.trans hk').heap G8.out (by simp)) (K8.out.trans (k5.trans hk'))).mono (by
              rintro e w' ⟨G, rfl, hG, hS, h⟩
              have hh := hk'.trans h
              have hb := hh.heap b5 (by simp)
              obtain ⟨c0, c1, c2, cf⟩ := cells_three hb
              obtain ⟨a0, a1, a2, a3, a4⟩ := five_cells ((k5.trans hh).heap B8.out (by simp))
              exact ⟨G, rfl, Hid.mk ⟨k5.trans hh, by omega, hb, hS, Nat.le_trans hk'.size hG⟩, ⟨a0, a1, a3⟩, c0, c1, c2, cf 0, cf 1, cf 2⟩))
            have CB : Hid (∀ W', Kept [] wc W' → Calls Tryd.prog 9 #[.slice (some ⟨g4, 0, none⟩) L L, .int .i64 W, .int .i64 H, .int .i64 D, .int .i64 e2] W' fun e w0 => ∃ G, e = (.returned (.tuple #[.agg #[.int .i64 W, .int .i64 H, .slice (some ⟨G, 0, none⟩) n n], .int .i64 0])) ∧ ∃ w' R, w0.alloc (.cells #[.int .i64 W, .int .i64 H, .slice (some ⟨G, 0, none⟩) n n] 24 (0, 0)) = w' ∧ w0.heap.size = R ∧ Hid (Kept [] wc w' ∧ wc.heap.size ≤ R ∧ w'.heap[R]? = some (.cells #[.int .i64 W, .int .i64 H, .slice (some ⟨G, 0, none⟩) n n] 24 (0, 0)) ∧ Smp w' G 0 n (cutf n f)) ∧ (w0.cell? ⟨Q, 0, none⟩ = some (.int .i64 W) ∧ w0.cell? ⟨Q, 1, none⟩ = some (.int .i64 H) ∧ w0.cell? ⟨Q, 3, none⟩ = some (.int .i64 D)) ∧ (w'.cell? ⟨Q, 0, none⟩ = some (.int .i64 W) ∧ w'.cell? ⟨Q, 1, none⟩ = some (.int .i64 H) ∧ w'.cell? ⟨Q, 3, none⟩ = some (.int .i64 D))) := Hid.mk (fun W' hk' => (CR2.out g4 W' rfl (hk'.heap G8.out (by simp)) (K8.out.trans hk')).mono (by
              rintro e w0 ⟨G, rfl, hG, hS, h⟩
              obtain ⟨w', hw', k', b'⟩ := three_new w0 (.int .i64 W) (.int .i64 H) (.slice (some ⟨G, 0, none⟩) n n) 24
              have hh := hk'.trans h
              have hb := hh.heap B8.out (by simp)
              have hb2 := k'.heap hb (by simp)
              obtain ⟨a0, a1, a2, a3, a4⟩ := five_cells hb
              obtain ⟨d0, d1, d2, d3, d4⟩ := five_cells hb2
              exact ⟨G, rfl, w', _, hw', rfl, Hid.mk ⟨hh.trans k', hh.size, b', hS.keep k' (by simp)⟩, ⟨a0, a1, a3⟩, ⟨d0, d1, d3⟩⟩))
            have hR5l := lt_of_block b5
            clear k5 b5
            go_upto_region 17 with (fail)
            go_cut [16, 17] (fun s16 s17 wf => ∃ R G, s16 = .pointer (some ⟨R, 0, none⟩) ∧ s17 = .int .i64 0 ∧ Hid (Kept [] wc wf ∧ wf.heap[R]? = some (.cells #[.int .i64 W, .int .i64 H, .slice (some ⟨G, 0, none⟩) n n] 24 (0, 0)) ∧ Smp wf G 0 n (cutf n f)))
            case first =>
              go_region_held_law (fun w' => (w'.cell? ⟨Q, 0, none⟩ = some (.int .i64 W) ∧ w'.cell? ⟨Q, 1, none⟩ = some (.int .i64 H) ∧ w'.cell? ⟨Q, 3, none⟩ = some (.int .i64 D))) (first | exact ⟨z0, z1, z3⟩ | exact ⟨y0, y1, y3⟩ | exact t | exact t' | go_keep) (first | (go_at_call 10; refine (HP2.out _).mono ?_; rintro e w6 ⟨rfl, hw6⟩; obtain rfl := hw6.symm) | (go_at_call 9; refine (CA.out _ (by with_reducible exact (Kept.refl _ _).drew)).mono ?_; rintro e w6 ⟨G, rfl, R6, t, x0, x1, x2, f0, f1, f2⟩) | (go_at_call 9; refine (CB.out _ (by with_reducible exact (Kept.refl _ _).drew)).mono ?_; rintro e w5' ⟨G, rfl, w6, R', hw6, hR6, R6, t, t'⟩))
              all_goals go_wp2
              all_goals go_meet
              all_goals first
                | exact ⟨_, _, rfl, rfl, Hid.mk ⟨R6.out.1, R6.out.2.2.1, R6.out.2.2.2⟩⟩
                | exact ⟨_, _, rfl, rfl, Hid.mk ⟨R6.out.1.step (set3 R6.out.2.2.1 _ _ _).2 (by intro x hx; simp at hx; subst hx; exact .inr R6.out.2.1), (set3 R6.out.2.2.1 _ _ _).1, R6.out.2.2.2.1.keep (set3 R6.out.2.2.1 _ _ _).2 (by have := R6.out.2.2.2.2; simp; omega)⟩⟩
            case rest =>
              obtain ⟨R6, G, rfl, rfl, hf'⟩ := hcut
              have K9 := Hid.mk (K8.out.trans hf'.out.1)
              have B9 := Hid.mk (hf'.out.1.heap B8.out (by simp))
              clear z0 z1 z2 z3 z4 y0 y1 y2 y3 y4 CA CB hw5 hR5 hRQ hc0
              obtain ⟨z0, z1, z2, z3, z4⟩ := five_cells B9.out
              obtain ⟨y0, y1, y2⟩ := agg3' hf'.out.2.1
              have C11 := Hid.mk (sameB_yes W H G 0 n sb so' c n (cutf n f) wc hf'.out.2.2 (HSm.out.keep K9.out (by simp)) hn1)
              clear hf'
              go_wp2_with (fail)
              refine C11.out.mono ?_
              rintro e w9 ⟨rfl, k9⟩
              have K10 := Hid.mk (K9.out.trans k9)
              clear k9 C11
              go_wp2
              go_ret
              exact ⟨rfl, K10.out⟩
          · subst h0
            replace hc0 : wc.cell? ⟨g4, 0, none⟩ = some (.int .u8 1) := hc0
            go_wp2
            go_ret
            exact ⟨rfl, K8.out⟩
end Go.Proofs.YtahoeodpjdbdkabDoor
