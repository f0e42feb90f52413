import Derived.Test.YtahoeodpjdbdkabDoorFz
namespace Go.Proofs.YtahoeodpjdbdkabDoor
open Go.RowKit

theorem cells_five {w : World} {Q t : Nat} {a b c d e : Value} (h : w.heap[Q]? = some (.cells #[a, b, c, d, e] t (0, 0))) : (w.cell? ⟨Q, 0, none⟩ = some a ∧ w.cell? ⟨Q, 1, none⟩ = some b ∧ w.cell? ⟨Q, 2, none⟩ = some c ∧ w.cell? ⟨Q, 3, none⟩ = some d ∧ w.cell? ⟨Q, 4, none⟩ = some e) ∧ ∀ i, w.frozen? ⟨Q, i, none⟩ = false := by
  refine ⟨⟨?_, ?_, ?_, ?_, ?_⟩, ?_⟩ <;> simp [World.cell?, World.frozen?, h]
theorem far5 {w : World} {R S Q : Nat} {a0 a1 a2 a3 a4 x0 x1 x2 x3 : Value} (h1 : ¬ R = S) (h2 : ¬ R = Q) (s0 : w.cell? ⟨S, 0, none⟩ = some x0) (s1 : w.cell? ⟨S, 1, none⟩ = some x1) (s2 : w.cell? ⟨S, 2, none⟩ = some x2) (q4 : w.cell? ⟨Q, 4, none⟩ = some x3) :
    ((((((w.setCell ⟨R, 0, none⟩ a0).setCell ⟨R, 1, none⟩ a1).setCell ⟨R, 2, none⟩ a2).setCell ⟨R, 3, none⟩ a3).setCell ⟨R, 4, none⟩ a4).cell? ⟨S, 0, none⟩ = some x0 ∧ (((((w.setCell ⟨R, 0, none⟩ a0).setCell ⟨R, 1, none⟩ a1).setCell ⟨R, 2, none⟩ a2).setCell ⟨R, 3, none⟩ a3).setCell ⟨R, 4, none⟩ a4).cell? ⟨S, 1, none⟩ = some x1 ∧ (((((w.setCell ⟨R, 0, none⟩ a0).setCell ⟨R, 1, none⟩ a1).setCell ⟨R, 2, none⟩ a2).setCell ⟨R, 3, none⟩ a3).setCell ⟨R, 4, none⟩ a4).cell? ⟨S, 2, none⟩ = some x2) ∧ (((((w.setCell ⟨R, 0, none⟩ a0).setCell ⟨R, 1, none⟩ a1).setCell ⟨R, 2, none⟩ a2).setCell ⟨R, 3, none⟩ a3).setCell ⟨R, 4, none⟩ a4).cell? ⟨Q, 4, none⟩ = some x3 := by
  refine ⟨⟨?_, ?_, ?_⟩, ?_⟩ <;> (repeat rw [World.cell?_setCell_far _ _ _ _ (by simpa using h1)]) <;> (repeat rw [World.cell?_setCell_far _ _ _ _ (by simpa using h2)]) <;> assumption

set_option maxHeartbeats 8000000 in
set_option maxRecDepth 1000000 in
theorem block10 (a b v c dd : Int) (w : World) (ha : i64b a) (hb : i64b b) (hv : i64b v) (hc : i64b c) (hd : i64b dd) (hD : 10 + 2 * pk c 2 = 10) :
    Calls Tryd.prog 12 #[.agg #[.int .i64 a, .int .i64 b, .int .i64 v, .int .i64 c, .int .i64 dd]] w fun e w' => ∃ (W H n G : Nat) (D T d V : Int), e = .returned (.agg #[.int .i64 (W : Int), .int .i64 (H : Int), .slice (some ⟨G, 0, none⟩) n n, .int .i64 D, .int .i64 d]) ∧ Smp w' G 0 n (fun _ => V) ∧ Blk W H n D T d (fun _ => V) ∧ Kept [] w w' := by
  obtain ⟨W, H, n, eW, eH, hn, hsz, hcst, W1, W2, H1, H2, n1, n2, q1, q2⟩ := flat_sides a b
  have pW := pk_in a (n := 4096) (by omega)
  have pD := pk_in c (n := 2) (by omega)
  have pd := pk_in dd (n := 64) (by omega)
  have pV := pk_in v (n := 1024) (by omega)
  obtain ⟨m, hm⟩ : ∃ m, min 4096 (4194304 / (W : Int)) = m := ⟨_, rfl⟩
  have m1 : 1 ≤ m ∧ m ≤ 4096 := by omega
  rw [hm] at eH
  have pH := pk_in b (n := m) m1.1
  have C1 := Hid.mk (fun W' => pick_any a 4096 W' ha.1 ha.2 (by omega) (by omega))
  have C2 := Hid.mk (fun W' => pick_any b m W' hb.1 hb.2 (by omega) (by omega))
  have C3 := Hid.mk (fun W' => pick_any c 2 W' hc.1 hc.2 (by omega) (by omega))
  have C4 := Hid.mk (fun W' => pick_any v 1024 W' hv.1 hv.2 (by omega) (by omega))
  have C5 := Hid.mk (fun W' => pick_any dd 64 W' hd.1 hd.2 (by omega) (by omega))
  obtain ⟨pa, ea⟩ : ∃ p, pk a 4096 = p := ⟨_, rfl⟩
  obtain ⟨pb, eb⟩ : ∃ p, pk b m = p := ⟨_, rfl⟩
  obtain ⟨pc, ec⟩ : ∃ p, pk c 2 = p := ⟨_, rfl⟩
  obtain ⟨V, eV⟩ : ∃ p, pk v 1024 = p := ⟨_, rfl⟩
  obtain ⟨d, ed⟩ : ∃ p, pk dd 64 = p := ⟨_, rfl⟩
  rw [ea] at C1 eW pW
  rw [eb] at C2 eH pH
  rw [ec] at C3 hD pD
  rw [eV] at C4 pV
  rw [ed] at C5 pd
  obtain rfl : pc = 0 := by omega
  have HB : Hid (Blk W H n 10 1023 d (fun _ => V)) := Hid.mk ⟨hsz, hn, .inl ⟨rfl, rfl⟩, pd.1, by omega, fun _ => ⟨pV.1, by omega⟩⟩
  have x1 : (4194304 : Int).tdiv (W : Int) = 4194304 / (W : Int) := Int.tdiv_eq_ediv_of_nonneg (by omega)
  obtain ⟨q, hq⟩ : ∃ q, 4194304 / (W : Int) = q := ⟨_, rfl⟩
  rw [hq] at x1 hm q1 q2
  have bq : -9223372036854775808 ≤ q ∧ q ≤ 9223372036854775807 := by omega
  have bW : -9223372036854775808 ≤ (W : Int) ∧ (W : Int) ≤ 9223372036854775807 := by omega
  have bH : -9223372036854775808 ≤ (H : Int) ∧ (H : Int) ≤ 9223372036854775807 := by omega
  have bn : -9223372036854775808 ≤ (n : Int) ∧ (n : Int) ≤ 9223372036854775807 := by omega
  have hWz : ¬ (W : Int) = 0 := by omega
  have n3 : n ≤ 1000000000 := by omega
  have V1 : V ≤ 65535 := by omega
  have x2 : IntKind.i64.wrap q = q := wrap_i bq.1 bq.2
  have x2' : wrap64 q = q := w64_in bq.1 bq.2
  have x3 : IntKind.i64.wrap (W : Int) = (W : Int) := wrap_i bW.1 bW.2
  have x3' : wrap64 (W : Int) = (W : Int) := w64_in bW.1 bW.2
  have x4 : IntKind.i64.wrap (H : Int) = (H : Int) := wrap_i bH.1 bH.2
  have x4' : wrap64 (H : Int) = (H : Int) := w64_in bH.1 bH.2
  have x7 : IntKind.i64.wrap ((W : Int) * (H : Int)) = (n : Int) := by rw [hcst]; exact wrap_i bn.1 bn.2
  have x7' : wrap64 ((W : Int) * (H : Int)) = (n : Int) := by rw [hcst]; exact w64_in bn.1 bn.2
  have x8 : IntKind.u16.wrap V = V := u16_in pV.1 V1
  obtain ⟨mkW, hmk, hmw⟩ := make_smp n (n : Int) rfl n3
  have HMW := Hid.mk hmw
  obtain ⟨w1, hw1, k1, b1⟩ := five_new w (.int .i64 a) (.int .i64 b) (.int .i64 v) (.int .i64 c) (.int .i64 dd) 42
  obtain ⟨w2, hw2, k2, b2⟩ := five_new w1 (.int .i64 0) (.int .i64 0) (.slice none 0 0) (.int .i64 0) (.int .i64 0) 26
  obtain ⟨Q, hQ⟩ : ∃ Q, w.heap.size = Q := ⟨_, rfl⟩
  obtain ⟨R, hR⟩ : ∃ R, w1.heap.size = R := ⟨_, rfl⟩
  rw [hQ] at b1
  rw [hR] at b2
  have hRl : w.heap.size ≤ R := by rw [← hR]; exact k1.size
  have B1 := Hid.mk (k2.heap b1 (by simp))
  have B2 := Hid.mk b2
  have K2 := Hid.mk (k1.trans k2)
  obtain ⟨z0, z1, z2, z3, z4⟩ := five_cells B1.out
  clear bq bW bH bn b1 b2 k1 k2 hmw ha hb hv hc hd ea eb ec eV ed hsz hn hD pD hcst hq q1 q2 m1 pW pH pd pV V1 n3 W1 W2 H1 H2
  obtain ⟨wi, hwi⟩ : ∃ x : Int, (W : Int) = x := ⟨_, rfl⟩
  obtain ⟨hi, hhi⟩ : ∃ x : Int, (H : Int) = x := ⟨_, rfl⟩
  have HWI := Hid.mk hwi
  have HHI := Hid.mk hhi
  rw [hwi] at eW x1 x3 x3' x7 x7' hWz
  rw [hhi] at eH x4 x4' x7 x7'
  clear hwi hhi
  go_enter Tryd.func12, Tryd.ntmps12
  go_wp2_with (go_at_call 10; refine (C1.out _).mono ?_; rintro e w3 ⟨rfl, hw3⟩; obtain rfl := hw3.symm)
  go_region_held (fun w' => w'.cell? ⟨Q, 1, none⟩ = some (.int .i64 b)) (first | exact z1 | go_keep) (first | (go_at_call 10; refine (C2.out _).mono ?_; rintro e w3 ⟨rfl, hw3⟩; obtain rfl := hw3.symm))
  all_goals
    go_wp2_with (go_at_call 10; refine (C3.out _).mono ?_; rintro e w3 ⟨rfl, hw3⟩; obtain rfl := hw3.symm)
    go_region_held (fun w' => w'.cell? ⟨Q, 2, none⟩ = some (.int .i64 v)) (first | exact z2 | go_keep) (first | (go_at_call 10; refine (C4.out _).mono ?_; rintro e w3 ⟨rfl, hw3⟩; obtain rfl := hw3.symm))
    all_goals
      go_wp2
      obtain ⟨G, hGe⟩ : ∃ G, w2.heap.size = G := ⟨_, rfl⟩
      obtain ⟨g1, g2⟩ := HMW.out w2.drew.drew
      have e0 : w2.drew.drew.heap.size = G := hGe
      rw [e0] at g1
      obtain ⟨w3, hw3⟩ : ∃ w3, mkW w2.drew.drew = w3 := ⟨_, rfl⟩
      rw [hw3] at g1 g2
      rw [hGe, hw3]
      obtain ⟨w4, hw4, k4, b4⟩ := three_new w3 (.int .i64 wi) (.int .i64 hi) (.slice (some ⟨G, 0, none⟩) n n) 24
      obtain ⟨S, hS⟩ : ∃ S, w3.heap.size = S := ⟨_, rfl⟩
      rw [hw4, hS]
      rw [hS] at b4
      have k24 : Kept [] w2 w4 := (((Kept.refl [] w2).drew.drew).trans g2).trans k4
      have hGl : w.heap.size ≤ G := by rw [← hGe]; exact K2.out.size
      have KK := Hid.mk (K2.out.trans k24)
      have BQ := k24.heap B1.out (by simp)
      have BR := k24.heap B2.out (by simp)
      have BG := k4.heap g1 (by simp)
      have nSG : ¬ S = G := ne_ty b4 BG (by decide)
      have nQG : ¬ Q = G := ne_ty BQ BG (by decide)
      have nRG : ¬ R = G := ne_ty BR BG (by decide)
      have nRS : ¬ R = S := ne_ty BR b4 (by decide)
      have nRQ : ¬ R = Q := ne_ty BR BQ (by decide)
      have HBS := Hid.mk (And.intro b4 (And.intro BQ (And.intro BR BG)))
      clear C1 C2 C3 C4 hmk HMW g1 g2 e0 k4 b4 k24 BQ BR BG B1 B2 K2 hw1 hw2 hw3 hw4 hQ hR hS hGe z0 z1 z2 z3 z4 x1 x2 x2' x3 x3' x4 x4' x7 x7' hm eW eH hWz
      go_loopw [8] (fun i wr => ∃ (k : Nat) (cs : List Value), k ≤ n ∧ i = .int .i64 (k : Int) ∧ wr.heap[G]? = some (.cells cs.toArray 39 (0, 0)) ∧ cs.length = n ∧ (∀ j, j < k → cs[j]? = some (.int .u16 V)) ∧ Kept [G] w4 wr) (fun i _ => n - (intOf i).toNat)
      case atStart => exact ⟨0, List.replicate n (.int .u16 0), by omega, rfl, HBS.out.2.2.2, by simp, fun j hj => by omega, Kept.refl _ _⟩
      case round =>
        obtain ⟨k, cs, hk, rfl, hrow, hlen, hall, hkw⟩ := hrel
        obtain ⟨s0, s1, s2⟩ := agg3' (hkw.heap HBS.out.1 (by simp; exact nSG))
        have HX := Hid.mk (And.intro hrow (And.intro hlen (And.intro hall hkw)))
        by_cases hlt : k < n
        · obtain ⟨u, hu⟩ := row_cell_at hrow (show k < cs.length by omega)
          have hf : wr.frozen? ⟨G, k, none⟩ = false := by simp [World.frozen?, hrow]
          have ix : (k : Int) < n := by omega
          clear hrow hlen hall hkw
          go_wp2
          go_roundw
          case rel =>
            obtain ⟨hrow, hlen, hall, hkw⟩ := HX.out
            refine ⟨k + 1, cs.set k (.int .u16 V), by omega, by go_num, ?_, by simpa using hlen, fun j hj => ?_, hkw.setCell (p := ⟨G, k, none⟩) (by simp) _⟩
            · rw [heap_setCell_at hrow]; simp
            · rw [List.getElem?_set]
              by_cases e : k = j
              · subst e; rw [if_pos rfl, if_pos (by omega)]
              · rw [if_neg e]; exact hall j (by omega)
          case measure => simp [intOf]; omega
        · obtain rfl : n = k := by omega
          have ix : ¬ (n : Int) < (n : Int) := by omega
          have q4 := (five_cells (hkw.heap HBS.out.2.1 (by simp; exact nQG))).2.2.2.2
          obtain ⟨⟨r0, r1, r2, r3, r4⟩, rf⟩ := cells_five (hkw.heap HBS.out.2.2.1 (by simp; exact nRG))
          have f0 := rf 0
          have f1 := rf 1
          have f2 := rf 2
          have f3 := rf 3
          have f4 := rf 4
          clear hrow hlen hall hkw rf
          go_wp2
          have HR : Hid (wr.heap[R]? = some (.cells #[.int .i64 0, .int .i64 0, .slice none 0 0, .int .i64 0, .int .i64 0] 26 (0, 0))) := Hid.mk (HX.out.2.2.2.heap HBS.out.2.2.1 (by simp; exact nRG))
          clear r0 r1 r2 r3 r4 f0 f1 f2 f3 f4
          refine wp_region_held_drew (S := fun w' => (w'.cell? ⟨S, 0, none⟩ = some (.int .i64 wi) ∧ w'.cell? ⟨S, 1, none⟩ = some (.int .i64 hi) ∧ w'.cell? ⟨S, 2, none⟩ = some (.slice (some ⟨G, 0, none⟩) n n)) ∧ w'.cell? ⟨Q, 4, none⟩ = some (.int .i64 dd)) (by kernel_rfl) ⟨⟨s0, s1, s2⟩, q4⟩ (fun hHeld => ?_)
          refine wpAnyH_take (i := 0) (oi := _) (v := ?_) rfl (by kernel_rfl) (by kernel_rfl) (by kernel_rfl) (fun _ _ _ h => h) (Or.inl ⟨by rfl, ?y0⟩) (by assumption) ?r0
          case y0 => (intro w hSw; (try dsimp only at hSw); go_simp; try with_reducible rfl)
          refine wpAnyH_take (i := 1) (oi := _) (v := ?_) rfl (by kernel_rfl) (by kernel_rfl) (by kernel_rfl) (fun _ _ _ h => h) (Or.inl ⟨by rfl, ?y1⟩) (by assumption) ?r1
          case y1 => (intro w hSw; (try dsimp only at hSw); go_simp; try with_reducible rfl)
          refine wpAnyH_take (i := 2) (oi := _) (v := ?_) rfl (by kernel_rfl) (by kernel_rfl) (by kernel_rfl) (fun _ _ _ h => h) (Or.inl ⟨by rfl, ?y2⟩) (by assumption) ?r2
          case y2 => (intro w hSw; (try dsimp only at hSw); go_simp; try with_reducible rfl)
          refine wpAnyH_take (i := 3) (oi := _) (v := ?_) rfl (by kernel_rfl) (by kernel_rfl) (by kernel_rfl) (fun _ _ _ h => h) (Or.inl ⟨by rfl, ?y3⟩) (by assumption) ?r3
          case y3 => (intro w hSw; (try dsimp only at hSw); go_simp; try with_reducible rfl)
          refine wpAnyH_ready (rs := [4]) (by kernel_rfl) (by simp) ?_
          refine AllReadyH.cons rfl (fun K hK => ?_) AllReadyH.nil
          go_simp
          go_at_call 10
          refine (C5.out _).mono ?_
          rintro e w5 ⟨rfl, hw5⟩
          obtain rfl := hw5.symm
          refine hK.out _ _ ⟨⟨s0, s1, s2⟩, q4⟩ (fun hHeld => ?_)
          clear hK K
          refine wpAnyH_take (i := 5) (oi := _) (v := ?_) rfl (by kernel_rfl) (by kernel_rfl) (by kernel_rfl) (fun _ _ _ h => h) (Or.inl ⟨by rfl, ?y5⟩) (by assumption) ?r5
          case y5 => (intro w hSw; (try dsimp only at hSw); go_simp; try with_reducible rfl)
          refine wpAnyH_ready (rs := [6]) (by kernel_rfl) (by simp) ?_
          refine AllReadyH.cons rfl (fun K hK => ?_) AllReadyH.nil
          rw [if_pos (by rfl)]
          refine wp_store_mid 26 (.tmp 2) (.tmp 55) rfl R 0 #[.int .i64 wi, .int .i64 hi, .slice (some ⟨G, 0, none⟩) n n, .int .i64 10, .int .i64 d] rfl rfl ?_ (by kernel_rfl) (by simp [Value.oneCell']) ?_
          · intro j hj
            have hj5 : j < 5 := hj
            obtain ⟨⟨r0, r1, r2, r3, r4⟩, rf⟩ := cells_five HR.out
            refine ⟨?_, rf _⟩
            show (wr.cell? ⟨R, 0 + j, none⟩).isSome = true
            rw [Nat.zero_add]
            rcases (show j = 0 ∨ j = 1 ∨ j = 2 ∨ j = 3 ∨ j = 4 by omega) with rfl | rfl | rfl | rfl | rfl
            · rw [r0]; rfl
            · rw [r1]; rfl
            · rw [r2]; rfl
            · rw [r3]; rfl
            · rw [r4]; rfl
          refine hK.out _ _ (far5 (w := wr.drew) nRS nRQ s0 s1 s2 q4) (fun hHeld => ?_)
          clear hK K
          obtain ⟨w6, hw6⟩ : ∃ w6, wr.drew.setCells R 0 (#[.int .i64 wi, .int .i64 hi, .slice (some ⟨G, 0, none⟩) n n, .int .i64 10, .int .i64 d] : Array Value).toList = w6 := ⟨_, rfl⟩
          have k6 : Kept [R] wr w6 := by
            rw [← hw6]
            exact ((((((Kept.refl [R] wr).drew).setCell (p := ⟨R, 0, none⟩) (by simp) _).setCell (p := ⟨R, 1, none⟩) (by simp) _).setCell (p := ⟨R, 2, none⟩) (by simp) _).setCell (p := ⟨R, 3, none⟩) (by simp) _).setCell (p := ⟨R, 4, none⟩) (by simp) _
          have b6 : w6.heap[R]? = some (.cells #[.int .i64 wi, .int .i64 hi, .slice (some ⟨G, 0, none⟩) n n, .int .i64 10, .int .i64 d] 26 (0, 0)) := by
            rw [← hw6]
            show (((((wr.drew.setCell ⟨R, 0, none⟩ _).setCell ⟨R, 1, none⟩ _).setCell ⟨R, 2, none⟩ _).setCell ⟨R, 3, none⟩ _).setCell ⟨R, 4, none⟩ _).heap[R]? = _
            rw [heap_setCell_at (heap_setCell_at (heap_setCell_at (heap_setCell_at (heap_setCell_at (show wr.drew.heap[R]? = _ from HR.out)))))]
            simp
          rw [hw6]
          refine wpAnyH_done (by kernel_rfl) ?_ _
          obtain ⟨c0, c1, c2, c3, c4⟩ := five_cells b6
          have K6 := Hid.mk k6
          clear k6 b6 hw6 s0 s1 s2 q4 hHeld
          go_wp2
          obtain ⟨hrow, hlen, hall, hkw⟩ := HX.out
          have hrow6 := K6.out.heap hrow (by simp; omega)
          have hsm : Smp w6 G 0 n (fun _ => V) := fun i hi => by
            rw [Nat.zero_add, cell_of_row _ _ _ _ _ _ hrow6]
            simpa using hall i hi
          have hRl2 := hRl
          refine bodyPost_ret (v := .agg #[.int .i64 wi, .int .i64 hi, .slice (some ⟨G, 0, none⟩) n n, .int .i64 10, .int .i64 d]) (by simp [results, Tryd.results12, go_sem, c0, c1, c2, c3, c4]) rfl ⟨W, H, n, G, 10, 1023, d, by rw [HWI.out, HHI.out], V, hsm, HB.out, (KK.out.step hkw (by simp; omega)).step K6.out (by simp; omega)⟩

set_option maxHeartbeats 8000000 in
set_option maxRecDepth 1000000 in
theorem block12 (a b v c dd : Int) (w : World) (ha : i64b a) (hb : i64b b) (hv : i64b v) (hc : i64b c) (hd : i64b dd) (hD : 10 + 2 * pk c 2 = 12) :
    Calls Tryd.prog 12 #[.agg #[.int .i64 a, .int .i64 b, .int .i64 v, .int .i64 c, .int .i64 dd]] w fun e w' => ∃ (W H n G : Nat) (D T d V : Int), e = .returned (.agg #[.int .i64 (W : Int), .int .i64 (H : Int), .slice (some ⟨G, 0, none⟩) n n, .int .i64 D, .int .i64 d]) ∧ Smp w' G 0 n (fun _ => V) ∧ Blk W H n D T d (fun _ => V) ∧ Kept [] w w' := by
  obtain ⟨W, H, n, eW, eH, hn, hsz, hcst, W1, W2, H1, H2, n1, n2, q1, q2⟩ := flat_sides a b
  have pW := pk_in a (n := 4096) (by omega)
  have pD := pk_in c (n := 2) (by omega)
  have pd := pk_in dd (n := 64) (by omega)
  have pV := pk_in v (n := 4096) (by omega)
  obtain ⟨m, hm⟩ : ∃ m, min 4096 (4194304 / (W : Int)) = m := ⟨_, rfl⟩
  have m1 : 1 ≤ m ∧ m ≤ 4096 := by omega
  rw [hm] at eH
  have pH := pk_in b (n := m) m1.1
  have C1 := Hid.mk (fun W' => pick_any a 4096 W' ha.1 ha.2 (by omega) (by omega))
  have C2 := Hid.mk (fun W' => pick_any b m W' hb.1 hb.2 (by omega) (by omega))
  have C3 := Hid.mk (fun W' => pick_any c 2 W' hc.1 hc.2 (by omega) (by omega))
  have C4 := Hid.mk (fun W' => pick_any v 4096 W' hv.1 hv.2 (by omega) (by omega))
  have C5 := Hid.mk (fun W' => pick_any dd 64 W' hd.1 hd.2 (by omega) (by omega))
  obtain ⟨pa, ea⟩ : ∃ p, pk a 4096 = p := ⟨_, rfl⟩
  obtain ⟨pb, eb⟩ : ∃ p, pk b m = p := ⟨_, rfl⟩
  obtain ⟨pc, ec⟩ : ∃ p, pk c 2 = p := ⟨_, rfl⟩
  obtain ⟨V, eV⟩ : ∃ p, pk v 4096 = p := ⟨_, rfl⟩
  obtain ⟨d, ed⟩ : ∃ p, pk dd 64 = p := ⟨_, rfl⟩
  rw [ea] at C1 eW pW
  rw [eb] at C2 eH pH
  rw [ec] at C3 hD pD
  rw [eV] at C4 pV
  rw [ed] at C5 pd
  obtain rfl : pc = 1 := by omega
  have HB : Hid (Blk W H n 12 4095 d (fun _ => V)) := Hid.mk ⟨hsz, hn, .inr ⟨rfl, rfl⟩, pd.1, by omega, fun _ => ⟨pV.1, by omega⟩⟩
  have x1 : (4194304 : Int).tdiv (W : Int) = 4194304 / (W : Int) := Int.tdiv_eq_ediv_of_nonneg (by omega)
  obtain ⟨q, hq⟩ : ∃ q, 4194304 / (W : Int) = q := ⟨_, rfl⟩
  rw [hq] at x1 hm q1 q2
  have bq : -9223372036854775808 ≤ q ∧ q ≤ 9223372036854775807 := by omega
  have bW : -9223372036854775808 ≤ (W : Int) ∧ (W : Int) ≤ 9223372036854775807 := by omega
  have bH : -9223372036854775808 ≤ (H : Int) ∧ (H : Int) ≤ 9223372036854775807 := by omega
  have bn : -9223372036854775808 ≤ (n : Int) ∧ (n : Int) ≤ 9223372036854775807 := by omega
  have hWz : ¬ (W : Int) = 0 := by omega
  have n3 : n ≤ 1000000000 := by omega
  have V1 : V ≤ 65535 := by omega
  have x2 : IntKind.i64.wrap q = q := wrap_i bq.1 bq.2
  have x2' : wrap64 q = q := w64_in bq.1 bq.2
  have x3 : IntKind.i64.wrap (W : Int) = (W : Int) := wrap_i bW.1 bW.2
  have x3' : wrap64 (W : Int) = (W : Int) := w64_in bW.1 bW.2
  have x4 : IntKind.i64.wrap (H : Int) = (H : Int) := wrap_i bH.1 bH.2
  have x4' : wrap64 (H : Int) = (H : Int) := w64_in bH.1 bH.2
  have x7 : IntKind.i64.wrap ((W : Int) * (H : Int)) = (n : Int) := by rw [hcst]; exact wrap_i bn.1 bn.2
  have x7' : wrap64 ((W : Int) * (H : Int)) = (n : Int) := by rw [hcst]; exact w64_in bn.1 bn.2
  have x8 : IntKind.u16.wrap V = V := u16_in pV.1 V1
  obtain ⟨mkW, hmk, hmw⟩ := make_smp n (n : Int) rfl n3
  have HMW := Hid.mk hmw
  obtain ⟨w1, hw1, k1, b1⟩ := five_new w (.int .i64 a) (.int .i64 b) (.int .i64 v) (.int .i64 c) (.int .i64 dd) 42
  obtain ⟨w2, hw2, k2, b2⟩ := five_new w1 (.int .i64 0) (.int .i64 0) (.slice none 0 0) (.int .i64 0) (.int .i64 0) 26
  obtain ⟨Q, hQ⟩ : ∃ Q, w.heap.size = Q := ⟨_, rfl⟩
  obtain ⟨R, hR⟩ : ∃ R, w1.heap.size = R := ⟨_, rfl⟩
  rw [hQ] at b1
  rw [hR] at b2
  have hRl : w.heap.size ≤ R := by rw [← hR]; exact k1.size
  have B1 := Hid.mk (k2.heap b1 (by simp))
  have B2 := Hid.mk b2
  have K2 := Hid.mk (k1.trans k2)
  obtain ⟨z0, z1, z2, z3, z4⟩ := five_cells B1.out
  clear bq bW bH bn b1 b2 k1 k2 hmw ha hb hv hc hd ea eb ec eV ed hsz hn hD pD hcst hq q1 q2 m1 pW pH pd pV V1 n3 W1 W2 H1 H2
  obtain ⟨wi, hwi⟩ : ∃ x : Int, (W : Int) = x := ⟨_, rfl⟩
  obtain ⟨hi, hhi⟩ : ∃ x : Int, (H : Int) = x := ⟨_, rfl⟩
  have HWI := Hid.mk hwi
  have HHI := Hid.mk hhi
  rw [hwi] at eW x1 x3 x3' x7 x7' hWz
  rw [hhi] at eH x4 x4' x7 x7'
  clear hwi hhi
  go_enter Tryd.func12, Tryd.ntmps12
  go_wp2_with (go_at_call 10; refine (C1.out _).mono ?_; rintro e w3 ⟨rfl, hw3⟩; obtain rfl := hw3.symm)
  go_region_held (fun w' => w'.cell? ⟨Q, 1, none⟩ = some (.int .i64 b)) (first | exact z1 | go_keep) (first | (go_at_call 10; refine (C2.out _).mono ?_; rintro e w3 ⟨rfl, hw3⟩; obtain rfl := hw3.symm))
  all_goals
    go_wp2_with (go_at_call 10; refine (C3.out _).mono ?_; rintro e w3 ⟨rfl, hw3⟩; obtain rfl := hw3.symm)
    go_region_held (fun w' => w'.cell? ⟨Q, 2, none⟩ = some (.int .i64 v)) (first | exact z2 | go_keep) (first | (go_at_call 10; refine (C4.out _).mono ?_; rintro e w3 ⟨rfl, hw3⟩; obtain rfl := hw3.symm))
    all_goals
      go_wp2
      obtain ⟨G, hGe⟩ : ∃ G, w2.heap.size = G := ⟨_, rfl⟩
      obtain ⟨g1, g2⟩ := HMW.out w2.drew.drew
      have e0 : w2.drew.drew.heap.size = G := hGe
      rw [e0] at g1
      obtain ⟨w3, hw3⟩ : ∃ w3, mkW w2.drew.drew = w3 := ⟨_, rfl⟩
      rw [hw3] at g1 g2
      rw [hGe, hw3]
      obtain ⟨w4, hw4, k4, b4⟩ := three_new w3 (.int .i64 wi) (.int .i64 hi) (.slice (some ⟨G, 0, none⟩) n n) 24
      obtain ⟨S, hS⟩ : ∃ S, w3.heap.size = S := ⟨_, rfl⟩
      rw [hw4, hS]
      rw [hS] at b4
      have k24 : Kept [] w2 w4 := (((Kept.refl [] w2).drew.drew).trans g2).trans k4
      have hGl : w.heap.size ≤ G := by rw [← hGe]; exact K2.out.size
      have KK := Hid.mk (K2.out.trans k24)
      have BQ := k24.heap B1.out (by simp)
      have BR := k24.heap B2.out (by simp)
      have BG := k4.heap g1 (by simp)
      have nSG : ¬ S = G := ne_ty b4 BG (by decide)
      have nQG : ¬ Q = G := ne_ty BQ BG (by decide)
      have nRG : ¬ R = G := ne_ty BR BG (by decide)
      have nRS : ¬ R = S := ne_ty BR b4 (by decide)
      have nRQ : ¬ R = Q := ne_ty BR BQ (by decide)
      have HBS := Hid.mk (And.intro b4 (And.intro BQ (And.intro BR BG)))
      clear C1 C2 C3 C4 hmk HMW g1 g2 e0 k4 b4 k24 BQ BR BG B1 B2 K2 hw1 hw2 hw3 hw4 hQ hR hS hGe z0 z1 z2 z3 z4 x1 x2 x2' x3 x3' x4 x4' x7 x7' hm eW eH hWz
      go_loopw [8] (fun i wr => ∃ (k : Nat) (cs : List Value), k ≤ n ∧ i = .int .i64 (k : Int) ∧ wr.heap[G]? = some (.cells cs.toArray 39 (0, 0)) ∧ cs.length = n ∧ (∀ j, j < k → cs[j]? = some (.int .u16 V)) ∧ Kept [G] w4 wr) (fun i _ => n - (intOf i).toNat)
      case atStart => exact ⟨0, List.replicate n (.int .u16 0), by omega, rfl, HBS.out.2.2.2, by simp, fun j hj => by omega, Kept.refl _ _⟩
      case round =>
        obtain ⟨k, cs, hk, rfl, hrow, hlen, hall, hkw⟩ := hrel
        obtain ⟨s0, s1, s2⟩ := agg3' (hkw.heap HBS.out.1 (by simp; exact nSG))
        have HX := Hid.mk (And.intro hrow (And.intro hlen (And.intro hall hkw)))
        by_cases hlt : k < n
        · obtain ⟨u, hu⟩ := row_cell_at hrow (show k < cs.length by omega)
          have hf : wr.frozen? ⟨G, k, none⟩ = false := by simp [World.frozen?, hrow]
          have ix : (k : Int) < n := by omega
          clear hrow hlen hall hkw
          go_wp2
          go_roundw
          case rel =>
            obtain ⟨hrow, hlen, hall, hkw⟩ := HX.out
            refine ⟨k + 1, cs.set k (.int .u16 V), by omega, by go_num, ?_, by simpa using hlen, fun j hj => ?_, hkw.setCell (p := ⟨G, k, none⟩) (by simp) _⟩
            · rw [heap_setCell_at hrow]; simp
            · rw [List.getElem?_set]
              by_cases e : k = j
              · subst e; rw [if_pos rfl, if_pos (by omega)]
              · rw [if_neg e]; exact hall j (by omega)
          case measure => simp [intOf]; omega
        · obtain rfl : n = k := by omega
          have ix : ¬ (n : Int) < (n : Int) := by omega
          have q4 := (five_cells (hkw.heap HBS.out.2.1 (by simp; exact nQG))).2.2.2.2
          obtain ⟨⟨r0, r1, r2, r3, r4⟩, rf⟩ := cells_five (hkw.heap HBS.out.2.2.1 (by simp; exact nRG))
          have f0 := rf 0
          have f1 := rf 1
          have f2 := rf 2
          have f3 := rf 3
          have f4 := rf 4
          clear hrow hlen hall hkw rf
          go_wp2
          have HR : Hid (wr.heap[R]? = some (.cells #[.int .i64 0, .int .i64 0, .slice none 0 0, .int .i64 0, .int .i64 0] 26 (0, 0))) := Hid.mk (HX.out.2.2.2.heap HBS.out.2.2.1 (by simp; exact nRG))
          clear r0 r1 r2 r3 r4 f0 f1 f2 f3 f4
          refine wp_region_held_drew (S := fun w' => (w'.cell? ⟨S, 0, none⟩ = some (.int .i64 wi) ∧ w'.cell? ⟨S, 1, none⟩ = some (.int .i64 hi) ∧ w'.cell? ⟨S, 2, none⟩ = some (.slice (some ⟨G, 0, none⟩) n n)) ∧ w'.cell? ⟨Q, 4, none⟩ = some (.int .i64 dd)) (by kernel_rfl) ⟨⟨s0, s1, s2⟩, q4⟩ (fun hHeld => ?_)
          refine wpAnyH_take (i := 0) (oi := _) (v := ?_) rfl (by kernel_rfl) (by kernel_rfl) (by kernel_rfl) (fun _ _ _ h => h) (Or.inl ⟨by rfl, ?y0⟩) (by assumption) ?r0
          case y0 => (intro w hSw; (try dsimp only at hSw); go_simp; try with_reducible rfl)
          refine wpAnyH_take (i := 1) (oi := _) (v := ?_) rfl (by kernel_rfl) (by kernel_rfl) (by kernel_rfl) (fun _ _ _ h => h) (Or.inl ⟨by rfl, ?y1⟩) (by assumption) ?r1
          case y1 => (intro w hSw; (try dsimp only at hSw); go_simp; try with_reducible rfl)
          refine wpAnyH_take (i := 2) (oi := _) (v := ?_) rfl (by kernel_rfl) (by kernel_rfl) (by kernel_rfl) (fun _ _ _ h => h) (Or.inl ⟨by rfl, ?y2⟩) (by assumption) ?r2
          case y2 => (intro w hSw; (try dsimp only at hSw); go_simp; try with_reducible rfl)
          refine wpAnyH_take (i := 3) (oi := _) (v := ?_) rfl (by kernel_rfl) (by kernel_rfl) (by kernel_rfl) (fun _ _ _ h => h) (Or.inl ⟨by rfl, ?y3⟩) (by assumption) ?r3
          case y3 => (intro w hSw; (try dsimp only at hSw); go_simp; try with_reducible rfl)
          refine wpAnyH_ready (rs := [4]) (by kernel_rfl) (by simp) ?_
          refine AllReadyH.cons rfl (fun K hK => ?_) AllReadyH.nil
          go_simp
          go_at_call 10
          refine (C5.out _).mono ?_
          rintro e w5 ⟨rfl, hw5⟩
          obtain rfl := hw5.symm
          refine hK.out _ _ ⟨⟨s0, s1, s2⟩, q4⟩ (fun hHeld => ?_)
          clear hK K
          refine wpAnyH_take (i := 5) (oi := _) (v := ?_) rfl (by kernel_rfl) (by kernel_rfl) (by kernel_rfl) (fun _ _ _ h => h) (Or.inl ⟨by rfl, ?y5⟩) (by assumption) ?r5
          case y5 => (intro w hSw; (try dsimp only at hSw); go_simp; try with_reducible rfl)
          refine wpAnyH_ready (rs := [6]) (by kernel_rfl) (by simp) ?_
          refine AllReadyH.cons rfl (fun K hK => ?_) AllReadyH.nil
          rw [if_pos (by rfl)]
          refine wp_store_mid 26 (.tmp 2) (.tmp 55) rfl R 0 #[.int .i64 wi, .int .i64 hi, .slice (some ⟨G, 0, none⟩) n n, .int .i64 12, .int .i64 d] rfl rfl ?_ (by kernel_rfl) (by simp [Value.oneCell']) ?_
          · intro j hj
            have hj5 : j < 5 := hj
            obtain ⟨⟨r0, r1, r2, r3, r4⟩, rf⟩ := cells_five HR.out
            refine ⟨?_, rf _⟩
            show (wr.cell? ⟨R, 0 + j, none⟩).isSome = true
            rw [Nat.zero_add]
            rcases (show j = 0 ∨ j = 1 ∨ j = 2 ∨ j = 3 ∨ j = 4 by omega) with rfl | rfl | rfl | rfl | rfl
            · rw [r0]; rfl
            · rw [r1]; rfl
            · rw [r2]; rfl
            · rw [r3]; rfl
            · rw [r4]; rfl
          refine hK.out _ _ (far5 (w := wr.drew) nRS nRQ s0 s1 s2 q4) (fun hHeld => ?_)
          clear hK K
          obtain ⟨w6, hw6⟩ : ∃ w6, wr.drew.setCells R 0 (#[.int .i64 wi, .int .i64 hi, .slice (some ⟨G, 0, none⟩) n n, .int .i64 12, .int .i64 d] : Array Value).toList = w6 := ⟨_, rfl⟩
          have k6 : Kept [R] wr w6 := by
            rw [← hw6]
            exact ((((((Kept.refl [R] wr).drew).setCell (p := ⟨R, 0, none⟩) (by simp) _).setCell (p := ⟨R, 1, none⟩) (by simp) _).setCell (p := ⟨R, 2, none⟩) (by simp) _).setCell (p := ⟨R, 3, none⟩) (by simp) _).setCell (p := ⟨R, 4, none⟩) (by simp) _
          have b6 : w6.heap[R]? = some (.cells #[.int .i64 wi, .int .i64 hi, .slice (some ⟨G, 0, none⟩) n n, .int .i64 12, .int .i64 d] 26 (0, 0)) := by
            rw [← hw6]
            show (((((wr.drew.setCell ⟨R, 0, none⟩ _).setCell ⟨R, 1, none⟩ _).setCell ⟨R, 2, none⟩ _).setCell ⟨R, 3, none⟩ _).setCell ⟨R, 4, none⟩ _).heap[R]? = _
            rw [heap_setCell_at (heap_setCell_at (heap_setCell_at (heap_setCell_at (heap_setCell_at (show wr.drew.heap[R]? = _ from HR.out)))))]
            simp
          rw [hw6]
          refine wpAnyH_done (by kernel_rfl) ?_ _
          obtain ⟨c0, c1, c2, c3, c4⟩ := five_cells b6
          have K6 := Hid.mk k6
          clear k6 b6 hw6 s0 s1 s2 q4 hHeld
          go_wp2
          obtain ⟨hrow, hlen, hall, hkw⟩ := HX.out
          have hrow6 := K6.out.heap hrow (by simp; omega)
          have hsm : Smp w6 G 0 n (fun _ => V) := fun i hi => by
            rw [Nat.zero_add, cell_of_row _ _ _ _ _ _ hrow6]
            simpa using hall i hi
          have hRl2 := hRl
          refine bodyPost_ret (v := .agg #[.int .i64 wi, .int .i64 hi, .slice (some ⟨G, 0, none⟩) n n, .int .i64 12, .int .i64 d]) (by simp [results, Tryd.results12, go_sem, c0, c1, c2, c3, c4]) rfl ⟨W, H, n, G, 12, 4095, d, by rw [HWI.out, HHI.out], V, hsm, HB.out, (KK.out.step hkw (by simp; omega)).step K6.out (by simp; omega)⟩

theorem block_any (a b v c dd : Int) (w : World) (ha : i64b a) (hb : i64b b) (hv : i64b v) (hc : i64b c) (hd : i64b dd) :
    Calls Tryd.prog 12 #[.agg #[.int .i64 a, .int .i64 b, .int .i64 v, .int .i64 c, .int .i64 dd]] w fun e w' => ∃ (W H n G : Nat) (D T d V : Int), e = .returned (.agg #[.int .i64 (W : Int), .int .i64 (H : Int), .slice (some ⟨G, 0, none⟩) n n, .int .i64 D, .int .i64 d]) ∧ Smp w' G 0 n (fun _ => V) ∧ Blk W H n D T d (fun _ => V) ∧ Kept [] w w' := by
  obtain ⟨D, T, eD, hD, _, hDD⟩ := flat_depth c
  rcases hDD with rfl | rfl
  · exact block10 a b v c dd w ha hb hv hc hd eD
  · exact block12 a b v c dd w ha hb hv hc hd eD
end Go.Proofs.YtahoeodpjdbdkabDoor
