import Derived.Test.YtjnmnkheichflabMo
import Derived.Test.YtjnmnkheichflabRc
import Derived.Test.YtjnmnkheichflabM4
namespace Go.Proofs.Ytjnmnkheichflab
open Go.RowKit

/-- How many rows, columns, and which error. -/
def cyB (n k : Int) : Bool := decide (n < 1) || decide (k < 1) || decide (256 < n + k)
theorem cyB_bad {n k : Int} : cyB n k = true ↔ Bad n k := by unfold cyB Bad; simp [or_assoc]
def cyN (n k : Int) : Nat := if cyB n k then 0 else n.toNat
def cyK (n k : Int) : Nat := if cyB n k then 0 else k.toNat
def cyE (n k : Int) : Int := if cyB n k then 42 else 0
theorem cy_small (n k : Int) : cyN n k ≤ 256 ∧ cyK n k ≤ 256 := by
  unfold cyN cyK
  by_cases h : cyB n k = true
  · rw [if_pos h, if_pos h]; omega
  · rw [if_neg h, if_neg h]
    rw [cyB_bad] at h
    unfold Bad at h; omega

theorem cauchy_u (n k : Int) (w : World) (hn : -9223372036854775808 ≤ n ∧ n ≤ 9223372036854775807) (hk : -9223372036854775808 ≤ k ∧ k ≤ 9223372036854775807) :
    Calls Try.prog 16 #[.int .i64 n, .int .i64 k] w fun e w' => ∃ ao bs, e = .returned (.tuple #[.slice ao (cyN n k) (cyN n k), .int .i64 (cyE n k)]) ∧ Mo w' w.heap.size ao (cyN n k) bs (cyK n k) cf ∧ Kept [] w w' := by
  unfold cyN cyK cyE
  by_cases h : cyB n k = true
  · rw [if_pos h, if_pos h, if_pos h]
    exact (cauchy_no n k w (cyB_bad.1 h) hn hk).mono fun e w' ⟨he, hw⟩ => ⟨none, fun _ => 0, he, Mo.nix _ _ _ _ _, by subst hw; exact Kept.refl _ _⟩
  · rw [if_neg h, if_neg h, if_neg h]
    rw [cyB_bad] at h
    unfold Bad at h
    obtain ⟨a, rfl⟩ : ∃ a : Nat, n = (a : Int) := ⟨n.toNat, by omega⟩
    obtain ⟨b, rfl⟩ : ∃ b : Nat, k = (b : Int) := ⟨k.toNat, by omega⟩
    rw [Int.toNat_natCast, Int.toNat_natCast]
    exact (cauchy_ok a b w (by omega) (by omega) (by omega)).mono fun e w' ⟨g, bs, he, hm, h1, h2, hk⟩ => ⟨some ⟨g, 0, none⟩, bs, he, ⟨fun h => (nomatch h), .inr ⟨g, rfl, hm, h1⟩, h2⟩, hk⟩
theorem refCauchy_u (n k : Int) (w : World) (hn : -9223372036854775808 ≤ n ∧ n ≤ 9223372036854775807) (hk : -9223372036854775808 ≤ k ∧ k ≤ 9223372036854775807) :
    Calls Try.prog 17 #[.int .i64 n, .int .i64 k] w fun e w' => ∃ ao cap, e = .returned (.tuple #[.slice ao (cyN n k) cap, .int .i64 (cyE n k)]) ∧ MR w' ao (mf cf (cyN n k) (cyK n k)) ∧ Kept [] w w' := by
  unfold cyN cyK cyE
  by_cases h : cyB n k = true
  · rw [if_pos h, if_pos h, if_pos h]
    exact (refCauchy_no n k w (cyB_bad.1 h) hn hk).mono fun e w' ⟨he, hw⟩ => ⟨none, 0, he, .inl rfl, by subst hw; exact Kept.refl _ _⟩
  · rw [if_neg h, if_neg h, if_neg h]
    rw [cyB_bad] at h
    unfold Bad at h
    obtain ⟨a, rfl⟩ : ∃ a : Nat, n = (a : Int) := ⟨n.toNat, by omega⟩
    obtain ⟨b, rfl⟩ : ∃ b : Nat, k = (b : Int) := ⟨k.toNat, by omega⟩
    rw [Int.toNat_natCast, Int.toNat_natCast]
    exact (refCauchy_ok a b w (by omega) (by omega) (by omega)).mono fun e w' ⟨V, bs, he, hg, hk⟩ => by
      obtain ⟨ao, cap, rfl, hr⟩ := hg.val
      exact ⟨ao, cap, he, hr, hk⟩

set_option maxHeartbeats 8000000 in
set_option maxRecDepth 1000000 in
theorem cauchys_any (n k : Int) (w : World) (hn : -9223372036854775808 ≤ n ∧ n ≤ 9223372036854775807) (hk : -9223372036854775808 ≤ k ∧ k ≤ 9223372036854775807) :
    Calls Try.prog 4 #[.int .i64 n, .int .i64 k] w fun e w' => e = .returned (.bool true) ∧ Kept [] w w' := by
  have sm := cy_small n k
  have C1 := Hid.mk (fun w => cauchy_u n k w hn hk)
  have C2 := Hid.mk (fun w => refCauchy_u n k w hn hk)
  have C3 : Hid (∀ w : World, Calls Try.prog 16 #[.int .i64 2, .int .i64 3] w fun e w' => ∃ ao bs, e = .returned (.tuple #[.slice ao 2 2, .int .i64 0]) ∧ Mo w' w.heap.size ao 2 bs 3 cf ∧ Kept [] w w') := Hid.mk (fun w => (cauchy_ok 2 3 w (by decide) (by decide) (by decide)).mono fun e w' ⟨g, bs, he, hm, h1, h2, hk⟩ => ⟨some ⟨g, 0, none⟩, bs, he, ⟨fun h => (nomatch h), .inr ⟨g, rfl, hm, h1⟩, h2⟩, hk⟩)
  have C4 : Hid (∀ w : World, Calls Try.prog 17 #[.int .i64 2, .int .i64 3] w fun e w' => ∃ ao cap, e = .returned (.tuple #[.slice ao 2 cap, .int .i64 0]) ∧ MR w' ao (mf cf 2 3) ∧ Kept [] w w') := Hid.mk (fun w => (refCauchy_ok 2 3 w (by decide) (by decide) (by decide)).mono fun e w' ⟨V, bs, he, hg, hk⟩ => by
    obtain ⟨ao, cap, rfl, hr⟩ := hg.val
    exact ⟨ao, cap, he, hr, hk⟩)
  obtain ⟨N, eN⟩ : ∃ N, N = cyN n k := ⟨_, rfl⟩
  obtain ⟨K, eK⟩ : ∃ K, K = cyK n k := ⟨_, rfl⟩
  obtain ⟨E, eE⟩ : ∃ E, E = cyE n k := ⟨_, rfl⟩
  rw [← eN, ← eK] at sm
  rw [← eN, ← eK, ← eE] at C1 C2
  obtain ⟨s1, s2⟩ := sm
  clear eN eK eE hn hk
  go_enter Try.func4, Try.ntmps4
  go_wp2_with (go_at_call 7; refine (alive_any _).mono ?_; rintro e w1 ⟨rfl, hq1⟩; have hk1 := Qt.kept hq1 []; clear hq1)
  obtain ⟨Bk, eB⟩ : ∃ Bk, Bk = w1.heap.size := ⟨_, rfl⟩
  obtain ⟨w2, ew2⟩ : ∃ w2, w2 = w1.alloc (.cells #[.slice none 0 0, .slice none 0 0] 26) := ⟨_, rfl⟩
  have BX : Hid (w2.heap[Bk]? = some (.cells #[.slice none 0 0, .slice none 0 0] 26 (0, 0))) := Hid.mk (by rw [ew2, eB, heap_alloc_new])
  have HK : Hid (Kept [] w w2) := Hid.mk (by rw [ew2]; exact hk1.alloc _)
  have SB : Hid (w.heap.size ≤ Bk) := Hid.mk (by rw [eB]; exact hk1.size)
  rw [← eB, ← ew2]
  clear eB ew2 hk1
  have L0 : Hid (Bk < w2.heap.size) := Hid.mk (lt_of_block BX.out)
  refine (C1.out w2).mono ?_
  rintro e w3 ⟨ax, bx, rfl, mx, k3⟩
  have X := Hid.mk mx
  have UX := Hid.mk mx.up
  replace BX := Hid.mk (k3.heap BX.out (by simp))
  replace HK := Hid.mk (HK.out.trans k3)
  have T1 : Hid (w2.heap.size ≤ w3.heap.size) := Hid.mk k3.size
  clear mx k3
  go_wp2_with (fail)
  refine (C3.out w3).mono ?_
  rintro e w4 ⟨aq, bq, rfl, mo, k4⟩
  have O := Hid.mk mo
  have UO := Hid.mk mo.up
  replace X := Hid.mk (X.out.keep k4)
  replace BX := Hid.mk (k4.heap BX.out (by simp))
  replace HK := Hid.mk (HK.out.trans k4)
  have T2 : Hid (w3.heap.size ≤ w4.heap.size) := Hid.mk k4.size
  clear mo k4
  go_wp2_with (fail)
  refine (C1.out w4).mono ?_
  rintro e w5 ⟨ay, by', rfl, my, k5⟩
  have Y := Hid.mk my
  have UY := Hid.mk my.up
  replace X := Hid.mk (X.out.keep k5)
  replace O := Hid.mk (O.out.keep k5)
  replace BX := Hid.mk (k5.heap BX.out (by simp))
  replace HK := Hid.mk (HK.out.trans k5)
  have T3 : Hid (w4.heap.size ≤ w5.heap.size) := Hid.mk k5.size
  clear my k5
  go_wp2_with (fail)
  refine (C1.out w5).mono ?_
  rintro e w6 ⟨aw, bw, rfl, mw, k6⟩
  have W := Hid.mk mw
  have UW := Hid.mk mw.up
  replace X := Hid.mk (X.out.keep k6)
  replace O := Hid.mk (O.out.keep k6)
  replace Y := Hid.mk (Y.out.keep k6)
  replace BX := Hid.mk (k6.heap BX.out (by simp))
  replace HK := Hid.mk (HK.out.trans k6)
  have T4 : Hid (w5.heap.size ≤ w6.heap.size) := Hid.mk k6.size
  clear mw k6
  go_wp2_with (fail)
  refine (C2.out w6).mono ?_
  rintro e w7 ⟨an, cn, rfl, mn, k7⟩
  have WN := Hid.mk mn
  have KK := Hid.mk k7
  clear mn k7
  go_wp2_with (fail)
  refine (same_any _ _ _ _ N _ w7 (W.out.keep KK.out).reads WN.out (mf_length _ _ _) (by omega)).mono ?_
  rintro e w8 ⟨rfl, hq8⟩
  replace WN := Hid.mk (WN.out.keep (Qt.kept hq8 []))
  replace KK := Hid.mk (KK.out.trans (Qt.kept hq8 []))
  clear hq8
  go_wp2_with (fail)
  refine (C4.out w8).mono ?_
  rintro e w9 ⟨ar, cr, rfl, mr, k9⟩
  have WR := Hid.mk mr
  replace WN := Hid.mk (WN.out.keep k9)
  replace KK := Hid.mk (KK.out.trans k9)
  clear mr k9
  go_wp2_with (fail)
  refine (same_any _ _ _ _ N _ w9 (X.out.keep KK.out).reads WN.out (mf_length _ _ _) (by omega)).mono ?_
  rintro e wa ⟨rfl, hqa⟩
  replace WN := Hid.mk (WN.out.keep (Qt.kept hqa []))
  replace WR := Hid.mk (WR.out.keep (Qt.kept hqa []))
  replace KK := Hid.mk (KK.out.trans (Qt.kept hqa []))
  clear hqa
  go_wp2_with (fail)
  refine (same_any _ _ _ _ N _ wa (Y.out.keep KK.out).reads WN.out (mf_length _ _ _) (by omega)).mono ?_
  rintro e wb ⟨rfl, hqb⟩
  replace WR := Hid.mk (WR.out.keep (Qt.kept hqb []))
  replace KK := Hid.mk (KK.out.trans (Qt.kept hqb []))
  clear hqb WN
  go_wp2_with (fail)
  refine (same_any _ _ _ _ 2 _ wb (O.out.keep KK.out).reads WR.out (mf_length _ _ _) (by omega)).mono ?_
  rintro e wD ⟨rfl, hqD⟩
  replace KK := Hid.mk (KK.out.trans (Qt.kept hqD []))
  clear hqD WR
  have OW : Hid (2 ≤ 256) := Hid.mk (by decide)
  replace X := Hid.mk (X.out.keep KK.out)
  replace O := Hid.mk (O.out.keep KK.out)
  replace Y := Hid.mk (Y.out.keep KK.out)
  replace W := Hid.mk (W.out.keep KK.out)
  replace BX := Hid.mk (KK.out.heap BX.out (by simp))
  replace HK := Hid.mk (HK.out.trans KK.out)
  have TD : Hid (w6.heap.size ≤ wD.heap.size) := Hid.mk KK.out.size
  clear KK C1 C2 C3 C4
  go_wp2_with (fail)
  -- the four come into a book
  have FI := Hid.mk (four_in X.out UX.out O.out UO.out Y.out UY.out W.out UW.out T1.out T2.out T3.out T4.out)
  refine (held_any wD Bk 0 (.slice none 0 0) (.slice none 0 0) (fun _ => .slice none 0 0) (fun _ => .slice none 0 0) (fun _ => []) ax N N K bx cf wD (Bks.empty BX.out _ _ _) (by simp [Value.ownBlock]) (by simp [Value.ownBlock]) (Kept.refl _ _) (X.out.hl L0.out) (fun i h => by omega) s1 (by omega) (by omega)).mono ?_
  rintro e wE ⟨rfl, vl1, vw1, U1, hb1, l1, m1, kE⟩
  have B1 := Hid.mk hb1
  have LL1 := Hid.mk l1
  have MM1 := Hid.mk m1
  have KE := Hid.mk kE
  clear hb1 l1 m1 kE BX
  go_wp2_with (fail)
  refine (held_any wD Bk (0 + N) vl1 vw1 _ U1 _ aq 2 2 3 bq cf wE B1.out LL1.out MM1.out KE.out (O.out.hl (by have := L0.out; have := T1.out; omega)) (FI.out.1.apart (fun j hj => O.out.lo j hj)) (by omega) (by omega) (by omega)).mono ?_
  rintro e wF ⟨rfl, vl2, vw2, U2, hb1, l1, m1, kE⟩
  have B2 := Hid.mk hb1
  have LL2 := Hid.mk l1
  have MM2 := Hid.mk m1
  have KF := Hid.mk kE
  clear hb1 l1 m1 kE B1 LL1 MM1 KE
  go_wp2_with (fail)
  refine (held_any wD Bk (0 + N + 2) vl2 vw2 _ U2 _ ay N N K by' cf wF B2.out LL2.out MM2.out KF.out (Y.out.hl (by have := L0.out; have := T1.out; have := T2.out; omega)) (FI.out.2.1.apart (fun j hj => Y.out.lo j hj)) s1 (by omega) (by omega)).mono ?_
  rintro e wG ⟨rfl, vl3, vw3, U3, hb1, l1, m1, kE⟩
  have B3 := Hid.mk hb1
  have LL3 := Hid.mk l1
  have MM3 := Hid.mk m1
  have KG := Hid.mk kE
  clear hb1 l1 m1 kE B2 LL2 MM2 KF
  go_wp2_with (fail)
  refine (held_any wD Bk (0 + N + 2 + N) vl3 vw3 _ U3 _ aw N N K bw cf wG B3.out LL3.out MM3.out KG.out (W.out.hl (by have := L0.out; have := T1.out; have := T2.out; have := T3.out; omega)) (FI.out.2.2.1.apart (fun j hj => W.out.lo j hj)) s1 (by omega) (by omega)).mono ?_
  rintro e wH ⟨rfl, vl4, vw4, U4, hb1, l1, m1, kE⟩
  obtain ⟨gl, cl, gw, cw, hbk⟩ := hb1.done (by omega)
  have B4 := Hid.mk hbk
  have KH := Hid.mk kE
  clear hb1 l1 m1 kE hbk B3 LL3 MM3 KG
  go_wp2_with (fail)
  refine (ends_any Bk gl cl gw cw (0 + N + 2 + N + N) _ U4 _ wH (by omega) (by omega) (lc_len (lc_len (lc_len (lc_len (fun _ => Nat.zero_le _) (by omega)) (by omega)) (by omega)) (by omega)) B4.out).mono ?_
  rintro e wI ⟨rfl, _, kI⟩
  have KI : Hid (Kept (Bk :: blk (v4 N K 2 3 bx bq by' bw) (0 + N + 2 + N + N)) wD wI) := Hid.mk ((KH.out.mono (fun x hx => .inl (by simp at hx; simp [hx]))).step kI (fun x hx => .inl hx))
  clear kI KH B4
  have nX : Hid (0 < N → ∀ g, ax = some ⟨g, 0, none⟩ → g ∉ Bk :: blk (v4 N K 2 3 bx bq by' bw) (0 + N + 2 + N + N)) := Hid.mk (fun hp g hg hm => by
    rcases List.mem_cons.1 hm with e | hm
    · have := X.out.ge hp hg; have := L0.out; omega
    · exact (FI.out.2.2.2.2 hp).1.blk hg hm)
  have nY : Hid (0 < N → ∀ g, ay = some ⟨g, 0, none⟩ → g ∉ Bk :: blk (v4 N K 2 3 bx bq by' bw) (0 + N + 2 + N + N)) := Hid.mk (fun hp g hg hm => by
    rcases List.mem_cons.1 hm with e | hm
    · have := Y.out.ge hp hg; have := L0.out; have := T1.out; have := T2.out; omega
    · exact (FI.out.2.2.2.2 hp).2.1.blk hg hm)
  have nW : Hid (0 < N → ∀ g, aw = some ⟨g, 0, none⟩ → g ∉ Bk :: blk (v4 N K 2 3 bx bq by' bw) (0 + N + 2 + N + N)) := Hid.mk (fun hp g hg hm => by
    rcases List.mem_cons.1 hm with e | hm
    · have := W.out.ge hp hg; have := L0.out; have := T1.out; have := T2.out; have := T3.out; omega
    · exact (FI.out.2.2.2.2 hp).2.2.blk hg hm)
  go_wp2_with (fail)
  refine (outer_any ax ay N N wI (X.out.wr KI.out nX.out) (Y.out.wr KI.out nY.out) X.out.nil Y.out.nil (fun hp _ g g2 e e2 => by have := UX.out.1 hp g e; have := Y.out.ge hp e2; have := T2.out; omega) s1 s1).mono ?_
  rintro e wJ ⟨rfl, wry, kJ⟩
  have WY := Hid.mk wry
  have KJ := Hid.mk (KI.out.mono (l2 := Bk :: blk (v4 N K 2 3 bx bq by' bw) (0 + N + 2 + N + N) ++ (bko ax N ++ bko ay N)) (fun x hx => .inl (List.mem_append.2 (.inl hx))) |>.step kJ (fun x hx => .inl (List.mem_append.2 (.inr hx))))
  clear wry kJ KI nX nY
  go_wp2_with (fail)
  refine (outer_any aw ay N N wJ (W.out.wr KJ.out (fun hp g hg hm => by
    rcases List.mem_append.1 hm with hm | hm
    · exact nW.out hp g hg hm
    · have hge := W.out.ge hp hg
      rcases List.mem_append.1 hm with hm | hm
      · have := (bko_in X.out UX.out hm).2.1; have := T2.out; have := T3.out; omega
      · have := (bko_in Y.out UY.out hm).2.1; omega)) WY.out W.out.nil Y.out.nil (fun hp _ g g2 e e2 => by have := W.out.ge hp e; have := UY.out.1 hp g2 e2; omega) s1 s1).mono ?_
  rintro e wK ⟨rfl, _, kK⟩
  have KK : Hid (Kept (Bk :: blk (v4 N K 2 3 bx bq by' bw) (0 + N + 2 + N + N) ++ (bko ax N ++ bko ay N) ++ (bko aw N ++ bko ay N)) wD wK) := Hid.mk ((KJ.out.mono (fun x hx => .inl (List.mem_append.2 (.inl hx)))).step kK (fun x hx => .inl (List.mem_append.2 (.inr hx))))
  have LO : Hid (∀ x, x ∈ Bk :: blk (v4 N K 2 3 bx bq by' bw) (0 + N + 2 + N + N) ++ (bko ax N ++ bko ay N) ++ (bko aw N ++ bko ay N) → Bk ≤ x) := Hid.mk (fun x hx => by
    have t0 := L0.out
    have t1 := T1.out
    have t2 := T2.out
    have t3 := T3.out
    rcases List.mem_append.1 hx with hx | hx
    · rcases List.mem_append.1 hx with hx | hx
      · rcases List.mem_cons.1 hx with e | hx
        · omega
        · have := (FI.out.2.2.2.1.blk x hx).1; omega
      · rcases List.mem_append.1 hx with hx | hx
        · have := (bko_in X.out UX.out hx).1; omega
        · have := (bko_in Y.out UY.out hx).1; omega
    · rcases List.mem_append.1 hx with hx | hx
      · have := (bko_in W.out UW.out hx).1; omega
      · have := (bko_in Y.out UY.out hx).1; omega)
  clear kK KJ nW WY
  go_wp2
  go_ret
  exact ⟨rfl, HK.out.step KK.out (fun x hx => .inr (Nat.le_trans SB.out (LO.out x hx)))⟩
end Go.Proofs.Ytjnmnkheichflab
