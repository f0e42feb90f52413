import Derived.Test.YtjnmnkheichflabFs0
import Derived.Deep.RegionHeldLaw
namespace Go.Proofs.Ytjnmnkheichflab
open Go.RowKit

set_option maxHeartbeats 8000000 in
set_option maxRecDepth 1000000 in
theorem solvess_any (am av : Option Addr) (cm cv n k : Nat) (L K : List (List Nat)) (w : World) (hL : MR w am L) (hK : MR w av K) (bL : Bm L) (bK : Bm K) (hl : L.length = n) (hk : K.length = k) (n24 : n * 24 ≤ 140737488351232) (k24 : k * 24 ≤ 140737488351232)
    (wL : ∀ i, i < n → (L.getD i []).length ≤ 140737488351232) (wK : ∀ i, i < k → (K.getD i []).length ≤ 140737488351232) :
    Calls Try.prog 3 #[.slice am n cm, .slice av k cv] w fun e w' => e = .returned (.bool true) ∧ Kept [] w w' := by
  have HL := Hid.mk hL
  have HK := Hid.mk hK
  have Hl := Hid.mk hl
  have Hk := Hid.mk hk
  have WL := Hid.mk wL
  have WK := Hid.mk wK
  have rK : rl K ≤ 140737488351232 := rl_le (fun i hi => wK i (by omega))
  have rK2 : rl (K.map x90) ≤ 140737488351232 := rl_le (map_rows (fun i hi => wK i (by omega)))
  have s1 := soN_le L K
  have s2 : soW L K ≤ 140737488351232 := soW_le rK
  have s3 := soN_le (L.map x90) (K.map x90)
  have C1 := Hid.mk (fun w ao bo ca cb hL hK => solve_u ao bo ca cb n k L K w hL hK bL bK hl hk (by omega) (by omega) (by omega))
  have C2 := Hid.mk (fun w ao bo ca cb hL hK => refSolve_u ao bo ca cb n k L K w hL hK bL bK hl hk (by omega))
  have D1 := Hid.mk (fun w ao bo ca cb hL hK => solve_u ao bo ca cb n k (L.map x90) (K.map x90) w hL hK (map_bm bL) (map_bm bK) (by rw [List.length_map]; exact hl) (by rw [List.length_map]; exact hk) (by omega) (by omega) (by omega))
  have D2 := Hid.mk (fun w ao bo ca cb hL hK => refSolve_u ao bo ca cb n k (L.map x90) (K.map x90) w hL hK (map_bm bL) (map_bm bK) (by rw [List.length_map]; exact hl) (by rw [List.length_map]; exact hk) (by omega))
  obtain ⟨N, eN⟩ : ∃ N, N = soN L K := ⟨_, rfl⟩
  obtain ⟨Q, eQ⟩ : ∃ Q, Q = soW L K := ⟨_, rfl⟩
  obtain ⟨E, eE⟩ : ∃ E, E = soE L K := ⟨_, rfl⟩
  obtain ⟨F, eF⟩ : ∃ F, F = soF L K := ⟨_, rfl⟩
  obtain ⟨N2, eN2⟩ : ∃ N, N = soN (L.map x90) (K.map x90) := ⟨_, rfl⟩
  obtain ⟨Q2, eQ2⟩ : ∃ Q, Q = soW (L.map x90) (K.map x90) := ⟨_, rfl⟩
  obtain ⟨E2, eE2⟩ : ∃ E, E = soE (L.map x90) (K.map x90) := ⟨_, rfl⟩
  obtain ⟨F2, eF2⟩ : ∃ F, F = soF (L.map x90) (K.map x90) := ⟨_, rfl⟩
  rw [← eN] at s1
  rw [← eQ] at s2
  rw [← eN2] at s3
  rw [← eN, ← eQ, ← eE, ← eF] at C1 C2
  rw [← eN2, ← eQ2, ← eE2, ← eF2] at D1 D2
  have BL := Hid.mk bL
  have BK := Hid.mk bK
  clear eN eQ eE eF eN2 eQ2 eE2 eF2 hL hK hl hk wL wK rK rK2 bL bK
  go_enter Try.func3, Try.ntmps3
  go_wp2_with (go_at_call 7; refine (alive_any _).mono ?_; rintro e w1 ⟨rfl, hq1⟩; have hk1 := Qt.kept hq1 []; clear hq1)
  obtain ⟨Bk, eB⟩ : ∃ Bk, Bk = w1.heap.size := ⟨_, rfl⟩
  obtain ⟨w2, ew2⟩ : ∃ w2, w2 = w1.alloc (.cells #[.slice none 0 0, .slice none 0 0] 26) := ⟨_, rfl⟩
  have BX : Hid (w2.heap[Bk]? = some (.cells #[.slice none 0 0, .slice none 0 0] 26 (0, 0))) := Hid.mk (by rw [ew2, eB, heap_alloc_new])
  have H0 : Hid (Kept [] w w2) := Hid.mk (by rw [ew2]; exact hk1.alloc _)
  have SB : Hid (w.heap.size ≤ Bk) := Hid.mk (by rw [eB]; exact hk1.size)
  rw [← eB, ← ew2]
  clear eB ew2 hk1
  have L0 : Hid (Bk < w2.heap.size) := Hid.mk (lt_of_block BX.out)
  -- lent
  refine (rows_any am cm n L w2 (HL.out.keep H0.out) Hl.out (by omega) WL.out).mono ?_
  rintro e w3 ⟨c1, rfl, hm, hg, k3⟩
  obtain ⟨G1, eG1⟩ : ∃ G, G = w2.heap.size := ⟨_, rfl⟩
  rw [← eG1] at hm hg L0 ⊢
  have LC := Hid.mk hm
  have GC := Hid.mk hg
  replace BX := Hid.mk (k3.heap BX.out (by simp))
  replace H0 := Hid.mk (H0.out.trans k3)
  have T0 : Hid (∀ i, i < n + 4 → c1 i < w3.heap.size) := Hid.mk (fun i hi => (hm.row i hi).lt)
  have T1 : Hid (G1 < w3.heap.size) := Hid.mk hm.glt
  clear hm hg k3 eG1
  go_wp2_with (fail)
  refine (rows_any av cv k K w3 (HK.out.keep H0.out) Hk.out (by omega) WK.out).mono ?_
  rintro e w4 ⟨c2, rfl, hm, hg, k4⟩
  obtain ⟨G2, eG2⟩ : ∃ G, G = w3.heap.size := ⟨_, rfl⟩
  rw [← eG2] at hm hg T0 T1 ⊢
  have LD := Hid.mk hm
  have GD := Hid.mk hg
  replace LC := Hid.mk (LC.out.keep k4 (by simp) (by simp))
  replace BX := Hid.mk (k4.heap BX.out (by simp))
  replace H0 := Hid.mk (H0.out.trans k4)
  have U0 : Hid (∀ i, i < k + 4 → c2 i < w4.heap.size) := Hid.mk (fun i hi => (hm.row i hi).lt)
  have U1 : Hid (G2 < w4.heap.size) := Hid.mk hm.glt
  clear hm hg k4 eG2
  go_wp2_with (fail)
  refine (C1.out w4 _ _ _ _ (LC.out.reads Hl.out) (LD.out.reads Hk.out)).mono ?_
  rintro e w5 ⟨ax, bx, rfl, mx, k5⟩
  have X := Hid.mk mx
  have UX := Hid.mk mx.up
  replace LC := Hid.mk (LC.out.keep k5 (by simp) (by simp))
  replace LD := Hid.mk (LD.out.keep k5 (by simp) (by simp))
  replace BX := Hid.mk (k5.heap BX.out (by simp))
  replace H0 := Hid.mk (H0.out.trans k5)
  have S1 : Hid (w4.heap.size ≤ w5.heap.size) := Hid.mk k5.size
  clear mx k5
  go_wp2_with (fail)
  refine (ex_solve w5).mono ?_
  rintro e w6 ⟨gq, bq, FO, rfl, mo, ho, k6⟩
  have O := Hid.mk mo
  have UO := Hid.mk mo.up
  have HO := Hid.mk ho
  replace X := Hid.mk (X.out.keep k6)
  replace LC := Hid.mk (LC.out.keep k6 (by simp) (by simp))
  replace LD := Hid.mk (LD.out.keep k6 (by simp) (by simp))
  replace BX := Hid.mk (k6.heap BX.out (by simp))
  replace H0 := Hid.mk (H0.out.trans k6)
  have S2 : Hid (w5.heap.size ≤ w6.heap.size) := Hid.mk k6.size
  clear mo ho k6
  go_wp2_with (fail)
  refine (C1.out w6 _ _ _ _ (LC.out.reads Hl.out) (LD.out.reads Hk.out)).mono ?_
  rintro e w7 ⟨ay, by', rfl, my, k7⟩
  have Y := Hid.mk my
  have UY := Hid.mk my.up
  replace X := Hid.mk (X.out.keep k7)
  replace O := Hid.mk (O.out.keep k7)
  replace LC := Hid.mk (LC.out.keep k7 (by simp) (by simp))
  replace LD := Hid.mk (LD.out.keep k7 (by simp) (by simp))
  replace BX := Hid.mk (k7.heap BX.out (by simp))
  replace H0 := Hid.mk (H0.out.trans k7)
  have S3 : Hid (w6.heap.size ≤ w7.heap.size) := Hid.mk k7.size
  clear my k7
  go_wp2_with (fail)
  refine (C1.out w7 _ _ _ _ (LC.out.reads Hl.out) (LD.out.reads Hk.out)).mono ?_
  rintro e w8 ⟨aw, bw, rfl, mw, k8⟩
  have W := Hid.mk mw
  have UW := Hid.mk mw.up
  replace X := Hid.mk (X.out.keep k8)
  replace O := Hid.mk (O.out.keep k8)
  replace Y := Hid.mk (Y.out.keep k8)
  replace LC := Hid.mk (LC.out.keep k8 (by simp) (by simp))
  replace LD := Hid.mk (LD.out.keep k8 (by simp) (by simp))
  replace BX := Hid.mk (k8.heap BX.out (by simp))
  replace H0 := Hid.mk (H0.out.trans k8)
  have S4 : Hid (w7.heap.size ≤ w8.heap.size) := Hid.mk k8.size
  clear mw k8
  go_wp2_with (fail)
  refine (C2.out w8 _ _ _ _ (HL.out.keep H0.out) (HK.out.keep H0.out)).mono ?_
  rintro e w9 ⟨an, cn, rfl, mn, k9⟩
  have WN := Hid.mk mn
  have KK := Hid.mk k9
  clear mn k9
  go_wp2_with (fail)
  refine (same_any _ _ _ _ N _ w9 (W.out.keep KK.out).reads WN.out (mf_length _ _ _) (by omega)).mono ?_
  rintro e wa ⟨rfl, hqa⟩
  replace WN := Hid.mk (WN.out.keep (Qt.kept hqa []))
  replace KK := Hid.mk (KK.out.trans (Qt.kept hqa []))
  clear hqa
  go_wp2_with (fail)
  refine (same_any _ _ _ _ N _ wa (X.out.keep KK.out).reads WN.out (mf_length _ _ _) (by omega)).mono ?_
  rintro e wb ⟨rfl, hqb⟩
  replace WN := Hid.mk (WN.out.keep (Qt.kept hqb []))
  replace KK := Hid.mk (KK.out.trans (Qt.kept hqb []))
  clear hqb
  go_wp2_with (fail)
  refine (same_any _ _ _ _ N _ wb (Y.out.keep KK.out).reads WN.out (mf_length _ _ _) (by omega)).mono ?_
  rintro e wv ⟨rfl, hqc⟩
  replace KK := Hid.mk (KK.out.trans (Qt.kept hqc []))
  clear hqc WN
  replace X := Hid.mk (X.out.keep KK.out)
  replace O := Hid.mk (O.out.keep KK.out)
  replace Y := Hid.mk (Y.out.keep KK.out)
  replace W := Hid.mk (W.out.keep KK.out)
  replace LC := Hid.mk (LC.out.keep KK.out (by simp) (by simp))
  replace LD := Hid.mk (LD.out.keep KK.out (by simp) (by simp))
  replace BX := Hid.mk (KK.out.heap BX.out (by simp))
  replace H0 := Hid.mk (H0.out.trans KK.out)
  have S5 : Hid (w8.heap.size ≤ wv.heap.size) := Hid.mk KK.out.size
  clear KK C1 C2
  obtain ⟨g, hg, mt, hg5⟩ := O.out.mt.resolve_left (by decide)
  cases hg
  have o1 := mt.out 0 (by decide)
  have o2 := mt.row 0 (by decide)
  rw [HO.out] at o2
  have kd : Kept [] wv wv.drew := (Kept.refl [] wv).drew
  have ka : Kept [] wv (wv.alloc (.cells #[.int .u8 178, .int .u8 0, .int .u8 128] 5)).drew := ((Kept.refl [] wv).alloc _).drew
  have o3 := str_three wv.drew (bq 0) 178 0 128 { data := #[178, 0, 128] } rfl (o2.keep kd (by simp))
  have o4 := str_three (wv.alloc (.cells #[.int .u8 178, .int .u8 0, .int .u8 128] 5)).drew (bq 0) 178 0 128 { data := #[178, 0, 128] } rfl (o2.keep ka (by simp))
  have o5 := str_three (wv.alloc (.cells #[.int .u8 178, .int .u8 0, .int .u8 128] 5)).drew wv.heap.size 178 0 128 { data := #[178, 0, 128] } rfl (by unfold Row; exact ((Kept.refl [] _).drew).heap (heap_alloc_new _ _) (by simp))
  have KA := Hid.mk ka
  clear mt hg5 o2 kd ka
  go_wp2_with (fail)
  go_cut [126] (fun s wd => s = .bool false ∧ Kept [] wv wd)
  case first =>
    go_region_held_law (fun w' => w'.cell? ⟨gq, 0, none⟩ = some (.slice (some ⟨bq 0, 0, none⟩) 3 3)) (go_keep) (fail)
    all_goals go_wp2
    all_goals go_meet
    all_goals exact ⟨by first | rfl | simp, KA.out⟩
  case rest =>
    obtain ⟨rfl, kd⟩ := hcut
    replace X := Hid.mk (X.out.keep kd)
    replace O := Hid.mk (O.out.keep kd)
    replace Y := Hid.mk (Y.out.keep kd)
    replace W := Hid.mk (W.out.keep kd)
    replace LC := Hid.mk (LC.out.keep kd (by simp) (by simp))
    replace LD := Hid.mk (LD.out.keep kd (by simp) (by simp))
    replace BX := Hid.mk (kd.heap BX.out (by simp))
    replace H0 := Hid.mk (H0.out.trans kd)
    replace S5 : Hid (w8.heap.size ≤ wc.heap.size) := Hid.mk (Nat.le_trans S5.out kd.size)
    clear kd KA o1 o3 o4 o5
    go_wp2_with (fail)
    -- the four come into a book
    have FI := Hid.mk (four_in X.out UX.out O.out UO.out Y.out UY.out W.out UW.out S1.out S2.out S3.out S4.out)
    have B0 : Hid (Bk < w4.heap.size) := Hid.mk (by have := L0.out; have := T1.out; have := U1.out; omega)
    refine (held_any wc Bk 0 (.slice none 0 0) (.slice none 0 0) (fun _ => .slice none 0 0) (fun _ => .slice none 0 0) (fun _ => []) ax N N Q bx F wc (Bks.empty BX.out _ _ _) (by simp [Value.ownBlock]) (by simp [Value.ownBlock]) (Kept.refl _ _) (X.out.hl B0.out) (fun i h => by omega) s1 (by omega) (by omega)).mono ?_
    rintro e wE ⟨rfl, vl1, vw1, V1, hb1, l1, m1, kE⟩
    have B1 := Hid.mk hb1
    have LL1 := Hid.mk l1
    have MM1 := Hid.mk m1
    have KE := Hid.mk kE
    clear hb1 l1 m1 kE BX
    go_wp2_with (fail)
    refine (held_any wc Bk (0 + N) vl1 vw1 _ V1 _ _ 1 1 3 bq FO wE B1.out LL1.out MM1.out KE.out (O.out.hl (by have := B0.out; have := S1.out; omega)) (FI.out.1.apart (fun j hj => O.out.lo j hj)) (by omega) (by omega) (by omega)).mono ?_
    rintro e wF ⟨rfl, vl2, vw2, V2, hb1, l1, m1, kE⟩
    have B2 := Hid.mk hb1
    have LL2 := Hid.mk l1
    have MM2 := Hid.mk m1
    have KF := Hid.mk kE
    clear hb1 l1 m1 kE B1 LL1 MM1 KE
    go_wp2_with (fail)
    refine (held_any wc Bk (0 + N + 1) vl2 vw2 _ V2 _ ay N N Q by' F wF B2.out LL2.out MM2.out KF.out (Y.out.hl (by have := B0.out; have := S1.out; have := S2.out; omega)) (FI.out.2.1.apart (fun j hj => Y.out.lo j hj)) s1 (by omega) (by omega)).mono ?_
    rintro e wG ⟨rfl, vl3, vw3, V3, hb1, l1, m1, kE⟩
    have B3 := Hid.mk hb1
    have LL3 := Hid.mk l1
    have MM3 := Hid.mk m1
    have KG := Hid.mk kE
    clear hb1 l1 m1 kE B2 LL2 MM2 KF
    go_wp2_with (fail)
    refine (held_any wc Bk (0 + N + 1 + N) vl3 vw3 _ V3 _ aw N N Q bw F wG B3.out LL3.out MM3.out KG.out (W.out.hl (by have := B0.out; have := S1.out; have := S2.out; have := S3.out; omega)) (FI.out.2.2.1.apart (fun j hj => W.out.lo j hj)) s1 (by omega) (by omega)).mono ?_
    rintro e wH ⟨rfl, vl4, vw4, V4, hb1, l1, m1, kE⟩
    obtain ⟨gl, cl, gw, cw, hbk⟩ := hb1.done (by omega)
    have B4 := Hid.mk hbk
    have KH := Hid.mk kE
    clear hb1 l1 m1 kE hbk B3 LL3 MM3 KG
    go_wp2_with (fail)
    refine (ends_any Bk gl cl gw cw (0 + N + 1 + N + N) _ V4 _ wH (by omega) (by omega) (lc_len (lc_len (lc_len (lc_len (fun _ => Nat.zero_le _) (by omega)) (by omega)) (by omega)) (by omega)) B4.out).mono ?_
    rintro e wI ⟨rfl, _, kI⟩
    have KI : Hid (Kept (Bk :: blk (v4 N Q 1 3 bx bq by' bw) (0 + N + 1 + N + N)) wc wI) := Hid.mk ((KH.out.mono (fun x hx => .inl (by simp at hx; simp [hx]))).step kI (fun x hx => .inl hx))
    clear kI KH B4
    have nX : Hid (0 < N → ∀ g, ax = some ⟨g, 0, none⟩ → g ∉ Bk :: blk (v4 N Q 1 3 bx bq by' bw) (0 + N + 1 + N + N)) := Hid.mk (fun hp g hg hm => by
      rcases List.mem_cons.1 hm with e | hm
      · have := X.out.ge hp hg; have := B0.out; omega
      · exact (FI.out.2.2.2.2 hp).1.blk hg hm)
    have nY : Hid (0 < N → ∀ g, ay = some ⟨g, 0, none⟩ → g ∉ Bk :: blk (v4 N Q 1 3 bx bq by' bw) (0 + N + 1 + N + N)) := Hid.mk (fun hp g hg hm => by
      rcases List.mem_cons.1 hm with e | hm
      · have := Y.out.ge hp hg; have := B0.out; have := S1.out; have := S2.out; omega
      · exact (FI.out.2.2.2.2 hp).2.1.blk hg hm)
    have nW : Hid (0 < N → ∀ g, aw = some ⟨g, 0, none⟩ → g ∉ Bk :: blk (v4 N Q 1 3 bx bq by' bw) (0 + N + 1 + N + N)) := Hid.mk (fun hp g hg hm => by
      rcases List.mem_cons.1 hm with e | hm
      · have := W.out.ge hp hg; have := B0.out; have := S1.out; have := S2.out; have := S3.out; omega
      · exact (FI.out.2.2.2.2 hp).2.2.blk hg hm)
    go_wp2_with (fail)
    refine (outer_any ax ay N N wI (X.out.wr KI.out nX.out) (Y.out.wr KI.out nY.out) X.out.nil Y.out.nil (fun hp _ g g2 e e2 => by have := UX.out.1 hp g e; have := Y.out.ge hp e2; have := S2.out; omega) s1 s1).mono ?_
    rintro e wJ ⟨rfl, wry, kJ⟩
    have WY := Hid.mk wry
    have KJ := Hid.mk (KI.out.mono (l2 := Bk :: blk (v4 N Q 1 3 bx bq by' bw) (0 + N + 1 + N + N) ++ (bko ax N ++ bko ay N)) (fun x hx => .inl (List.mem_append.2 (.inl hx))) |>.step kJ (fun x hx => .inl (List.mem_append.2 (.inr hx))))
    clear wry kJ KI nX nY
    go_wp2_with (fail)
    refine (outer_any aw ay N N wJ (W.out.wr KJ.out (fun hp g hg hm => by
      rcases List.mem_append.1 hm with hm | hm
      · exact nW.out hp g hg hm
      · have hge := W.out.ge hp hg
        rcases List.mem_append.1 hm with hm | hm
        · have := (bko_in X.out UX.out hm).2.1; have := S2.out; have := S3.out; omega
        · have := (bko_in Y.out UY.out hm).2.1; omega)) WY.out W.out.nil Y.out.nil (fun hp _ g g2 e e2 => by have := W.out.ge hp e; have := UY.out.1 hp g2 e2; omega) s1 s1).mono ?_
    rintro e wK ⟨rfl, _, kK⟩
    have KK : Hid (Kept (Bk :: blk (v4 N Q 1 3 bx bq by' bw) (0 + N + 1 + N + N) ++ (bko ax N ++ bko ay N) ++ (bko aw N ++ bko ay N)) wc wK) := Hid.mk ((KJ.out.mono (fun x hx => .inl (List.mem_append.2 (.inl hx)))).step kK (fun x hx => .inl (List.mem_append.2 (.inr hx))))
    have LO : Hid (∀ x, x ∈ Bk :: blk (v4 N Q 1 3 bx bq by' bw) (0 + N + 1 + N + N) ++ (bko ax N ++ bko ay N) ++ (bko aw N ++ bko ay N) → x = Bk ∨ w4.heap.size ≤ x) := Hid.mk (fun x hx => by
      have t0 := B0.out
      have t1 := S1.out
      have t2 := S2.out
      have t3 := S3.out
      rcases List.mem_append.1 hx with hx | hx
      · rcases List.mem_append.1 hx with hx | hx
        · rcases List.mem_cons.1 hx with e | hx
          · exact .inl e
          · have := (FI.out.2.2.2.1.blk x hx).1; omega
        · rcases List.mem_append.1 hx with hx | hx
          · have := (bko_in X.out UX.out hx).1; omega
          · have := (bko_in Y.out UY.out hx).1; omega
      · rcases List.mem_append.1 hx with hx | hx
        · have := (bko_in W.out UW.out hx).1; omega
        · have := (bko_in Y.out UY.out hx).1; omega)
    clear kK KJ nW WY X Y W O UX UY UW UO FI
    -- what was lent comes back
    replace LC := Hid.mk (LC.out.keep KK.out (fun hm => by have := LO.out _ hm; have := L0.out; have := T1.out; have := U1.out; omega) (fun i hi hm => by have := LO.out _ hm; have := L0.out; have := GC.out i hi; have := T0.out i hi; have := U1.out; omega))
    replace LD := Hid.mk (LD.out.keep KK.out (fun hm => by have := LO.out _ hm; have := L0.out; have := T1.out; have := U1.out; omega) (fun i hi hm => by have := LO.out _ hm; have := L0.out; have := T1.out; have := GD.out i hi; have := U0.out i hi; omega))
    replace H0 := Hid.mk (H0.out.step KK.out (fun x hx => .inr (by have := LO.out x hx; have := SB.out; have := B0.out; omega)))
    clear KK LO
    go_wp2_with (fail)
    refine (given_any w am cm n G1 c1 L wK HL.out Hl.out BL.out WL.out (by omega) (H0.out.below (Nat.le_refl _) (by simp)) LC.out (fun i hi => by have := GC.out i hi; have := L0.out; have := SB.out; omega)).mono ?_
    rintro e wL ⟨rfl, hm, kL⟩
    replace LC := Hid.mk hm
    replace LD := Hid.mk (LD.out.keep kL (fun hm => by
      simp only [List.mem_map, List.mem_range] at hm
      obtain ⟨i, hi, e⟩ := hm
      have := T0.out i (by omega); omega) (fun j hj hm => by
      simp only [List.mem_map, List.mem_range] at hm
      obtain ⟨i, hi, e⟩ := hm
      have := T0.out i (by omega); have := GD.out j hj; omega))
    replace H0 := Hid.mk (H0.out.step kL (fun x hx => by
      simp only [List.mem_map, List.mem_range] at hx
      obtain ⟨i, hi, e⟩ := hx
      right
      have := GC.out i (by omega); have := L0.out; have := SB.out; omega))
    clear hm kL
    go_wp2_with (fail)
    refine (given_any w av cv k G2 c2 K wL HK.out Hk.out BK.out WK.out (by omega) (H0.out.below (Nat.le_refl _) (by simp)) LD.out (fun i hi => by have := GD.out i hi; have := L0.out; have := T1.out; have := SB.out; omega)).mono ?_
    rintro e wM ⟨rfl, hm, kM⟩
    replace LD := Hid.mk hm
    replace LC := Hid.mk (LC.out.keep kM (fun hm => by
      simp only [List.mem_map, List.mem_range] at hm
      obtain ⟨i, hi, e⟩ := hm
      have := GD.out i (by omega); have := T1.out; omega) (fun j hj hm => by
      simp only [List.mem_map, List.mem_range] at hm
      obtain ⟨i, hi, e⟩ := hm
      have := GD.out i (by omega); have := T0.out j hj; omega))
    replace H0 := Hid.mk (H0.out.step kM (fun x hx => by
      simp only [List.mem_map, List.mem_range] at hx
      obtain ⟨i, hi, e⟩ := hx
      right
      have := GD.out i (by omega); have := T1.out; have := L0.out; have := SB.out; omega))
    clear hm kM
    go_wp2_with (fail)
    refine (D2.out wM _ _ _ _ (LC.out.reads2 Hl.out) (LD.out.reads2 Hk.out)).mono ?_
    rintro e wN ⟨an2, cn2, rfl, mn, kN⟩
    have WN := Hid.mk mn
    replace LC := Hid.mk (LC.out.keep kN (by simp) (by simp))
    replace LD := Hid.mk (LD.out.keep kN (by simp) (by simp))
    replace H0 := Hid.mk (H0.out.trans kN)
    clear mn kN
    go_wp2_with (fail)
    refine (D1.out wN _ _ _ _ (LC.out.reads2 Hl.out) (LD.out.reads2 Hk.out)).mono ?_
    rintro e wO ⟨az, bz, rfl, mz, kO⟩
    have Z := Hid.mk mz
    replace WN := Hid.mk (WN.out.keep kO)
    replace H0 := Hid.mk (H0.out.trans kO)
    clear mz kO LC LD
    go_wp2_with (fail)
    refine (same_any _ _ _ _ N2 _ wO Z.out.reads WN.out (mf_length _ _ _) (by omega)).mono ?_
    rintro e wP ⟨rfl, hqP⟩
    replace H0 := Hid.mk (H0.out.trans (Qt.kept hqP []))
    clear hqP Z WN
    go_wp2
    go_ret
    exact ⟨rfl, H0.out⟩
end Go.Proofs.Ytjnmnkheichflab
