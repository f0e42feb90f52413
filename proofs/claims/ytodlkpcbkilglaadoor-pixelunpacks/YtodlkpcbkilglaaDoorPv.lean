import Derived.Test.YtodlkpcbkilglaaDoorPp
namespace Go.Proofs.YtodlkpcbkilglaaDoor
open Go.RowKit Go.Shelf
attribute [local go_sem] Oper.semAt_some

set_option maxHeartbeats 16000000 in
set_option maxRecDepth 1000000 in
theorem pack_v210 (W D : Int) (A : Bool) (po : Option Addr) (n c h : Nat) (ln pb pf pc : Nat → Nat) (F : Nat → Nat → Nat) (w : World) (hV : Vld W (h : Int) D A n ln F) (hD : D = 10) (hA : A = false) (hT : Tab w)
    (hP : Pq w po n ln pb pf pc) (hR : ∀ i, i < n → Rd w (some ⟨pb i, pf i, none⟩) (ln i) (F i)) (hpc : ∀ i, i < n → ln i ≤ pc i) :
    Calls Tryd.prog 42 #[fmv 66 67 68 69 70, frv W (h : Int) D A po n c] w fun e w' => ∃ G M, e = .returned (.tuple #[.slice (some ⟨G, 0, none⟩) M M, .int .i64 0]) ∧ w.heap.size ≤ G ∧ M = ctL (v2L W) (1 * h) ∧
      w'.ownsRow 0 5 1 (.slice (some ⟨G, 0, none⟩) M M) M (ctB (v2L W) (v2R W F) (1 * h)) ∧ Kept [] w w' := by
  have hs := hV.shp
  have h1 : 1 ≤ h := by have := hs.2.1; omega
  have h2 : h ≤ 4096 := by have := hs.2.1; omega
  have hn := hV.num
  have hn4 : n ≤ 4 := by rw [hn]; exact np_hi A
  have hn3 : 3 ≤ n := by rw [hn]; exact np_lo A
  have hln : ∀ i, i < n → ln i = wdN W i * h ∧ 1 ≤ wdN W i ∧ wdN W i ≤ 4096 := fun i hi => by
    obtain ⟨a, b, e⟩ := wdN_ok hs i
    refine ⟨?_, a, b⟩
    have := hV.len i hi
    rw [← e, ← Int.natCast_mul] at this
    omega
  have hlb : ∀ i, i < n → ln i ≤ 16777216 := fun i hi => by
    obtain ⟨a, b, e⟩ := hln i hi
    rw [a]
    exact Nat.le_trans (Nat.mul_le_mul e h2) (by decide)
  have hPl : Pl w po n ln F := by
    obtain ⟨g, off, e, hc⟩ := hP
    exact .inr ⟨g, off, e, fun i hi => ⟨_, _, hc i hi, hR i hi⟩⟩
  have CV := Hid.mk (fun (u : World) (hk : Kept [] w u) => valid_any W (h : Int) D A po n c ln F u (hPl.keep hk) (by omega) (fun i hi => by have := hlb i hi; omega))
  rw [vE_zero.2 hV] at CV
  have CZ := Hid.mk (fun u => sizeV W (h : Int) D A u)
  have CR := Hid.mk (fun u => rows_any 66 67 68 69 70 W (h : Int) D A po n c u)
  rw [shE_ok hs] at CZ
  obtain ⟨M, eM⟩ : ∃ M, M = ctL (v2L W) (1 * h) := ⟨_, rfl⟩
  have hMs : sS W (h : Int) (fun x => (x + 47) / 48 * 128) (fun _ => 0) 1 = (M : Int) := by
    rw [eM]
    exact (ctL_sS (v2L W) (fun _ => 4 * ((wdN W 0 + 47) / 48 * 32)) W h (fun x => (x + 47) / 48 * 128) (fun _ => 0) h1 (fun k => rfl) _ (fun i _ => by show 4 * ((wdN W 0 + 47) / 48 * 32) = (wdN W 0 + 47) / 48 * 128; omega)).symm
  rw [show (decide (D = 10) && !A) = true by rw [hD, hA]; rfl] at CZ
  simp only [and_self, if_true, hMs] at CZ
  have hM : M ≤ 200000000 := by
    have := (sS_lo (W := W) (H := (h : Int)) (fun x => (x + 47) / 48 * 128) (fun _ => 0) (by omega) (by omega) (fun k => by have := wdN_ok hs (id k); unfold wdN at this; show ((wp W ((0 : Nat) : Int)).toNat + 47) / 48 * 128 ≤ 12000; have := wdN_ok hs 0; unfold wdN at this; omega) (1)).2
    rw [hMs] at this
    have h9 := np_hi A
    omega
  have HDA := Hid.mk (And.intro hD (And.intro hA hT))
  clear hD hA hT
  have HS := Hid.mk (And.intro hP (And.intro hR (And.intro hpc (And.intro hV (And.intro hln (And.intro eM hn))))))
  obtain ⟨j0, gi, gz0, gz1, gz2⟩ := info_parts Bt.Tryd.info5
  have hmk := fun u : World => run_make_own (P := Tryd.prog) u 0 37 5 j0 (.int .u8 0) 1 Tryd.underlying37 gi gz0 gz1 .i64 .i64 M (by rw [gz2]; omega) (by unfold maxLen; omega) (Nat.zero_le _)
  obtain ⟨mkW, hmkW⟩ := Classical.axiomOfChoice hmk
  have hmk1 := fun u => (hmkW u).1
  have HMK := Hid.mk (fun u => (hmkW u).2)
  clear hmk hmkW hP hR hpc hV hln hlb hPl eM hn hMs hs
  refine (callsIn_wide (n := 0)).1 ?_
  refine callsIn_of_wp_marks Tryd.func42 rfl trivial ?_ rfl
  simp only [Tryd.ntmps42, List.size_toArray, List.length_cons, List.length_nil, Nat.reduceAdd, Nat.reduceSub, Array.replicate_succ, Array.replicate_zero, List.push_toArray, List.append_toArray, List.nil_append, List.cons_append]
  refine wpIn_wide.2 ?_
  have KA := (alloc_kept w (.cells #[fnv 66, fnv 67, fnv 68, fnv 69, fnv 70] 65)).trans (alloc_kept _ (.cells #[.int .i64 W, .int .i64 (h : Int), .int .i64 D, .bool A, .slice po n c] 31))
  go_wp2_with (fail)
  refine (CV.out _ KA).mono ?_
  rintro e w2 ⟨rfl, hk2⟩
  have hA1 := hk2.heap ((alloc_kept (w.alloc (.cells #[fnv 66, fnv 67, fnv 68, fnv 69, fnv 70] 65)) (.cells #[.int .i64 W, .int .i64 (h : Int), .int .i64 D, .bool A, .slice po n c] 31)).heap (heap_alloc_new w (.cells #[fnv 66, fnv 67, fnv 68, fnv 69, fnv 70] 65)) (by simp)) (by simp)
  have hA2 := hk2.heap (heap_alloc_new (w.alloc (.cells #[fnv 66, fnv 67, fnv 68, fnv 69, fnv 70] 65)) (.cells #[.int .i64 W, .int .i64 (h : Int), .int .i64 D, .bool A, .slice po n c] 31)) (by simp)
  have K2 := KA.trans hk2
  rw [World.size_alloc] at hA2
  obtain ⟨B, eB⟩ : ∃ B, B = w.heap.size := ⟨_, rfl⟩
  rw [← eB] at hA1 hA2 ⊢
  have EB := Hid.mk eB
  obtain ⟨⟨p0, p1, p2, p3, p4⟩, _⟩ := five hA1
  obtain ⟨⟨d0, d1, d2, d3, d4⟩, _⟩ := five hA2
  have HA := Hid.mk (And.intro hA1 (And.intro hA2 K2))
  clear hk2 KA hA1 hA2 K2 eB CV
  go_wp2_with (fail)
  refine (CZ.out _).mono ?_
  rintro e w3 ⟨rfl, hk3⟩
  obtain ⟨hA1, hA2, K2⟩ := HA.out
  have hA1 := hk3.heap hA1 (by simp)
  have hA2 := hk3.heap hA2 (by simp)
  have K3 := K2.trans hk3
  obtain ⟨m1, m2⟩ := HMK.out w3
  have hmk2 := hmk1 w3
  obtain ⟨wm, ewm⟩ : ∃ wm, wm = mkW w3 := ⟨_, rfl⟩
  rw [← ewm] at m1 m2 hmk2
  have km : Kept [] w3 wm := (Kept.of_grown m2).mono (by simp)
  have hA1 := km.heap hA1 (by simp)
  have hA2 := km.heap hA2 (by simp)
  have K3 := K3.trans km
  obtain ⟨G, eG⟩ : ∃ G, G = w3.heap.size := ⟨_, rfl⟩
  rw [← eG] at m1 hmk2
  have hGB : B + 1 < w3.heap.size := Nat.lt_of_lt_of_le (lt_of_block HA.out.2.1) hk3.size
  rw [← eG] at hGB
  have hGw : G < wm.heap.size := (m1.lt _ rfl).2
  clear p0 p1 p2 p3 p4 d0 d1 d2 d3 d4 hk3 m2 hmk1 HMK ewm HA K2 km eG CZ
  have hO := heap_alloc_new wm (.cells #[.slice (some ⟨G, 0, none⟩) 0 M] 37)
  have ka := alloc_kept wm (.cells #[.slice (some ⟨G, 0, none⟩) 0 M] 37)
  obtain ⟨wo, ewo⟩ : ∃ wo, wm.alloc (.cells #[.slice (some ⟨G, 0, none⟩) 0 M] 37) = wo := ⟨_, rfl⟩
  rw [ewo] at hO ka
  have hA1 := ka.heap hA1 (by simp)
  have hA2 := ka.heap hA2 (by simp)
  have K3 := K3.trans ka
  have m1 := ka.row m1 (by simp)
  obtain ⟨Ob, eOb⟩ : ∃ Ob, Ob = wm.heap.size := ⟨_, rfl⟩
  rw [← eOb] at hO hGw
  have hOw : Ob < wo.heap.size := lt_of_block hO
  obtain ⟨⟨p0, p1, p2, p3, p4⟩, _⟩ := five hA1
  obtain ⟨⟨d0, d1, d2, d3, d4⟩, _⟩ := five hA2
  have HA := Hid.mk (And.intro hA1 (And.intro hA2 (And.intro K3 (And.intro m1 (And.intro hO (And.intro hGB (And.intro hGw hOw)))))))
  have HOb := Hid.mk eOb
  clear hA1 hA2 K3 m1 hGB hGw hO ka eOb hOw
  go_wp2_with (fail)
  rw [← HOb.out]
  refine (CR.out _).mono ?_
  rintro e w5 ⟨rfl, h5⟩
  have H5 := Hid.mk h5
  clear h5
  go_wp2_with (fail)
  have h5 := H5.out
  clear H5
  have kA := (alloc_kept wo (.cells #[fnv 66, fnv 67, fnv 68, fnv 69, fnv 70] 65)).trans (alloc_kept _ (.cells #[.int .i64 W, .int .i64 (h : Int), .int .i64 D, .bool A, .slice po n c] 31))
  have hC1 := (alloc_kept (wo.alloc (.cells #[fnv 66, fnv 67, fnv 68, fnv 69, fnv 70] 65)) (.cells #[.int .i64 W, .int .i64 (h : Int), .int .i64 D, .bool A, .slice po n c] 31)).heap (heap_alloc_new wo (.cells #[fnv 66, fnv 67, fnv 68, fnv 69, fnv 70] 65)) (by simp)
  have hC2 := heap_alloc_new (wo.alloc (.cells #[fnv 66, fnv 67, fnv 68, fnv 69, fnv 70] 65)) (.cells #[.int .i64 W, .int .i64 (h : Int), .int .i64 D, .bool A, .slice po n c] 31)
  rw [World.size_alloc, ← h5] at hC2
  rw [← h5] at kA hC1
  obtain ⟨hA1, hA2, K3, m1, hO, hGB, hGO, hOw⟩ := HA.out
  obtain ⟨hP, hR, hpc, hV, hln, eM, hn⟩ := HS.out
  obtain ⟨Bk, eBk⟩ : ∃ Bk, Bk = wo.heap.size := ⟨_, rfl⟩
  rw [← eBk] at hC1 hC2 hOw ⊢
  have hC3 := lt_of_block hC2
  have RIO : Rio w5 Bk (Bk + 1) 66 67 68 69 70 W h D A po n c ln pb pf pc := by
    obtain ⟨⟨c0, c1, c2, c3, c4⟩, _⟩ := five hC1
    obtain ⟨⟨e0, e1, e2, e3, e4⟩, _⟩ := five hC2
    exact ⟨c0, c1, c2, c3, c4, ⟨e0, e1, e2, e3, e4⟩, hP.keep (K3.trans kA)⟩
  have hPO : ∀ g off, po = some ⟨g, off, none⟩ → g < w.heap.size := fun g off e => by
    obtain ⟨g', off', e', hc⟩ := hP
    rw [e] at e'
    cases e'
    exact World.block_lt_of_cell? w _ (hc 0 (by omega))
  have p3' := cell_keep kA p3 (by simp)
  have hBw := EB.out
  have m5 := kA.row m1 (by simp)
  have hO5 := kA.heap hO (by simp)
  have K5 := K3.trans kA
  have hMe := eM
  have HEQ := Hid.mk (And.intro hn (And.intro hMe hBw))
  clear p0 p1 p2 p3 p4 d0 d1 d2 d3 d4 h5 kA hC1 hC2 hA1 hA2 K3 m1 hO CR HA HOb ewo eBk eM
  refine range_lawV (gf := 93) (lb := #[.pointer (some ⟨Bk, 0, none⟩), .pointer (some ⟨Bk + 1, 0, none⟩)]) ?hg (enters_of Tryd.func93 (by kernel_rfl) rfl)
    (fun k W' => Kept [Ob, G] w5 W' ∧ w5.heap.size + 1 < W'.heap.size ∧ W'.heap[Ob]? = some (.cells #[.slice (some ⟨G, 0, none⟩) (ctL (v2L W) k) M] 37 (0, 0)) ∧ W'.ownsRow 0 5 1 (.slice (some ⟨G, 0, none⟩) (ctL (v2L W) k) M) (ctL (v2L W) k) (ctB (v2L W) (v2R W F) k))
    (1 * h) (fun k W' v => Yv W' 3 pb pf pc (wdN W) (fun j => j) (k % h) v) ?hps ?put ?kept ?start ?iter ?body ?done
  case hg => rfl
  case hps =>
    rintro k W' v ⟨g, rfl, _⟩
    rfl
  case put =>
    rintro k W' o ⟨a1, a2, a3, a4⟩
    have ks : Kept [w5.heap.size + 1] W' (W'.putObj (w5.heap.size + 1) o) := (Kept.refl _ W').putObj o (.inl (by simp))
    exact ⟨a1.step ks (fun x hx => by simp at hx; right; omega), by rw [World.putObj_size]; exact a2, ks.heap a3 (by simp; omega), ks.row a4 (fun g hg => by cases hg; simp; omega)⟩
  case kept =>
    rintro k W1 W2 ⟨a1, a2, a3, a4⟩ hk
    exact ⟨a1.step hk (by simp), Nat.lt_of_lt_of_le a2 hk.size, hk.heap a3 (by simp), hk.row a4 (by simp)⟩
  case start =>
    intro W1 hk1 hs1
    exact ⟨hk1.mono (by simp), by omega, hk1.heap hO5 (by simp), hk1.row m5 (by simp)⟩
  case iter =>
    intro J hJI hJK hJY W1 hJ0 ht
    refine iter_v210 (w5.heap.size + 1) Bk (Bk + 1) W D A po n c h ln pb pf pc (wdN W) hn h1 h2 hln hpc J (w5.heap.size + 2) (fun k W' hJ => RIO.keeps (hJI k W' hJ).1 (by simp; omega) (by simp; omega) (fun g off e => by have := hPO g off e; simp; omega)) hJK (fun k W' i y v hJ hk hi hy hv => hJY k W' v hJ ?_ ?_) W1 hJ0 ht
    · rw [hk]
      have : (i + 1) * h ≤ 1 * h := Nat.mul_le_mul_right _ hi
      rw [Nat.add_mul] at this
      omega
    · have q1 : k / h = i := by rw [hk, Nat.add_comm, Nat.add_mul_div_right _ _ (by omega), Nat.div_eq_of_lt hy]; omega
      have q2 : k % h = y := by rw [hk, Nat.add_comm, Nat.add_mul_mod_self_right, Nat.mod_eq_of_lt hy]
      show Yv W' 3 pb pf pc (wdN W) (fun j => j) (k % h) v
      first | (rw [q1, q2]; exact hv) | (rw [q2]; exact hv)
  case body =>
    rintro k v W' r hv hkn ⟨a1, a2, a3, a4⟩ hl
    clear hn hMe hBw
    obtain ⟨g, rfl, hrw⟩ := hv
    gi_wp2
    refine ⟨Kept.refl _ _, fun Wb hWb => ?_⟩
    obtain ⟨rb, hWb⟩ := hWb
    obtain ⟨hn, hMe, hBw⟩ := HEQ.out
    have ks : Kept [w5.heap.size + 1] W' Wb := by rw [hWb]; exact (Kept.refl _ W').putObj _ (.inl (by simp))
    have hgl : g ≠ w5.heap.size + 1 := fun e => by rw [← e] at hl; unfold Rwl at hrw; rw [hrw] at hl; cases hl
    have b1 := hrw.keep ks (by simp; omega)
    have b2 : Kept [Ob, G] w5 Wb := a1.step ks (fun x hx => by simp at hx; right; omega)
    have b3 := ks.heap a3 (by simp; omega)
    have b4 := ks.row a4 (fun g hg => by cases hg; simp; omega)
    have b5 : w5.heap.size + 1 < Wb.heap.size := Nat.lt_of_lt_of_le a2 ks.size
    have b6 : Kept [] w Wb := K5.step b2 (fun x hx => by right; simp at hx; omega)
    clear hrw a1 a2 a3 a4 hl hWb ks
    obtain ⟨y, ey⟩ : ∃ y, y = k % h := ⟨_, rfl⟩
    have hy : y < h := by rw [ey]; exact Nat.mod_lt _ (by omega)
    obtain ⟨hD, hA, hT⟩ := HDA.out
    have hk1 : k < h := by omega
    have hkm : k % h = k := Nat.mod_eq_of_lt hk1
    rw [← ey] at b1
    have eyk : y = k := by rw [ey, hkm]
    have h4p : ∀ p, p < 3 → p < n := fun p hp => by omega
    have hyl : ∀ p, p < 3 → y * wdN W p + wdN W p ≤ ln p := fun p hp => by
      have : (y + 1) * wdN W p ≤ h * wdN W p := Nat.mul_le_mul_right _ (by omega)
      rw [Nat.add_mul, Nat.one_mul, Nat.mul_comm h] at this
      have := (hln p (h4p p hp)).1
      omega
    have CWR : Hid (∀ u : World, Kept [] Wb u → Calls Tryd.prog 69 #[.slice (some ⟨g, 0, none⟩) 3 3] u fun e w' => ∃ g2 c1, e = .returned (.slice (some ⟨g2, 0, none⟩) (v2L W k) c1) ∧ u.heap.size ≤ g2 ∧ Cb w' g2 (v2L W k) (v2R W F k) ∧ Kept [] u w') := Hid.mk (fun u hk => by
      refine (writeV g 3 (fun p => some ⟨pb p, pf p + y * wdN W p, none⟩) (wdN W) (fun p => pc p - y * wdN W p) (fun p x => F p (y * wdN W p + x)) u ((wdN W 0 + 47) / 48 * 32) rfl (fun p hp => cell_keep hk (b1.at hp) (by simp)) (fun p hp => ((hR p (h4p p hp)).keep (b6.trans hk)).shift (hyl p hp)) (fun p x hp hx => ?_) (fun p hp => (hln p (h4p p hp)).2.2) (hT.keep (b6.trans hk) (by simp))).mono ?_
      · have h5 := hV.top p (h4p p hp) (y * wdN W p + x) (by have := hyl p hp; omega)
        have h6 : mx D = 1023 := by rw [hD]; rfl
        rw [h6] at h5
        show F p (y * wdN W p + x) < 1024
        omega
      · rintro e w' ⟨g2, c1, rfl, z1, z2, z3⟩
        refine ⟨g2, c1, rfl, z1, ?_, z3⟩
        refine z2.congr (fun t ht => ?_)
        unfold v2R
        rw [eyk])
    clear hD hA hT
    have b7 := cell_keep b2 p3' (by simp; omega)
    have b8 := one_cell b3
    have b9 : Wb.frozen? ⟨Ob, 0, none⟩ = false := by simp [World.frozen?, b3]
    have hsum : ctL (v2L W) k + (v2L W) k ≤ M := by
      rw [hMe]
      have := ctL_mono (v2L W) (show k + 1 ≤ 1 * h from hkn)
      rwa [ctL] at this
    obtain ⟨L0, eL0⟩ : ∃ L0, L0 = ctL (v2L W) k := ⟨_, rfl⟩
    obtain ⟨r0, er0⟩ : ∃ r0, r0 = (v2L W) k := ⟨_, rfl⟩
    have hXS : ctB (v2L W) (v2R W F) (k + 1) = ctB (v2L W) (v2R W F) k ++ fl (fun t => .int .u8 ((v2R W F) k t : Int)) ((v2L W) k) := rfl
    have hLS : ctL (v2L W) (k + 1) = ctL (v2L W) k + (v2L W) k := rfl
    obtain ⟨xs, exs⟩ : ∃ xs, xs = ctB (v2L W) (v2R W F) k := ⟨_, rfl⟩
    rw [← eL0, ← er0] at hsum hLS
    rw [← er0, ← exs] at hXS
    rw [← eL0, ← exs] at b4
    rw [← eL0] at b3 b8
    rw [← er0] at CWR
    have HB := Hid.mk (And.intro b2 (And.intro b3 (And.intro b4 (And.intro b5 (And.intro b6 (And.intro hsum (And.intro hXS hLS)))))))
    clear b1 b2 b3 b4 b5 b6 hsum hXS hLS eL0 er0 exs hMe hn hBw
    have hmix : Tryd.prog.follows .mixedOrders = true := by kernel_rfl
    gi_wp2
    refine wpIn_region_any (by assumption) ?_
    try (change wpAnyIn _ _ _ _ _ _ _ _ _ (World.drew _))
    refine wpAnyIn_ready (rs := [0, 1, 3]) (by kernel_rfl) (by simp) ?_
    refine AllReadyIn.cons rfl (fun K9 hK9 => ?_) ?_
    · go_simp
      refine hK9 _ _ ?_
      clear hK9 K9
      refine wpAnyIn_ready (rs := [1, 3]) (by kernel_rfl) (by simp) ?_
      refine AllReadyIn.cons rfl (fun K9 hK9 => ?_) ?_
      · go_simp
        refine hK9 _ _ ?_
        clear hK9 K9
        refine wpAnyIn_ready (rs := [2, 3]) (by kernel_rfl) (by simp) ?_
        refine AllReadyIn.cons rfl (fun K9 hK9 => ?_) ?_
        · go_simp
          refine hK9 _ _ ?_
          clear hK9 K9
          refine wpAnyIn_ready (rs := [3]) (by kernel_rfl) (by simp) ?_
          refine AllReadyIn.cons rfl (fun K9 hK9 => ?_) AllReadyIn.nil
          go_simp
          refine hK9 _ _ ?_
          clear hK9 K9
          refine wpAnyIn_ready (rs := [4]) (by kernel_rfl) (by simp) ?_
          refine AllReadyIn.cons rfl (fun K9 hK9 => ?_) AllReadyIn.nil
          go_simp
          refine ⟨trivial, rfl, ?_⟩
          refine (CallsIn.inRound _ (callsIn_wide.2 (CWR.out _ ((Kept.refl [] Wb).drew)))).mono ?_
          rintro e V3 ⟨g2, c1, rfl, hg2, hcb, hk3⟩
          have hk4 := hk3.undrew
          have d1 := cell_keep hk4 b8 (by simp)
          have d2 := cell_keep hk4 b7 (by simp)
          obtain ⟨V4, happ, hown4, hk5⟩ := app_room V3 G L0 M r0 c1 g2 xs _ (hk4.row HB.out.2.2.1 (by simp)) hcb HB.out.2.2.2.2.2.1
          have o4 := hk5.heap (hk4.heap HB.out.2.1 (by simp)) (by simp; omega)
          have d3 := one_cell o4
          have d4 : V4.frozen? ⟨Ob, 0, none⟩ = false := by simp [World.frozen?, o4]
          show K9 _ _
          refine hK9 _ _ ?_
          clear hK9 K9
          try simp only [Act.put, List.getElem_toArray, List.getElem_cons_zero, List.getElem_cons_succ, List.setIfInBounds_toArray, List.set_cons_zero, List.set_cons_succ]
          refine wpAnyIn_ready (rs := [5]) (by kernel_rfl) (by simp) ?_
          refine AllReadyIn.cons rfl (fun K9 hK9 => ?_) AllReadyIn.nil
          refine step_appIn rfl _ _ 37 rfl _ _ _ _ rfl rfl happ ?_
          refine hK9 _ _ ?_
          clear hK9 K9
          simp only [Act.put, List.getElem_toArray, List.getElem_cons_zero, List.getElem_cons_succ, List.setIfInBounds_toArray, List.set_cons_zero, List.set_cons_succ]
          refine wpAnyIn_ready (rs := [6]) (by kernel_rfl) (by simp) ?_
          refine AllReadyIn.cons rfl (fun K9 hK9 => ?_) AllReadyIn.nil
          go_simp
          refine hK9 _ _ ?_
          clear hK9 K9
          refine wpAnyIn_done (by kernel_rfl) ?_ _
          gi_wp2
          exact fin_pk HB.out.1 HB.out.2.1 HB.out.2.2.2.1 hk4 hk5 o4 hown4 hOw hGO hC3 trivial HB.out.2.2.2.2.2.2.1 HB.out.2.2.2.2.2.2.2
        refine AllReadyIn.cons rfl (fun K9 hK9 => ?_) AllReadyIn.nil
        go_simp
        refine hK9 _ _ ?_
        clear hK9 K9
        refine wpAnyIn_ready (rs := [2]) (by kernel_rfl) (by simp) ?_
        refine AllReadyIn.cons rfl (fun K9 hK9 => ?_) AllReadyIn.nil
        go_simp
        refine hK9 _ _ ?_
        clear hK9 K9
        refine wpAnyIn_ready (rs := [4]) (by kernel_rfl) (by simp) ?_
        refine AllReadyIn.cons rfl (fun K9 hK9 => ?_) AllReadyIn.nil
        go_simp
        refine ⟨trivial, rfl, ?_⟩
        refine (CallsIn.inRound _ (callsIn_wide.2 (CWR.out _ ((Kept.refl [] Wb).drew)))).mono ?_
        rintro e V3 ⟨g2, c1, rfl, hg2, hcb, hk3⟩
        have hk4 := hk3.undrew
        have d1 := cell_keep hk4 b8 (by simp)
        have d2 := cell_keep hk4 b7 (by simp)
        obtain ⟨V4, happ, hown4, hk5⟩ := app_room V3 G L0 M r0 c1 g2 xs _ (hk4.row HB.out.2.2.1 (by simp)) hcb HB.out.2.2.2.2.2.1
        have o4 := hk5.heap (hk4.heap HB.out.2.1 (by simp)) (by simp; omega)
        have d3 := one_cell o4
        have d4 : V4.frozen? ⟨Ob, 0, none⟩ = false := by simp [World.frozen?, o4]
        show K9 _ _
        refine hK9 _ _ ?_
        clear hK9 K9
        try simp only [Act.put, List.getElem_toArray, List.getElem_cons_zero, List.getElem_cons_succ, List.setIfInBounds_toArray, List.set_cons_zero, List.set_cons_succ]
        refine wpAnyIn_ready (rs := [5]) (by kernel_rfl) (by simp) ?_
        refine AllReadyIn.cons rfl (fun K9 hK9 => ?_) AllReadyIn.nil
        refine step_appIn rfl _ _ 37 rfl _ _ _ _ rfl rfl happ ?_
        refine hK9 _ _ ?_
        clear hK9 K9
        simp only [Act.put, List.getElem_toArray, List.getElem_cons_zero, List.getElem_cons_succ, List.setIfInBounds_toArray, List.set_cons_zero, List.set_cons_succ]
        refine wpAnyIn_ready (rs := [6]) (by kernel_rfl) (by simp) ?_
        refine AllReadyIn.cons rfl (fun K9 hK9 => ?_) AllReadyIn.nil
        go_simp
        refine hK9 _ _ ?_
        clear hK9 K9
        refine wpAnyIn_done (by kernel_rfl) ?_ _
        gi_wp2
        exact fin_pk HB.out.1 HB.out.2.1 HB.out.2.2.2.1 hk4 hk5 o4 hown4 hOw hGO hC3 trivial HB.out.2.2.2.2.2.2.1 HB.out.2.2.2.2.2.2.2
      refine AllReadyIn.cons rfl (fun K9 hK9 => ?_) AllReadyIn.nil
      go_simp
      refine hK9 _ _ ?_
      clear hK9 K9
      refine wpAnyIn_ready (rs := [1]) (by kernel_rfl) (by simp) ?_
      refine AllReadyIn.cons rfl (fun K9 hK9 => ?_) AllReadyIn.nil
      go_simp
      refine hK9 _ _ ?_
      clear hK9 K9
      refine wpAnyIn_ready (rs := [2]) (by kernel_rfl) (by simp) ?_
      refine AllReadyIn.cons rfl (fun K9 hK9 => ?_) AllReadyIn.nil
      go_simp
      refine hK9 _ _ ?_
      clear hK9 K9
      refine wpAnyIn_ready (rs := [4]) (by kernel_rfl) (by simp) ?_
      refine AllReadyIn.cons rfl (fun K9 hK9 => ?_) AllReadyIn.nil
      go_simp
      refine ⟨trivial, rfl, ?_⟩
      refine (CallsIn.inRound _ (callsIn_wide.2 (CWR.out _ ((Kept.refl [] Wb).drew)))).mono ?_
      rintro e V3 ⟨g2, c1, rfl, hg2, hcb, hk3⟩
      have hk4 := hk3.undrew
      have d1 := cell_keep hk4 b8 (by simp)
      have d2 := cell_keep hk4 b7 (by simp)
      obtain ⟨V4, happ, hown4, hk5⟩ := app_room V3 G L0 M r0 c1 g2 xs _ (hk4.row HB.out.2.2.1 (by simp)) hcb HB.out.2.2.2.2.2.1
      have o4 := hk5.heap (hk4.heap HB.out.2.1 (by simp)) (by simp; omega)
      have d3 := one_cell o4
      have d4 : V4.frozen? ⟨Ob, 0, none⟩ = false := by simp [World.frozen?, o4]
      show K9 _ _
      refine hK9 _ _ ?_
      clear hK9 K9
      try simp only [Act.put, List.getElem_toArray, List.getElem_cons_zero, List.getElem_cons_succ, List.setIfInBounds_toArray, List.set_cons_zero, List.set_cons_succ]
      refine wpAnyIn_ready (rs := [5]) (by kernel_rfl) (by simp) ?_
      refine AllReadyIn.cons rfl (fun K9 hK9 => ?_) AllReadyIn.nil
      refine step_appIn rfl _ _ 37 rfl _ _ _ _ rfl rfl happ ?_
      refine hK9 _ _ ?_
      clear hK9 K9
      simp only [Act.put, List.getElem_toArray, List.getElem_cons_zero, List.getElem_cons_succ, List.setIfInBounds_toArray, List.set_cons_zero, List.set_cons_succ]
      refine wpAnyIn_ready (rs := [6]) (by kernel_rfl) (by simp) ?_
      refine AllReadyIn.cons rfl (fun K9 hK9 => ?_) AllReadyIn.nil
      go_simp
      refine hK9 _ _ ?_
      clear hK9 K9
      refine wpAnyIn_done (by kernel_rfl) ?_ _
      gi_wp2
      exact fin_pk HB.out.1 HB.out.2.1 HB.out.2.2.2.1 hk4 hk5 o4 hown4 hOw hGO hC3 trivial HB.out.2.2.2.2.2.2.1 HB.out.2.2.2.2.2.2.2
    refine AllReadyIn.cons rfl (fun K9 hK9 => ?_) ?_
    · go_simp
      refine hK9 _ _ ?_
      clear hK9 K9
      refine wpAnyIn_ready (rs := [0, 2, 3]) (by kernel_rfl) (by simp) ?_
      refine AllReadyIn.cons rfl (fun K9 hK9 => ?_) ?_
      · go_simp
        refine hK9 _ _ ?_
        clear hK9 K9
        refine wpAnyIn_ready (rs := [2, 3]) (by kernel_rfl) (by simp) ?_
        refine AllReadyIn.cons rfl (fun K9 hK9 => ?_) ?_
        · go_simp
          refine hK9 _ _ ?_
          clear hK9 K9
          refine wpAnyIn_ready (rs := [3]) (by kernel_rfl) (by simp) ?_
          refine AllReadyIn.cons rfl (fun K9 hK9 => ?_) AllReadyIn.nil
          go_simp
          refine hK9 _ _ ?_
          clear hK9 K9
          refine wpAnyIn_ready (rs := [4]) (by kernel_rfl) (by simp) ?_
          refine AllReadyIn.cons rfl (fun K9 hK9 => ?_) AllReadyIn.nil
          go_simp
          refine ⟨trivial, rfl, ?_⟩
          refine (CallsIn.inRound _ (callsIn_wide.2 (CWR.out _ ((Kept.refl [] Wb).drew)))).mono ?_
          rintro e V3 ⟨g2, c1, rfl, hg2, hcb, hk3⟩
          have hk4 := hk3.undrew
          have d1 := cell_keep hk4 b8 (by simp)
          have d2 := cell_keep hk4 b7 (by simp)
          obtain ⟨V4, happ, hown4, hk5⟩ := app_room V3 G L0 M r0 c1 g2 xs _ (hk4.row HB.out.2.2.1 (by simp)) hcb HB.out.2.2.2.2.2.1
          have o4 := hk5.heap (hk4.heap HB.out.2.1 (by simp)) (by simp; omega)
          have d3 := one_cell o4
          have d4 : V4.frozen? ⟨Ob, 0, none⟩ = false := by simp [World.frozen?, o4]
          show K9 _ _
          refine hK9 _ _ ?_
          clear hK9 K9
          try simp only [Act.put, List.getElem_toArray, List.getElem_cons_zero, List.getElem_cons_succ, List.setIfInBounds_toArray, List.set_cons_zero, List.set_cons_succ]
          refine wpAnyIn_ready (rs := [5]) (by kernel_rfl) (by simp) ?_
          refine AllReadyIn.cons rfl (fun K9 hK9 => ?_) AllReadyIn.nil
          refine step_appIn rfl _ _ 37 rfl _ _ _ _ rfl rfl happ ?_
          refine hK9 _ _ ?_
          clear hK9 K9
          simp only [Act.put, List.getElem_toArray, List.getElem_cons_zero, List.getElem_cons_succ, List.setIfInBounds_toArray, List.set_cons_zero, List.set_cons_succ]
          refine wpAnyIn_ready (rs := [6]) (by kernel_rfl) (by simp) ?_
          refine AllReadyIn.cons rfl (fun K9 hK9 => ?_) AllReadyIn.nil
          go_simp
          refine hK9 _ _ ?_
          clear hK9 K9
          refine wpAnyIn_done (by kernel_rfl) ?_ _
          gi_wp2
          exact fin_pk HB.out.1 HB.out.2.1 HB.out.2.2.2.1 hk4 hk5 o4 hown4 hOw hGO hC3 trivial HB.out.2.2.2.2.2.2.1 HB.out.2.2.2.2.2.2.2
        refine AllReadyIn.cons rfl (fun K9 hK9 => ?_) AllReadyIn.nil
        go_simp
        refine hK9 _ _ ?_
        clear hK9 K9
        refine wpAnyIn_ready (rs := [2]) (by kernel_rfl) (by simp) ?_
        refine AllReadyIn.cons rfl (fun K9 hK9 => ?_) AllReadyIn.nil
        go_simp
        refine hK9 _ _ ?_
        clear hK9 K9
        refine wpAnyIn_ready (rs := [4]) (by kernel_rfl) (by simp) ?_
        refine AllReadyIn.cons rfl (fun K9 hK9 => ?_) AllReadyIn.nil
        go_simp
        refine ⟨trivial, rfl, ?_⟩
        refine (CallsIn.inRound _ (callsIn_wide.2 (CWR.out _ ((Kept.refl [] Wb).drew)))).mono ?_
        rintro e V3 ⟨g2, c1, rfl, hg2, hcb, hk3⟩
        have hk4 := hk3.undrew
        have d1 := cell_keep hk4 b8 (by simp)
        have d2 := cell_keep hk4 b7 (by simp)
        obtain ⟨V4, happ, hown4, hk5⟩ := app_room V3 G L0 M r0 c1 g2 xs _ (hk4.row HB.out.2.2.1 (by simp)) hcb HB.out.2.2.2.2.2.1
        have o4 := hk5.heap (hk4.heap HB.out.2.1 (by simp)) (by simp; omega)
        have d3 := one_cell o4
        have d4 : V4.frozen? ⟨Ob, 0, none⟩ = false := by simp [World.frozen?, o4]
        show K9 _ _
        refine hK9 _ _ ?_
        clear hK9 K9
        try simp only [Act.put, List.getElem_toArray, List.getElem_cons_zero, List.getElem_cons_succ, List.setIfInBounds_toArray, List.set_cons_zero, List.set_cons_succ]
        refine wpAnyIn_ready (rs := [5]) (by kernel_rfl) (by simp) ?_
        refine AllReadyIn.cons rfl (fun K9 hK9 => ?_) AllReadyIn.nil
        refine step_appIn rfl _ _ 37 rfl _ _ _ _ rfl rfl happ ?_
        refine hK9 _ _ ?_
        clear hK9 K9
        simp only [Act.put, List.getElem_toArray, List.getElem_cons_zero, List.getElem_cons_succ, List.setIfInBounds_toArray, List.set_cons_zero, List.set_cons_succ]
        refine wpAnyIn_ready (rs := [6]) (by kernel_rfl) (by simp) ?_
        refine AllReadyIn.cons rfl (fun K9 hK9 => ?_) AllReadyIn.nil
        go_simp
        refine hK9 _ _ ?_
        clear hK9 K9
        refine wpAnyIn_done (by kernel_rfl) ?_ _
        gi_wp2
        exact fin_pk HB.out.1 HB.out.2.1 HB.out.2.2.2.1 hk4 hk5 o4 hown4 hOw hGO hC3 trivial HB.out.2.2.2.2.2.2.1 HB.out.2.2.2.2.2.2.2
      refine AllReadyIn.cons rfl (fun K9 hK9 => ?_) ?_
      · go_simp
        refine hK9 _ _ ?_
        clear hK9 K9
        refine wpAnyIn_ready (rs := [0, 3]) (by kernel_rfl) (by simp) ?_
        refine AllReadyIn.cons rfl (fun K9 hK9 => ?_) ?_
        · go_simp
          refine hK9 _ _ ?_
          clear hK9 K9
          refine wpAnyIn_ready (rs := [3]) (by kernel_rfl) (by simp) ?_
          refine AllReadyIn.cons rfl (fun K9 hK9 => ?_) AllReadyIn.nil
          go_simp
          refine hK9 _ _ ?_
          clear hK9 K9
          refine wpAnyIn_ready (rs := [4]) (by kernel_rfl) (by simp) ?_
          refine AllReadyIn.cons rfl (fun K9 hK9 => ?_) AllReadyIn.nil
          go_simp
          refine ⟨trivial, rfl, ?_⟩
          refine (CallsIn.inRound _ (callsIn_wide.2 (CWR.out _ ((Kept.refl [] Wb).drew)))).mono ?_
          rintro e V3 ⟨g2, c1, rfl, hg2, hcb, hk3⟩
          have hk4 := hk3.undrew
          have d1 := cell_keep hk4 b8 (by simp)
          have d2 := cell_keep hk4 b7 (by simp)
          obtain ⟨V4, happ, hown4, hk5⟩ := app_room V3 G L0 M r0 c1 g2 xs _ (hk4.row HB.out.2.2.1 (by simp)) hcb HB.out.2.2.2.2.2.1
          have o4 := hk5.heap (hk4.heap HB.out.2.1 (by simp)) (by simp; omega)
          have d3 := one_cell o4
          have d4 : V4.frozen? ⟨Ob, 0, none⟩ = false := by simp [World.frozen?, o4]
          show K9 _ _
          refine hK9 _ _ ?_
          clear hK9 K9
          try simp only [Act.put, List.getElem_toArray, List.getElem_cons_zero, List.getElem_cons_succ, List.setIfInBounds_toArray, List.set_cons_zero, List.set_cons_succ]
          refine wpAnyIn_ready (rs := [5]) (by kernel_rfl) (by simp) ?_
          refine AllReadyIn.cons rfl (fun K9 hK9 => ?_) AllReadyIn.nil
          refine step_appIn rfl _ _ 37 rfl _ _ _ _ rfl rfl happ ?_
          refine hK9 _ _ ?_
          clear hK9 K9
          simp only [Act.put, List.getElem_toArray, List.getElem_cons_zero, List.getElem_cons_succ, List.setIfInBounds_toArray, List.set_cons_zero, List.set_cons_succ]
          refine wpAnyIn_ready (rs := [6]) (by kernel_rfl) (by simp) ?_
          refine AllReadyIn.cons rfl (fun K9 hK9 => ?_) AllReadyIn.nil
          go_simp
          refine hK9 _ _ ?_
          clear hK9 K9
          refine wpAnyIn_done (by kernel_rfl) ?_ _
          gi_wp2
          exact fin_pk HB.out.1 HB.out.2.1 HB.out.2.2.2.1 hk4 hk5 o4 hown4 hOw hGO hC3 trivial HB.out.2.2.2.2.2.2.1 HB.out.2.2.2.2.2.2.2
        refine AllReadyIn.cons rfl (fun K9 hK9 => ?_) AllReadyIn.nil
        go_simp
        refine hK9 _ _ ?_
        clear hK9 K9
        refine wpAnyIn_ready (rs := [0, 4]) (by kernel_rfl) (by simp) ?_
        refine AllReadyIn.cons rfl (fun K9 hK9 => ?_) ?_
        · go_simp
          refine hK9 _ _ ?_
          clear hK9 K9
          refine wpAnyIn_ready (rs := [4]) (by kernel_rfl) (by simp) ?_
          refine AllReadyIn.cons rfl (fun K9 hK9 => ?_) AllReadyIn.nil
          go_simp
          refine ⟨trivial, rfl, ?_⟩
          refine (CallsIn.inRound _ (callsIn_wide.2 (CWR.out _ ((Kept.refl [] Wb).drew)))).mono ?_
          rintro e V3 ⟨g2, c1, rfl, hg2, hcb, hk3⟩
          have hk4 := hk3.undrew
          have d1 := cell_keep hk4 b8 (by simp)
          have d2 := cell_keep hk4 b7 (by simp)
          obtain ⟨V4, happ, hown4, hk5⟩ := app_room V3 G L0 M r0 c1 g2 xs _ (hk4.row HB.out.2.2.1 (by simp)) hcb HB.out.2.2.2.2.2.1
          have o4 := hk5.heap (hk4.heap HB.out.2.1 (by simp)) (by simp; omega)
          have d3 := one_cell o4
          have d4 : V4.frozen? ⟨Ob, 0, none⟩ = false := by simp [World.frozen?, o4]
          show K9 _ _
          refine hK9 _ _ ?_
          clear hK9 K9
          try simp only [Act.put, List.getElem_toArray, List.getElem_cons_zero, List.getElem_cons_succ, List.setIfInBounds_toArray, List.set_cons_zero, List.set_cons_succ]
          refine wpAnyIn_ready (rs := [5]) (by kernel_rfl) (by simp) ?_
          refine AllReadyIn.cons rfl (fun K9 hK9 => ?_) AllReadyIn.nil
          refine step_appIn rfl _ _ 37 rfl _ _ _ _ rfl rfl happ ?_
          refine hK9 _ _ ?_
          clear hK9 K9
          simp only [Act.put, List.getElem_toArray, List.getElem_cons_zero, List.getElem_cons_succ, List.setIfInBounds_toArray, List.set_cons_zero, List.set_cons_succ]
          refine wpAnyIn_ready (rs := [6]) (by kernel_rfl) (by simp) ?_
          refine AllReadyIn.cons rfl (fun K9 hK9 => ?_) AllReadyIn.nil
          go_simp
          refine hK9 _ _ ?_
          clear hK9 K9
          refine wpAnyIn_done (by kernel_rfl) ?_ _
          gi_wp2
          exact fin_pk HB.out.1 HB.out.2.1 HB.out.2.2.2.1 hk4 hk5 o4 hown4 hOw hGO hC3 trivial HB.out.2.2.2.2.2.2.1 HB.out.2.2.2.2.2.2.2
        refine AllReadyIn.cons rfl (fun K9 hK9 => ?_) AllReadyIn.nil
        go_simp
        refine ⟨trivial, rfl, ?_⟩
        refine (CallsIn.inRound _ (callsIn_wide.2 (CWR.out _ ((Kept.refl [] Wb).drew)))).mono ?_
        rintro e V3 ⟨g2, c1, rfl, hg2, hcb, hk3⟩
        have hk4 := hk3.undrew
        have d1 := cell_keep hk4 b8 (by simp)
        have d2 := cell_keep hk4 b7 (by simp)
        obtain ⟨V4, happ, hown4, hk5⟩ := app_room V3 G L0 M r0 c1 g2 xs _ (hk4.row HB.out.2.2.1 (by simp)) hcb HB.out.2.2.2.2.2.1
        have o4 := hk5.heap (hk4.heap HB.out.2.1 (by simp)) (by simp; omega)
        have d3 := one_cell o4
        have d4 : V4.frozen? ⟨Ob, 0, none⟩ = false := by simp [World.frozen?, o4]
        show K9 _ _
        refine hK9 _ _ ?_
        clear hK9 K9
        try simp only [Act.put, List.getElem_toArray, List.getElem_cons_zero, List.getElem_cons_succ, List.setIfInBounds_toArray, List.set_cons_zero, List.set_cons_succ]
        refine wpAnyIn_ready (rs := [0]) (by kernel_rfl) (by simp) ?_
        refine AllReadyIn.cons rfl (fun K9 hK9 => ?_) AllReadyIn.nil
        go_simp
        refine hK9 _ _ ?_
        clear hK9 K9
        refine wpAnyIn_ready (rs := [5]) (by kernel_rfl) (by simp) ?_
        refine AllReadyIn.cons rfl (fun K9 hK9 => ?_) AllReadyIn.nil
        refine step_appIn rfl _ _ 37 rfl _ _ _ _ rfl rfl happ ?_
        refine hK9 _ _ ?_
        clear hK9 K9
        simp only [Act.put, List.getElem_toArray, List.getElem_cons_zero, List.getElem_cons_succ, List.setIfInBounds_toArray, List.set_cons_zero, List.set_cons_succ]
        refine wpAnyIn_ready (rs := [6]) (by kernel_rfl) (by simp) ?_
        refine AllReadyIn.cons rfl (fun K9 hK9 => ?_) AllReadyIn.nil
        go_simp
        refine hK9 _ _ ?_
        clear hK9 K9
        refine wpAnyIn_done (by kernel_rfl) ?_ _
        gi_wp2
        exact fin_pk HB.out.1 HB.out.2.1 HB.out.2.2.2.1 hk4 hk5 o4 hown4 hOw hGO hC3 trivial HB.out.2.2.2.2.2.2.1 HB.out.2.2.2.2.2.2.2
      refine AllReadyIn.cons rfl (fun K9 hK9 => ?_) AllReadyIn.nil
      go_simp
      refine hK9 _ _ ?_
      clear hK9 K9
      refine wpAnyIn_ready (rs := [0, 2]) (by kernel_rfl) (by simp) ?_
      refine AllReadyIn.cons rfl (fun K9 hK9 => ?_) ?_
      · go_simp
        refine hK9 _ _ ?_
        clear hK9 K9
        refine wpAnyIn_ready (rs := [2]) (by kernel_rfl) (by simp) ?_
        refine AllReadyIn.cons rfl (fun K9 hK9 => ?_) AllReadyIn.nil
        go_simp
        refine hK9 _ _ ?_
        clear hK9 K9
        refine wpAnyIn_ready (rs := [4]) (by kernel_rfl) (by simp) ?_
        refine AllReadyIn.cons rfl (fun K9 hK9 => ?_) AllReadyIn.nil
        go_simp
        refine ⟨trivial, rfl, ?_⟩
        refine (CallsIn.inRound _ (callsIn_wide.2 (CWR.out _ ((Kept.refl [] Wb).drew)))).mono ?_
        rintro e V3 ⟨g2, c1, rfl, hg2, hcb, hk3⟩
        have hk4 := hk3.undrew
        have d1 := cell_keep hk4 b8 (by simp)
        have d2 := cell_keep hk4 b7 (by simp)
        obtain ⟨V4, happ, hown4, hk5⟩ := app_room V3 G L0 M r0 c1 g2 xs _ (hk4.row HB.out.2.2.1 (by simp)) hcb HB.out.2.2.2.2.2.1
        have o4 := hk5.heap (hk4.heap HB.out.2.1 (by simp)) (by simp; omega)
        have d3 := one_cell o4
        have d4 : V4.frozen? ⟨Ob, 0, none⟩ = false := by simp [World.frozen?, o4]
        show K9 _ _
        refine hK9 _ _ ?_
        clear hK9 K9
        try simp only [Act.put, List.getElem_toArray, List.getElem_cons_zero, List.getElem_cons_succ, List.setIfInBounds_toArray, List.set_cons_zero, List.set_cons_succ]
        refine wpAnyIn_ready (rs := [5]) (by kernel_rfl) (by simp) ?_
        refine AllReadyIn.cons rfl (fun K9 hK9 => ?_) AllReadyIn.nil
        refine step_appIn rfl _ _ 37 rfl _ _ _ _ rfl rfl happ ?_
        refine hK9 _ _ ?_
        clear hK9 K9
        simp only [Act.put, List.getElem_toArray, List.getElem_cons_zero, List.getElem_cons_succ, List.setIfInBounds_toArray, List.set_cons_zero, List.set_cons_succ]
        refine wpAnyIn_ready (rs := [6]) (by kernel_rfl) (by simp) ?_
        refine AllReadyIn.cons rfl (fun K9 hK9 => ?_) AllReadyIn.nil
        go_simp
        refine hK9 _ _ ?_
        clear hK9 K9
        refine wpAnyIn_done (by kernel_rfl) ?_ _
        gi_wp2
        exact fin_pk HB.out.1 HB.out.2.1 HB.out.2.2.2.1 hk4 hk5 o4 hown4 hOw hGO hC3 trivial HB.out.2.2.2.2.2.2.1 HB.out.2.2.2.2.2.2.2
      refine AllReadyIn.cons rfl (fun K9 hK9 => ?_) AllReadyIn.nil
      go_simp
      refine hK9 _ _ ?_
      clear hK9 K9
      refine wpAnyIn_ready (rs := [0, 4]) (by kernel_rfl) (by simp) ?_
      refine AllReadyIn.cons rfl (fun K9 hK9 => ?_) ?_
      · go_simp
        refine hK9 _ _ ?_
        clear hK9 K9
        refine wpAnyIn_ready (rs := [4]) (by kernel_rfl) (by simp) ?_
        refine AllReadyIn.cons rfl (fun K9 hK9 => ?_) AllReadyIn.nil
        go_simp
        refine ⟨trivial, rfl, ?_⟩
        refine (CallsIn.inRound _ (callsIn_wide.2 (CWR.out _ ((Kept.refl [] Wb).drew)))).mono ?_
        rintro e V3 ⟨g2, c1, rfl, hg2, hcb, hk3⟩
        have hk4 := hk3.undrew
        have d1 := cell_keep hk4 b8 (by simp)
        have d2 := cell_keep hk4 b7 (by simp)
        obtain ⟨V4, happ, hown4, hk5⟩ := app_room V3 G L0 M r0 c1 g2 xs _ (hk4.row HB.out.2.2.1 (by simp)) hcb HB.out.2.2.2.2.2.1
        have o4 := hk5.heap (hk4.heap HB.out.2.1 (by simp)) (by simp; omega)
        have d3 := one_cell o4
        have d4 : V4.frozen? ⟨Ob, 0, none⟩ = false := by simp [World.frozen?, o4]
        show K9 _ _
        refine hK9 _ _ ?_
        clear hK9 K9
        try simp only [Act.put, List.getElem_toArray, List.getElem_cons_zero, List.getElem_cons_succ, List.setIfInBounds_toArray, List.set_cons_zero, List.set_cons_succ]
        refine wpAnyIn_ready (rs := [5]) (by kernel_rfl) (by simp) ?_
        refine AllReadyIn.cons rfl (fun K9 hK9 => ?_) AllReadyIn.nil
        refine step_appIn rfl _ _ 37 rfl _ _ _ _ rfl rfl happ ?_
        refine hK9 _ _ ?_
        clear hK9 K9
        simp only [Act.put, List.getElem_toArray, List.getElem_cons_zero, List.getElem_cons_succ, List.setIfInBounds_toArray, List.set_cons_zero, List.set_cons_succ]
        refine wpAnyIn_ready (rs := [6]) (by kernel_rfl) (by simp) ?_
        refine AllReadyIn.cons rfl (fun K9 hK9 => ?_) AllReadyIn.nil
        go_simp
        refine hK9 _ _ ?_
        clear hK9 K9
        refine wpAnyIn_done (by kernel_rfl) ?_ _
        gi_wp2
        exact fin_pk HB.out.1 HB.out.2.1 HB.out.2.2.2.1 hk4 hk5 o4 hown4 hOw hGO hC3 trivial HB.out.2.2.2.2.2.2.1 HB.out.2.2.2.2.2.2.2
      refine AllReadyIn.cons rfl (fun K9 hK9 => ?_) AllReadyIn.nil
      go_simp
      refine ⟨trivial, rfl, ?_⟩
      refine (CallsIn.inRound _ (callsIn_wide.2 (CWR.out _ ((Kept.refl [] Wb).drew)))).mono ?_
      rintro e V3 ⟨g2, c1, rfl, hg2, hcb, hk3⟩
      have hk4 := hk3.undrew
      have d1 := cell_keep hk4 b8 (by simp)
      have d2 := cell_keep hk4 b7 (by simp)
      obtain ⟨V4, happ, hown4, hk5⟩ := app_room V3 G L0 M r0 c1 g2 xs _ (hk4.row HB.out.2.2.1 (by simp)) hcb HB.out.2.2.2.2.2.1
      have o4 := hk5.heap (hk4.heap HB.out.2.1 (by simp)) (by simp; omega)
      have d3 := one_cell o4
      have d4 : V4.frozen? ⟨Ob, 0, none⟩ = false := by simp [World.frozen?, o4]
      show K9 _ _
      refine hK9 _ _ ?_
      clear hK9 K9
      try simp only [Act.put, List.getElem_toArray, List.getElem_cons_zero, List.getElem_cons_succ, List.setIfInBounds_toArray, List.set_cons_zero, List.set_cons_succ]
      refine wpAnyIn_ready (rs := [0]) (by kernel_rfl) (by simp) ?_
      refine AllReadyIn.cons rfl (fun K9 hK9 => ?_) AllReadyIn.nil
      go_simp
      refine hK9 _ _ ?_
      clear hK9 K9
      refine wpAnyIn_ready (rs := [5]) (by kernel_rfl) (by simp) ?_
      refine AllReadyIn.cons rfl (fun K9 hK9 => ?_) AllReadyIn.nil
      refine step_appIn rfl _ _ 37 rfl _ _ _ _ rfl rfl happ ?_
      refine hK9 _ _ ?_
      clear hK9 K9
      simp only [Act.put, List.getElem_toArray, List.getElem_cons_zero, List.getElem_cons_succ, List.setIfInBounds_toArray, List.set_cons_zero, List.set_cons_succ]
      refine wpAnyIn_ready (rs := [6]) (by kernel_rfl) (by simp) ?_
      refine AllReadyIn.cons rfl (fun K9 hK9 => ?_) AllReadyIn.nil
      go_simp
      refine hK9 _ _ ?_
      clear hK9 K9
      refine wpAnyIn_done (by kernel_rfl) ?_ _
      gi_wp2
      exact fin_pk HB.out.1 HB.out.2.1 HB.out.2.2.2.1 hk4 hk5 o4 hown4 hOw hGO hC3 trivial HB.out.2.2.2.2.2.2.1 HB.out.2.2.2.2.2.2.2
    refine AllReadyIn.cons rfl (fun K9 hK9 => ?_) AllReadyIn.nil
    go_simp
    refine hK9 _ _ ?_
    clear hK9 K9
    refine wpAnyIn_ready (rs := [0, 1]) (by kernel_rfl) (by simp) ?_
    refine AllReadyIn.cons rfl (fun K9 hK9 => ?_) ?_
    · go_simp
      refine hK9 _ _ ?_
      clear hK9 K9
      refine wpAnyIn_ready (rs := [1]) (by kernel_rfl) (by simp) ?_
      refine AllReadyIn.cons rfl (fun K9 hK9 => ?_) AllReadyIn.nil
      go_simp
      refine hK9 _ _ ?_
      clear hK9 K9
      refine wpAnyIn_ready (rs := [2]) (by kernel_rfl) (by simp) ?_
      refine AllReadyIn.cons rfl (fun K9 hK9 => ?_) AllReadyIn.nil
      go_simp
      refine hK9 _ _ ?_
      clear hK9 K9
      refine wpAnyIn_ready (rs := [4]) (by kernel_rfl) (by simp) ?_
      refine AllReadyIn.cons rfl (fun K9 hK9 => ?_) AllReadyIn.nil
      go_simp
      refine ⟨trivial, rfl, ?_⟩
      refine (CallsIn.inRound _ (callsIn_wide.2 (CWR.out _ ((Kept.refl [] Wb).drew)))).mono ?_
      rintro e V3 ⟨g2, c1, rfl, hg2, hcb, hk3⟩
      have hk4 := hk3.undrew
      have d1 := cell_keep hk4 b8 (by simp)
      have d2 := cell_keep hk4 b7 (by simp)
      obtain ⟨V4, happ, hown4, hk5⟩ := app_room V3 G L0 M r0 c1 g2 xs _ (hk4.row HB.out.2.2.1 (by simp)) hcb HB.out.2.2.2.2.2.1
      have o4 := hk5.heap (hk4.heap HB.out.2.1 (by simp)) (by simp; omega)
      have d3 := one_cell o4
      have d4 : V4.frozen? ⟨Ob, 0, none⟩ = false := by simp [World.frozen?, o4]
      show K9 _ _
      refine hK9 _ _ ?_
      clear hK9 K9
      try simp only [Act.put, List.getElem_toArray, List.getElem_cons_zero, List.getElem_cons_succ, List.setIfInBounds_toArray, List.set_cons_zero, List.set_cons_succ]
      refine wpAnyIn_ready (rs := [5]) (by kernel_rfl) (by simp) ?_
      refine AllReadyIn.cons rfl (fun K9 hK9 => ?_) AllReadyIn.nil
      refine step_appIn rfl _ _ 37 rfl _ _ _ _ rfl rfl happ ?_
      refine hK9 _ _ ?_
      clear hK9 K9
      simp only [Act.put, List.getElem_toArray, List.getElem_cons_zero, List.getElem_cons_succ, List.setIfInBounds_toArray, List.set_cons_zero, List.set_cons_succ]
      refine wpAnyIn_ready (rs := [6]) (by kernel_rfl) (by simp) ?_
      refine AllReadyIn.cons rfl (fun K9 hK9 => ?_) AllReadyIn.nil
      go_simp
      refine hK9 _ _ ?_
      clear hK9 K9
      refine wpAnyIn_done (by kernel_rfl) ?_ _
      gi_wp2
      exact fin_pk HB.out.1 HB.out.2.1 HB.out.2.2.2.1 hk4 hk5 o4 hown4 hOw hGO hC3 trivial HB.out.2.2.2.2.2.2.1 HB.out.2.2.2.2.2.2.2
    refine AllReadyIn.cons rfl (fun K9 hK9 => ?_) AllReadyIn.nil
    go_simp
    refine hK9 _ _ ?_
    clear hK9 K9
    refine wpAnyIn_ready (rs := [0, 2]) (by kernel_rfl) (by simp) ?_
    refine AllReadyIn.cons rfl (fun K9 hK9 => ?_) ?_
    · go_simp
      refine hK9 _ _ ?_
      clear hK9 K9
      refine wpAnyIn_ready (rs := [2]) (by kernel_rfl) (by simp) ?_
      refine AllReadyIn.cons rfl (fun K9 hK9 => ?_) AllReadyIn.nil
      go_simp
      refine hK9 _ _ ?_
      clear hK9 K9
      refine wpAnyIn_ready (rs := [4]) (by kernel_rfl) (by simp) ?_
      refine AllReadyIn.cons rfl (fun K9 hK9 => ?_) AllReadyIn.nil
      go_simp
      refine ⟨trivial, rfl, ?_⟩
      refine (CallsIn.inRound _ (callsIn_wide.2 (CWR.out _ ((Kept.refl [] Wb).drew)))).mono ?_
      rintro e V3 ⟨g2, c1, rfl, hg2, hcb, hk3⟩
      have hk4 := hk3.undrew
      have d1 := cell_keep hk4 b8 (by simp)
      have d2 := cell_keep hk4 b7 (by simp)
      obtain ⟨V4, happ, hown4, hk5⟩ := app_room V3 G L0 M r0 c1 g2 xs _ (hk4.row HB.out.2.2.1 (by simp)) hcb HB.out.2.2.2.2.2.1
      have o4 := hk5.heap (hk4.heap HB.out.2.1 (by simp)) (by simp; omega)
      have d3 := one_cell o4
      have d4 : V4.frozen? ⟨Ob, 0, none⟩ = false := by simp [World.frozen?, o4]
      show K9 _ _
      refine hK9 _ _ ?_
      clear hK9 K9
      try simp only [Act.put, List.getElem_toArray, List.getElem_cons_zero, List.getElem_cons_succ, List.setIfInBounds_toArray, List.set_cons_zero, List.set_cons_succ]
      refine wpAnyIn_ready (rs := [5]) (by kernel_rfl) (by simp) ?_
      refine AllReadyIn.cons rfl (fun K9 hK9 => ?_) AllReadyIn.nil
      refine step_appIn rfl _ _ 37 rfl _ _ _ _ rfl rfl happ ?_
      refine hK9 _ _ ?_
      clear hK9 K9
      simp only [Act.put, List.getElem_toArray, List.getElem_cons_zero, List.getElem_cons_succ, List.setIfInBounds_toArray, List.set_cons_zero, List.set_cons_succ]
      refine wpAnyIn_ready (rs := [6]) (by kernel_rfl) (by simp) ?_
      refine AllReadyIn.cons rfl (fun K9 hK9 => ?_) AllReadyIn.nil
      go_simp
      refine hK9 _ _ ?_
      clear hK9 K9
      refine wpAnyIn_done (by kernel_rfl) ?_ _
      gi_wp2
      exact fin_pk HB.out.1 HB.out.2.1 HB.out.2.2.2.1 hk4 hk5 o4 hown4 hOw hGO hC3 trivial HB.out.2.2.2.2.2.2.1 HB.out.2.2.2.2.2.2.2
    refine AllReadyIn.cons rfl (fun K9 hK9 => ?_) AllReadyIn.nil
    go_simp
    refine hK9 _ _ ?_
    clear hK9 K9
    refine wpAnyIn_ready (rs := [0, 4]) (by kernel_rfl) (by simp) ?_
    refine AllReadyIn.cons rfl (fun K9 hK9 => ?_) ?_
    · go_simp
      refine hK9 _ _ ?_
      clear hK9 K9
      refine wpAnyIn_ready (rs := [4]) (by kernel_rfl) (by simp) ?_
      refine AllReadyIn.cons rfl (fun K9 hK9 => ?_) AllReadyIn.nil
      go_simp
      refine ⟨trivial, rfl, ?_⟩
      refine (CallsIn.inRound _ (callsIn_wide.2 (CWR.out _ ((Kept.refl [] Wb).drew)))).mono ?_
      rintro e V3 ⟨g2, c1, rfl, hg2, hcb, hk3⟩
      have hk4 := hk3.undrew
      have d1 := cell_keep hk4 b8 (by simp)
      have d2 := cell_keep hk4 b7 (by simp)
      obtain ⟨V4, happ, hown4, hk5⟩ := app_room V3 G L0 M r0 c1 g2 xs _ (hk4.row HB.out.2.2.1 (by simp)) hcb HB.out.2.2.2.2.2.1
      have o4 := hk5.heap (hk4.heap HB.out.2.1 (by simp)) (by simp; omega)
      have d3 := one_cell o4
      have d4 : V4.frozen? ⟨Ob, 0, none⟩ = false := by simp [World.frozen?, o4]
      show K9 _ _
      refine hK9 _ _ ?_
      clear hK9 K9
      try simp only [Act.put, List.getElem_toArray, List.getElem_cons_zero, List.getElem_cons_succ, List.setIfInBounds_toArray, List.set_cons_zero, List.set_cons_succ]
      refine wpAnyIn_ready (rs := [5]) (by kernel_rfl) (by simp) ?_
      refine AllReadyIn.cons rfl (fun K9 hK9 => ?_) AllReadyIn.nil
      refine step_appIn rfl _ _ 37 rfl _ _ _ _ rfl rfl happ ?_
      refine hK9 _ _ ?_
      clear hK9 K9
      simp only [Act.put, List.getElem_toArray, List.getElem_cons_zero, List.getElem_cons_succ, List.setIfInBounds_toArray, List.set_cons_zero, List.set_cons_succ]
      refine wpAnyIn_ready (rs := [6]) (by kernel_rfl) (by simp) ?_
      refine AllReadyIn.cons rfl (fun K9 hK9 => ?_) AllReadyIn.nil
      go_simp
      refine hK9 _ _ ?_
      clear hK9 K9
      refine wpAnyIn_done (by kernel_rfl) ?_ _
      gi_wp2
      exact fin_pk HB.out.1 HB.out.2.1 HB.out.2.2.2.1 hk4 hk5 o4 hown4 hOw hGO hC3 trivial HB.out.2.2.2.2.2.2.1 HB.out.2.2.2.2.2.2.2
    refine AllReadyIn.cons rfl (fun K9 hK9 => ?_) AllReadyIn.nil
    go_simp
    refine ⟨trivial, rfl, ?_⟩
    refine (CallsIn.inRound _ (callsIn_wide.2 (CWR.out _ ((Kept.refl [] Wb).drew)))).mono ?_
    rintro e V3 ⟨g2, c1, rfl, hg2, hcb, hk3⟩
    have hk4 := hk3.undrew
    have d1 := cell_keep hk4 b8 (by simp)
    have d2 := cell_keep hk4 b7 (by simp)
    obtain ⟨V4, happ, hown4, hk5⟩ := app_room V3 G L0 M r0 c1 g2 xs _ (hk4.row HB.out.2.2.1 (by simp)) hcb HB.out.2.2.2.2.2.1
    have o4 := hk5.heap (hk4.heap HB.out.2.1 (by simp)) (by simp; omega)
    have d3 := one_cell o4
    have d4 : V4.frozen? ⟨Ob, 0, none⟩ = false := by simp [World.frozen?, o4]
    show K9 _ _
    refine hK9 _ _ ?_
    clear hK9 K9
    try simp only [Act.put, List.getElem_toArray, List.getElem_cons_zero, List.getElem_cons_succ, List.setIfInBounds_toArray, List.set_cons_zero, List.set_cons_succ]
    refine wpAnyIn_ready (rs := [0]) (by kernel_rfl) (by simp) ?_
    refine AllReadyIn.cons rfl (fun K9 hK9 => ?_) AllReadyIn.nil
    go_simp
    refine hK9 _ _ ?_
    clear hK9 K9
    refine wpAnyIn_ready (rs := [5]) (by kernel_rfl) (by simp) ?_
    refine AllReadyIn.cons rfl (fun K9 hK9 => ?_) AllReadyIn.nil
    refine step_appIn rfl _ _ 37 rfl _ _ _ _ rfl rfl happ ?_
    refine hK9 _ _ ?_
    clear hK9 K9
    simp only [Act.put, List.getElem_toArray, List.getElem_cons_zero, List.getElem_cons_succ, List.setIfInBounds_toArray, List.set_cons_zero, List.set_cons_succ]
    refine wpAnyIn_ready (rs := [6]) (by kernel_rfl) (by simp) ?_
    refine AllReadyIn.cons rfl (fun K9 hK9 => ?_) AllReadyIn.nil
    go_simp
    refine hK9 _ _ ?_
    clear hK9 K9
    refine wpAnyIn_done (by kernel_rfl) ?_ _
    gi_wp2
    exact fin_pk HB.out.1 HB.out.2.1 HB.out.2.2.2.1 hk4 hk5 o4 hown4 hOw hGO hC3 trivial HB.out.2.2.2.2.2.2.1 HB.out.2.2.2.2.2.2.2
  case done =>
    rintro W' ⟨a1, a2, a3, a4⟩ hK
    rw [← hMe] at a3 a4
    clear hn hMe hBw
    have b8 := one_cell a3
    have HD := Hid.mk (And.intro a1 (And.intro a4 hK))
    clear a1 a3 a4 hK
    go_wp2
    obtain ⟨hn, hMe, hBw⟩ := HEQ.out
    refine ⟨by simp, .inl ⟨_, _, rfl, run_takeDeferred HD.out.2.2, ?_⟩⟩
    refine ⟨_, results_tmp2 rfl _ _ _, G, M, rfl, by omega, hMe, ?_, ?_⟩
    · have ks : Kept [w5.heap.size] W' (W'.putObj w5.heap.size (.deferred none)) := (Kept.refl _ W').putObj _ (.inl (by simp))
      exact ks.row HD.out.2.1 (fun g hg => by cases hg; simp; omega)
    · exact (K5.step HD.out.1 (fun x hx => by right; simp at hx; omega)).putObj _ (.inr (by have := K5.size; omega))
end Go.Proofs.YtodlkpcbkilglaaDoor
