import Derived.Test.YtodlkpcbkilglaaDoorItZ
namespace Go.Proofs.YtodlkpcbkilglaaDoor
open Go.RowKit Go.Shelf
attribute [local go_sem] Oper.semAt_some

theorem Rio.keeps {w w' : World} {Bk Bf a1 a2 a3 a4 a5 h n c : Nat} {W D : Int} {A : Bool} {po : Option Addr} {ln pb pf pc : Nat → Nat} {ks : List Nat} (H : Rio w Bk Bf a1 a2 a3 a4 a5 W h D A po n c ln pb pf pc) (hk : Kept ks w w') (n1 : Bk ∉ ks) (n2 : Bf ∉ ks) (n3 : ∀ g off, po = some ⟨g, off, none⟩ → g ∉ ks) : Rio w' Bk Bf a1 a2 a3 a4 a5 W h D A po n c ln pb pf pc :=
  ⟨cell_keep hk H.f0 n1, cell_keep hk H.f1 n1, cell_keep hk H.f2 n1, cell_keep hk H.f3 n1, cell_keep hk H.f4 n1, H.fat.keep hk n2, by
    obtain ⟨g, off, e, hc⟩ := H.pq
    exact ⟨g, off, e, fun i hi => cell_keep hk (hc i hi) (n3 g off e)⟩⟩
theorem ctL_row (rl b : Nat → Nat) (h : Nat) (h1 : 1 ≤ h) (hb : ∀ k, rl k = b (k / h)) (i : Nat) : ∀ y, y ≤ h → ctL rl (i * h + y) = ctL rl (i * h) + y * b i := by
  intro y
  induction y with
  | zero => intro _; simp
  | succ y ih =>
    intro hy
    rw [← Nat.add_assoc, ctL, ih (by omega), hb, show (i * h + y) / h = i by rw [Nat.add_comm, Nat.add_mul_div_right _ _ (by omega), Nat.div_eq_of_lt (by omega)]; omega, Nat.add_mul, Nat.one_mul, Nat.add_assoc]
theorem ctL_sS (rl b : Nat → Nat) (W : Int) (h : Nat) (bf p : Nat → Nat) (h1 : 1 ≤ h) (hb : ∀ k, rl k = b (k / h)) (q : Nat) (hbf : ∀ i, i < q → b i = bf (wp W (p i : Int)).toNat) : ((ctL rl (q * h) : Nat) : Int) = sS W (h : Int) bf p q := by
  induction q with
  | zero => simp [ctL, sS]
  | succ q ih =>
    rw [Nat.add_mul, Nat.one_mul, ctL_row rl b h h1 hb q h (Nat.le_refl _), sS, ← ih (fun i hi => hbf i (by omega)), hbf q (by omega)]
    push_cast
    rfl
theorem plB_lt (f : Nat → Nat) (t : Nat) : plB f t < 256 := Nat.mod_lt _ (by decide)
theorem v2B_lt (f : Nat → Nat → Nat) (l : Nat → Nat) (t : Nat) : v2B f l t < 256 := Nat.mod_lt _ (by decide)
/-- How wide a plane is. -/
def wdN (W : Int) (i : Nat) : Nat := (wp W (i : Int)).toNat
theorem wdN_ok {W H D : Int} {A : Bool} (h : Shp W H D A) (i : Nat) : 1 ≤ wdN W i ∧ wdN W i ≤ 4096 ∧ (wdN W i : Int) = wp W (i : Int) := by
  have h1 := wp_lo (i : Int) h.1.1
  have h2 := wp_hi (i : Int) h.1.1
  have h3 := h.1.2
  unfold wdN
  omega
/-- The rows of a frame, planar: how many bytes, and which. -/
def plL (W : Int) (h : Nat) (k : Nat) : Nat := 2 * wdN W (k / h)
def plR (W : Int) (h : Nat) (F : Nat → Nat → Nat) (k : Nat) : Nat → Nat := plB (fun x => F (k / h) (k % h * wdN W (k / h) + x))
/-- By v210. -/
def v2L (W : Int) (_k : Nat) : Nat := 4 * ((wdN W 0 + 47) / 48 * 32)
def v2R (W : Int) (F : Nat → Nat → Nat) (k : Nat) : Nat → Nat := v2B (fun p x => F p (k * wdN W p + x)) (wdN W)
theorem Rd.shift {w : World} {g o n : Nat} {f : Nat → Nat} (h : Rd w (some ⟨g, o, none⟩) n f) {t m : Nat} (ht : t + m ≤ n) : Rd w (some ⟨g, o + t, none⟩) m (fun x => f (t + x)) := by
  rcases h with h | ⟨g', o', e, hc⟩
  · exact .inl (by omega)
  · cases e
    exact .inr ⟨g, o + t, rfl, fun i hi => by rw [Nat.add_assoc]; exact hc (t + i) (by omega)⟩
theorem one_cell {w : World} {g : Nat} {v : Value} {t : TypeId} (h : w.heap[g]? = some (.cells #[v] t (0, 0))) : w.cell? ⟨g, 0, none⟩ = some v := by rw [cell_of_row _ _ _ _ _ _ h]; rfl
theorem step_appIn {l n : Nat} {ops : Array Oper} {o : Oper} {a : Act} {w : World} {K : Act → World → Prop} {Q : Exit → Act → World → Prop} {E : Prop} (hg : o.guard = none) (s x : Operand) (t : Nat)
    (hop : o.op = Op.call { callee := Callee.builtin Builtin.append, args := #[s, x], argTypes := #[t, t] }) (v1 v2 v' : Value) (w' : World) (hs : a.eval s = v1) (hx : a.eval x = v2)
    (hr : Sem.run Tryd.prog (Builtin.append_ #[t, t] o.type #[v1, v2]) w = .ok v' w') (hK : K (a.put o.dst v') w') :
    if Region.wanted o (yielded ops a.tmps) = true then Oper.wpIn (Fence.wide.inRound l) n Tryd.prog o a w K Q else E := by
  have hw : Region.wanted o (yielded ops a.tmps) = true := by simp [Region.wanted, hg]
  rw [if_pos hw]
  refine ⟨fun f _ => trivial, ?_⟩
  simp [Fence.inRound, execOp, hop, resolve, invoke, builtin, hs, hx, hr, Result.andThen, Oper.semAt]
  exact hK
/-- What stands between the rounds of pack. -/
structure Pki (w0 w : World) (ks : List Nat) (Ob G M len : Nat) (xs : List Value) : Prop where
  kept : Kept ks w0 w
  box : w.heap[Ob]? = some (.cells #[.slice (some ⟨G, 0, none⟩) len M] 37 (0, 0))
  own : w.ownsRow 0 5 1 (.slice (some ⟨G, 0, none⟩) len M) len xs
theorem fin_pk {rl : Nat → Nat} {rb : Nat → Nat → Nat} {w5 Wb V3 V4 : World} {Ob G M L0 r0 k Bk : Nat} {xs : List Value} (h2 : Kept [Ob, G] w5 Wb) (_h3 : Wb.heap[Ob]? = some (.cells #[.slice (some ⟨G, 0, none⟩) L0 M] 37 (0, 0))) (h5 : w5.heap.size + 1 < Wb.heap.size)
    (hk4 : Kept [] Wb V3) (hk5 : Kept [G] V3 V4) (o4 : V4.heap[Ob]? = some (.cells #[.slice (some ⟨G, 0, none⟩) L0 M] 37 (0, 0))) (hown : V4.ownsRow 0 5 1 (.slice (some ⟨G, 0, none⟩) (L0 + r0) M) (L0 + r0) (xs ++ fl (fun t => .int .u8 (rb k t : Int)) r0))
    (hOw : Ob < Bk) (hGO : G < Ob) (hC : Bk + 1 < w5.heap.size) (_h : True) (hX : ctB rl rb (k + 1) = xs ++ fl (fun t => .int .u8 (rb k t : Int)) r0) (hL : ctL rl (k + 1) = L0 + r0) :
    Rnd w5.heap.size (fun W' => Kept [Ob, G] w5 W' ∧ w5.heap.size + 1 < W'.heap.size ∧ W'.heap[Ob]? = some (.cells #[.slice (some ⟨G, 0, none⟩) (ctL rl (k + 1)) M] 37 (0, 0)) ∧ W'.ownsRow 0 5 1 (.slice (some ⟨G, 0, none⟩) (ctL rl (k + 1)) M) (ctL rl (k + 1)) (ctB rl rb (k + 1)))
      Wb (V4.setCell ⟨Ob, 0, none⟩ (.slice (some ⟨G, 0, none⟩) (L0 + r0) M)) := by
  have ks : Kept [Ob] V4 (V4.setCell ⟨Ob, 0, none⟩ (.slice (some ⟨G, 0, none⟩) (L0 + r0) M)) := (Kept.refl _ _).setCell (.inl (by simp)) _
  have kb : Kept [Ob, G] Wb (V4.setCell ⟨Ob, 0, none⟩ (.slice (some ⟨G, 0, none⟩) (L0 + r0) M)) := ((hk4.mono (by simp)).step hk5 (by simp)).step ks (by simp)
  rw [hL, hX]
  refine ⟨⟨h2.trans kb, Nat.lt_of_lt_of_le h5 kb.size, ?_, ks.row hown (fun g hg => by cases hg; simp; omega)⟩, kb.fu (by simp; omega), kb.block _ (by omega) (by simp; omega), kb.block _ (by omega) (by simp; omega)⟩
  rw [heap_setCell_at o4]
  rfl

set_option maxHeartbeats 16000000 in
set_option maxRecDepth 1000000 in
theorem pack_planar (W D : Int) (A : Bool) (po : Option Addr) (n c h : Nat) (ln pb pf pc : Nat → Nat) (F : Nat → Nat → Nat) (w : World) (hV : Vld W (h : Int) D A n ln F) 
    (hP : Pq w po n ln pb pf pc) (hR : ∀ i, i < n → Rd w (some ⟨pb i, pf i, none⟩) (ln i) (F i)) (hpc : ∀ i, i < n → ln i ≤ pc i) :
    Calls Tryd.prog 42 #[fmv 58 59 60 61 62, frv W (h : Int) D A po n c] w fun e w' => ∃ G M, e = .returned (.tuple #[.slice (some ⟨G, 0, none⟩) M M, .int .i64 0]) ∧ w.heap.size ≤ G ∧ M = ctL (plL W h) (np A * h) ∧
      w'.ownsRow 0 5 1 (.slice (some ⟨G, 0, none⟩) M M) M (ctB (plL W h) (plR W h F) (np A * h)) ∧ Kept [] w w' := by
  have hs := hV.shp
  have h1 : 1 ≤ h := by have := hs.2.1; omega
  have h2 : h ≤ 4096 := by have := hs.2.1; omega
  have hn := hV.num
  have hn4 : n ≤ 4 := by rw [hn]; exact np_hi A
  have hn3 : 3 ≤ n := by rw [hn]; exact np_lo A
  have hln : ∀ i, i < n → ln i = wdN W i * h ∧ 1 ≤ wdN W i ∧ wdN W i ≤ 4096 := fun i hi => by
    obtain ⟨a, b, e⟩ := wdN_ok hs i
    refine ⟨?_, a, b⟩
    have := hV.len i hi
    rw [← e, ← Int.natCast_mul] at this
    omega
  have hlb : ∀ i, i < n → ln i ≤ 16777216 := fun i hi => by
    obtain ⟨a, b, e⟩ := hln i hi
    rw [a]
    exact Nat.le_trans (Nat.mul_le_mul e h2) (by decide)
  have hPl : Pl w po n ln F := by
    obtain ⟨g, off, e, hc⟩ := hP
    exact .inr ⟨g, off, e, fun i hi => ⟨_, _, hc i hi, hR i hi⟩⟩
  have CV := Hid.mk (fun (u : World) (hk : Kept [] w u) => valid_any W (h : Int) D A po n c ln F u (hPl.keep hk) (by omega) (fun i hi => by have := hlb i hi; omega))
  rw [vE_zero.2 hV] at CV
  have CZ := Hid.mk (fun u => sizeP W (h : Int) D A u)
  have CR := Hid.mk (fun u => rows_any 58 59 60 61 62 W (h : Int) D A po n c u)
  rw [shE_ok hs] at CZ
  obtain ⟨M, eM⟩ : ∃ M, M = ctL (plL W h) (np A * h) := ⟨_, rfl⟩
  have hMs : sS W (h : Int) (fun x => 2 * x) (fun i => i) (np A) = (M : Int) := by
    rw [eM]
    exact (ctL_sS (plL W h) (fun i => 2 * wdN W i) W h (fun x => 2 * x) (fun i => i) h1 (fun k => rfl) _ (fun i _ => rfl)).symm
  simp only [and_self, if_true, hMs] at CZ
  have hM : M ≤ 200000000 := by
    have := (sS_lo (W := W) (H := (h : Int)) (fun x => 2 * x) (fun i => i) (by omega) (by omega) (fun k => by have := wdN_ok hs (id k); unfold wdN at this; show 2 * (wp W ((k : Nat) : Int)).toNat ≤ 12000; have := wdN_ok hs k; unfold wdN at this; omega) (np A)).2
    rw [hMs] at this
    have h9 := np_hi A
    omega
  have HS := Hid.mk (And.intro hP (And.intro hR (And.intro hpc (And.intro hV (And.intro hln (And.intro eM hn))))))
  obtain ⟨j0, gi, gz0, gz1, gz2⟩ := info_parts Bt.Tryd.info5
  have hmk := fun u : World => run_make_own (P := Tryd.prog) u 0 37 5 j0 (.int .u8 0) 1 Tryd.underlying37 gi gz0 gz1 .i64 .i64 M (by rw [gz2]; omega) (by unfold maxLen; omega) (Nat.zero_le _)
  obtain ⟨mkW, hmkW⟩ := Classical.axiomOfChoice hmk
  have hmk1 := fun u => (hmkW u).1
  have HMK := Hid.mk (fun u => (hmkW u).2)
  clear hmk hmkW hP hR hpc hV hln hlb hPl eM hn hMs hs
  refine (callsIn_wide (n := 0)).1 ?_
  refine callsIn_of_wp_marks Tryd.func42 rfl trivial ?_ rfl
  simp only [Tryd.ntmps42, List.size_toArray, List.length_cons, List.length_nil, Nat.reduceAdd, Nat.reduceSub, Array.replicate_succ, Array.replicate_zero, List.push_toArray, List.append_toArray, List.nil_append, List.cons_append]
  refine wpIn_wide.2 ?_
  have KA := (alloc_kept w (.cells #[fnv 58, fnv 59, fnv 60, fnv 61, fnv 62] 65)).trans (alloc_kept _ (.cells #[.int .i64 W, .int .i64 (h : Int), .int .i64 D, .bool A, .slice po n c] 31))
  go_wp2_with (fail)
  refine (CV.out _ KA).mono ?_
  rintro e w2 ⟨rfl, hk2⟩
  have hA1 := hk2.heap ((alloc_kept (w.alloc (.cells #[fnv 58, fnv 59, fnv 60, fnv 61, fnv 62] 65)) (.cells #[.int .i64 W, .int .i64 (h : Int), .int .i64 D, .bool A, .slice po n c] 31)).heap (heap_alloc_new w (.cells #[fnv 58, fnv 59, fnv 60, fnv 61, fnv 62] 65)) (by simp)) (by simp)
  have hA2 := hk2.heap (heap_alloc_new (w.alloc (.cells #[fnv 58, fnv 59, fnv 60, fnv 61, fnv 62] 65)) (.cells #[.int .i64 W, .int .i64 (h : Int), .int .i64 D, .bool A, .slice po n c] 31)) (by simp)
  have K2 := KA.trans hk2
  rw [World.size_alloc] at hA2
  obtain ⟨B, eB⟩ : ∃ B, B = w.heap.size := ⟨_, rfl⟩
  rw [← eB] at hA1 hA2 ⊢
  have EB := Hid.mk eB
  obtain ⟨⟨p0, p1, p2, p3, p4⟩, _⟩ := five hA1
  obtain ⟨⟨d0, d1, d2, d3, d4⟩, _⟩ := five hA2
  have HA := Hid.mk (And.intro hA1 (And.intro hA2 K2))
  clear hk2 KA hA1 hA2 K2 eB CV
  go_wp2_with (fail)
  refine (CZ.out _).mono ?_
  rintro e w3 ⟨rfl, hk3⟩
  obtain ⟨hA1, hA2, K2⟩ := HA.out
  have hA1 := hk3.heap hA1 (by simp)
  have hA2 := hk3.heap hA2 (by simp)
  have K3 := K2.trans hk3
  obtain ⟨m1, m2⟩ := HMK.out w3
  have hmk2 := hmk1 w3
  obtain ⟨wm, ewm⟩ : ∃ wm, wm = mkW w3 := ⟨_, rfl⟩
  rw [← ewm] at m1 m2 hmk2
  have km : Kept [] w3 wm := (Kept.of_grown m2).mono (by simp)
  have hA1 := km.heap hA1 (by simp)
  have hA2 := km.heap hA2 (by simp)
  have K3 := K3.trans km
  obtain ⟨G, eG⟩ : ∃ G, G = w3.heap.size := ⟨_, rfl⟩
  rw [← eG] at m1 hmk2
  have hGB : B + 1 < w3.heap.size := Nat.lt_of_lt_of_le (lt_of_block HA.out.2.1) hk3.size
  rw [← eG] at hGB
  have hGw : G < wm.heap.size := (m1.lt _ rfl).2
  clear p0 p1 p2 p3 p4 d0 d1 d2 d3 d4 hk3 m2 hmk1 HMK ewm HA K2 km eG CZ
  have hO := heap_alloc_new wm (.cells #[.slice (some ⟨G, 0, none⟩) 0 M] 37)
  have ka := alloc_kept wm (.cells #[.slice (some ⟨G, 0, none⟩) 0 M] 37)
  obtain ⟨wo, ewo⟩ : ∃ wo, wm.alloc (.cells #[.slice (some ⟨G, 0, none⟩) 0 M] 37) = wo := ⟨_, rfl⟩
  rw [ewo] at hO ka
  have hA1 := ka.heap hA1 (by simp)
  have hA2 := ka.heap hA2 (by simp)
  have K3 := K3.trans ka
  have m1 := ka.row m1 (by simp)
  obtain ⟨Ob, eOb⟩ : ∃ Ob, Ob = wm.heap.size := ⟨_, rfl⟩
  rw [← eOb] at hO hGw
  have hOw : Ob < wo.heap.size := lt_of_block hO
  obtain ⟨⟨p0, p1, p2, p3, p4⟩, _⟩ := five hA1
  obtain ⟨⟨d0, d1, d2, d3, d4⟩, _⟩ := five hA2
  have HA := Hid.mk (And.intro hA1 (And.intro hA2 (And.intro K3 (And.intro m1 (And.intro hO (And.intro hGB (And.intro hGw hOw)))))))
  have HOb := Hid.mk eOb
  clear hA1 hA2 K3 m1 hGB hGw hO ka eOb hOw
  go_wp2_with (fail)
  rw [← HOb.out]
  refine (CR.out _).mono ?_
  rintro e w5 ⟨rfl, h5⟩
  have H5 := Hid.mk h5
  clear h5
  go_wp2_with (fail)
  have h5 := H5.out
  clear H5
  have kA := (alloc_kept wo (.cells #[fnv 58, fnv 59, fnv 60, fnv 61, fnv 62] 65)).trans (alloc_kept _ (.cells #[.int .i64 W, .int .i64 (h : Int), .int .i64 D, .bool A, .slice po n c] 31))
  have hC1 := (alloc_kept (wo.alloc (.cells #[fnv 58, fnv 59, fnv 60, fnv 61, fnv 62] 65)) (.cells #[.int .i64 W, .int .i64 (h : Int), .int .i64 D, .bool A, .slice po n c] 31)).heap (heap_alloc_new wo (.cells #[fnv 58, fnv 59, fnv 60, fnv 61, fnv 62] 65)) (by simp)
  have hC2 := heap_alloc_new (wo.alloc (.cells #[fnv 58, fnv 59, fnv 60, fnv 61, fnv 62] 65)) (.cells #[.int .i64 W, .int .i64 (h : Int), .int .i64 D, .bool A, .slice po n c] 31)
  rw [World.size_alloc, ← h5] at hC2
  rw [← h5] at kA hC1
  obtain ⟨hA1, hA2, K3, m1, hO, hGB, hGO, hOw⟩ := HA.out
  obtain ⟨hP, hR, hpc, hV, hln, eM, hn⟩ := HS.out
  obtain ⟨Bk, eBk⟩ : ∃ Bk, Bk = wo.heap.size := ⟨_, rfl⟩
  rw [← eBk] at hC1 hC2 hOw ⊢
  have hC3 := lt_of_block hC2
  have RIO : Rio w5 Bk (Bk + 1) 58 59 60 61 62 W h D A po n c ln pb pf pc := by
    obtain ⟨⟨c0, c1, c2, c3, c4⟩, _⟩ := five hC1
    obtain ⟨⟨e0, e1, e2, e3, e4⟩, _⟩ := five hC2
    exact ⟨c0, c1, c2, c3, c4, ⟨e0, e1, e2, e3, e4⟩, hP.keep (K3.trans kA)⟩
  have hPO : ∀ g off, po = some ⟨g, off, none⟩ → g < w.heap.size := fun g off e => by
    obtain ⟨g', off', e', hc⟩ := hP
    rw [e] at e'
    cases e'
    exact World.block_lt_of_cell? w _ (hc 0 (by omega))
  have p3' := cell_keep kA p3 (by simp)
  have hBw := EB.out
  have m5 := kA.row m1 (by simp)
  have hO5 := kA.heap hO (by simp)
  have K5 := K3.trans kA
  have hMe := eM
  have HEQ := Hid.mk (And.intro hn (And.intro hMe hBw))
  clear p0 p1 p2 p3 p4 d0 d1 d2 d3 d4 h5 kA hC1 hC2 hA1 hA2 K3 m1 hO CR HA HOb ewo eBk eM
  refine range_lawV (gf := 93) (lb := #[.pointer (some ⟨Bk, 0, none⟩), .pointer (some ⟨Bk + 1, 0, none⟩)]) ?hg (enters_of Tryd.func93 (by kernel_rfl) rfl)
    (fun k W' => Kept [Ob, G] w5 W' ∧ w5.heap.size + 1 < W'.heap.size ∧ W'.heap[Ob]? = some (.cells #[.slice (some ⟨G, 0, none⟩) (ctL (plL W h) k) M] 37 (0, 0)) ∧ W'.ownsRow 0 5 1 (.slice (some ⟨G, 0, none⟩) (ctL (plL W h) k) M) (ctL (plL W h) k) (ctB (plL W h) (plR W h F) k))
    (np A * h) (fun k W' v => Yv W' 1 pb pf pc (wdN W) (fun _ => k / h) (k % h) v) ?hps ?put ?kept ?start ?iter ?body ?done
  case hg => rfl
  case hps =>
    rintro k W' v ⟨g, rfl, _⟩
    rfl
  case put =>
    rintro k W' o ⟨a1, a2, a3, a4⟩
    have ks : Kept [w5.heap.size + 1] W' (W'.putObj (w5.heap.size + 1) o) := (Kept.refl _ W').putObj o (.inl (by simp))
    exact ⟨a1.step ks (fun x hx => by simp at hx; right; omega), by rw [World.putObj_size]; exact a2, ks.heap a3 (by simp; omega), ks.row a4 (fun g hg => by cases hg; simp; omega)⟩
  case kept =>
    rintro k W1 W2 ⟨a1, a2, a3, a4⟩ hk
    exact ⟨a1.step hk (by simp), Nat.lt_of_lt_of_le a2 hk.size, hk.heap a3 (by simp), hk.row a4 (by simp)⟩
  case start =>
    intro W1 hk1 hs1
    exact ⟨hk1.mono (by simp), by omega, hk1.heap hO5 (by simp), hk1.row m5 (by simp)⟩
  case iter =>
    intro J hJI hJK hJY W1 hJ0 ht
    refine iter_planar (w5.heap.size + 1) Bk (Bk + 1) W D A po n c h ln pb pf pc (wdN W) hn h1 h2 hln hpc J (w5.heap.size + 2) (fun k W' hJ => RIO.keeps (hJI k W' hJ).1 (by simp; omega) (by simp; omega) (fun g off e => by have := hPO g off e; simp; omega)) hJK (fun k W' i y v hJ hk hi hy hv => hJY k W' v hJ ?_ ?_) W1 hJ0 ht
    · rw [hk]
      have : (i + 1) * h ≤ np A * h := Nat.mul_le_mul_right _ hi
      rw [Nat.add_mul] at this
      omega
    · have q1 : k / h = i := by rw [hk, Nat.add_comm, Nat.add_mul_div_right _ _ (by omega), Nat.div_eq_of_lt hy]; omega
      have q2 : k % h = y := by rw [hk, Nat.add_comm, Nat.add_mul_mod_self_right, Nat.mod_eq_of_lt hy]
      show Yv W' 1 pb pf pc (wdN W) (fun _ => k / h) (k % h) v
      first | (rw [q1, q2]; exact hv) | (rw [q2]; exact hv)
  case body =>
    rintro k v W' r hv hkn ⟨a1, a2, a3, a4⟩ hl
    clear hn hMe hBw
    obtain ⟨g, rfl, hrw⟩ := hv
    gi_wp2
    refine ⟨Kept.refl _ _, fun Wb hWb => ?_⟩
    obtain ⟨rb, hWb⟩ := hWb
    obtain ⟨hn, hMe, hBw⟩ := HEQ.out
    have ks : Kept [w5.heap.size + 1] W' Wb := by rw [hWb]; exact (Kept.refl _ W').putObj _ (.inl (by simp))
    have hgl : g ≠ w5.heap.size + 1 := fun e => by rw [← e] at hl; unfold Rwl at hrw; rw [hrw] at hl; cases hl
    have b1 := hrw.keep ks (by simp; omega)
    have b2 : Kept [Ob, G] w5 Wb := a1.step ks (fun x hx => by simp at hx; right; omega)
    have b3 := ks.heap a3 (by simp; omega)
    have b4 := ks.row a4 (fun g hg => by cases hg; simp; omega)
    have b5 : w5.heap.size + 1 < Wb.heap.size := Nat.lt_of_lt_of_le a2 ks.size
    have b6 : Kept [] w Wb := K5.step b2 (fun x hx => by right; simp at hx; omega)
    clear hrw a1 a2 a3 a4 hl hWb ks
    obtain ⟨y, ey⟩ : ∃ y, y = k % h := ⟨_, rfl⟩
    have hy : y < h := by rw [ey]; exact Nat.mod_lt _ (by omega)
    obtain ⟨i, ei⟩ : ∃ i, i = k / h := ⟨_, rfl⟩
    have hi : i < n := by rw [ei, hn]; exact Nat.div_lt_of_lt_mul (by rw [Nat.mul_comm]; exact hkn)
    rw [← ei, ← ey] at b1
    obtain ⟨l1, l2, l3⟩ := hln i hi
    have hyl : y * wdN W i + wdN W i ≤ ln i := by
      have : (y + 1) * wdN W i ≤ h * wdN W i := Nat.mul_le_mul_right _ (by omega)
      rw [Nat.add_mul, Nat.one_mul, Nat.mul_comm h] at this
      omega
    have CWR : Hid (∀ u : World, Kept [] Wb u → Calls Tryd.prog 61 #[.slice (some ⟨g, 0, none⟩) 1 1] u fun e w' => ∃ g2 c1, e = .returned (.slice (some ⟨g2, 0, none⟩) (plL W h k) c1) ∧ u.heap.size ≤ g2 ∧ Cb w' g2 (plL W h k) (plR W h F k) ∧ Kept [] u w') := Hid.mk (fun u hk => by
      refine (writeP g 0 1 (wdN W i) (pc i - y * wdN W i) (some ⟨pb i, pf i + y * wdN W i, none⟩) (fun x => if x < wdN W i then F i (y * wdN W i + x) else 0) u (cell_keep hk (b1.at (by omega)) (by simp)) ((((hR i hi).keep (b6.trans hk)).shift hyl).congr (fun x hx => by simp only [hx, if_true])) (fun x => ?_) (by omega)).mono ?_
      · show (if x < wdN W i then F i (y * wdN W i + x) else 0) < 65536
        split
        · have h5 := hV.top i hi (y * wdN W i + x) (by omega)
          have h6 : mx D ≤ 4095 := by unfold mx; split <;> omega
          omega
        · decide
      · rintro e w' ⟨g2, c1, rfl, z1, z2, z3⟩
        have e1 : plL W h k = 2 * wdN W i := by unfold plL; rw [← ei]
        refine ⟨g2, c1, by rw [e1], z1, ?_, z3⟩
        rw [e1]
        refine z2.congr (fun t ht => ?_)
        unfold plR plB
        rw [← ei, ← ey]
        simp only [show t / 2 < wdN W i by omega, if_true])
    have b7 := cell_keep b2 p3' (by simp; omega)
    have b8 := one_cell b3
    have b9 : Wb.frozen? ⟨Ob, 0, none⟩ = false := by simp [World.frozen?, b3]
    have hsum : ctL (plL W h) k + (plL W h) k ≤ M := by
      rw [hMe]
      have := ctL_mono (plL W h) (show k + 1 ≤ np A * h from hkn)
      rwa [ctL] at this
    obtain ⟨L0, eL0⟩ : ∃ L0, L0 = ctL (plL W h) k := ⟨_, rfl⟩
    obtain ⟨r0, er0⟩ : ∃ r0, r0 = (plL W h) k := ⟨_, rfl⟩
    have hXS : ctB (plL W h) (plR W h F) (k + 1) = ctB (plL W h) (plR W h F) k ++ fl (fun t => .int .u8 ((plR W h F) k t : Int)) ((plL W h) k) := rfl
    have hLS : ctL (plL W h) (k + 1) = ctL (plL W h) k + (plL W h) k := rfl
    obtain ⟨xs, exs⟩ : ∃ xs, xs = ctB (plL W h) (plR W h F) k := ⟨_, rfl⟩
    rw [← eL0, ← er0] at hsum hLS
    rw [← er0, ← exs] at hXS
    rw [← eL0, ← exs] at b4
    rw [← eL0] at b3 b8
    rw [← er0] at CWR
    have HB := Hid.mk (And.intro b2 (And.intro b3 (And.intro b4 (And.intro b5 (And.intro b6 (And.intro hsum (And.intro hXS hLS)))))))
    clear b1 b2 b3 b4 b5 b6 hsum hXS hLS eL0 er0 exs hMe hn hBw
    have hmix : Tryd.prog.follows .mixedOrders = true := by kernel_rfl
    gi_wp2
    refine wpIn_region_any (by assumption) ?_
    try (change wpAnyIn _ _ _ _ _ _ _ _ _ (World.drew _))
    refine wpAnyIn_ready (rs := [0, 1, 3]) (by kernel_rfl) (by simp) ?_
    refine AllReadyIn.cons rfl (fun K9 hK9 => ?_) ?_
    · go_simp
      refine hK9 _ _ ?_
      clear hK9 K9
      refine wpAnyIn_ready (rs := [1, 3]) (by kernel_rfl) (by simp) ?_
      refine AllReadyIn.cons rfl (fun K9 hK9 => ?_) ?_
      · go_simp
        refine hK9 _ _ ?_
        clear hK9 K9
        refine wpAnyIn_ready (rs := [2, 3]) (by kernel_rfl) (by simp) ?_
        refine AllReadyIn.cons rfl (fun K9 hK9 => ?_) ?_
        · go_simp
          refine hK9 _ _ ?_
          clear hK9 K9
          refine wpAnyIn_ready (rs := [3]) (by kernel_rfl) (by simp) ?_
          refine AllReadyIn.cons rfl (fun K9 hK9 => ?_) AllReadyIn.nil
          go_simp
          refine hK9 _ _ ?_
          clear hK9 K9
          refine wpAnyIn_ready (rs := [4]) (by kernel_rfl) (by simp) ?_
          refine AllReadyIn.cons rfl (fun K9 hK9 => ?_) AllReadyIn.nil
          go_simp
          refine ⟨trivial, rfl, ?_⟩
          refine (CallsIn.inRound _ (callsIn_wide.2 (CWR.out _ ((Kept.refl [] Wb).drew)))).mono ?_
          rintro e V3 ⟨g2, c1, rfl, hg2, hcb, hk3⟩
          have hk4 := hk3.undrew
          have d1 := cell_keep hk4 b8 (by simp)
          have d2 := cell_keep hk4 b7 (by simp)
          obtain ⟨V4, happ, hown4, hk5⟩ := app_room V3 G L0 M r0 c1 g2 xs _ (hk4.row HB.out.2.2.1 (by simp)) hcb HB.out.2.2.2.2.2.1
          have o4 := hk5.heap (hk4.heap HB.out.2.1 (by simp)) (by simp; omega)
          have d3 := one_cell o4
          have d4 : V4.frozen? ⟨Ob, 0, none⟩ = false := by simp [World.frozen?, o4]
          show K9 _ _
          refine hK9 _ _ ?_
          clear hK9 K9
          try simp only [Act.put, List.getElem_toArray, List.getElem_cons_zero, List.getElem_cons_succ, List.setIfInBounds_toArray, List.set_cons_zero, List.set_cons_succ]
          refine wpAnyIn_ready (rs := [5]) (by kernel_rfl) (by simp) ?_
          refine AllReadyIn.cons rfl (fun K9 hK9 => ?_) AllReadyIn.nil
          refine step_appIn rfl _ _ 37 rfl _ _ _ _ rfl rfl happ ?_
          refine hK9 _ _ ?_
          clear hK9 K9
          simp only [Act.put, List.getElem_toArray, List.getElem_cons_zero, List.getElem_cons_succ, List.setIfInBounds_toArray, List.set_cons_zero, List.set_cons_succ]
          refine wpAnyIn_ready (rs := [6]) (by kernel_rfl) (by simp) ?_
          refine AllReadyIn.cons rfl (fun K9 hK9 => ?_) AllReadyIn.nil
          go_simp
          refine hK9 _ _ ?_
          clear hK9 K9
          refine wpAnyIn_done (by kernel_rfl) ?_ _
          gi_wp2
          exact fin_pk HB.out.1 HB.out.2.1 HB.out.2.2.2.1 hk4 hk5 o4 hown4 hOw hGO hC3 trivial HB.out.2.2.2.2.2.2.1 HB.out.2.2.2.2.2.2.2
        refine AllReadyIn.cons rfl (fun K9 hK9 => ?_) AllReadyIn.nil
        go_simp
        refine hK9 _ _ ?_
        clear hK9 K9
        refine wpAnyIn_ready (rs := [2]) (by kernel_rfl) (by simp) ?_
        refine AllReadyIn.cons rfl (fun K9 hK9 => ?_) AllReadyIn.nil
        go_simp
        refine hK9 _ _ ?_
        clear hK9 K9
        refine wpAnyIn_ready (rs := [4]) (by kernel_rfl) (by simp) ?_
        refine AllReadyIn.cons rfl (fun K9 hK9 => ?_) AllReadyIn.nil
        go_simp
        refine ⟨trivial, rfl, ?_⟩
        refine (CallsIn.inRound _ (callsIn_wide.2 (CWR.out _ ((Kept.refl [] Wb).drew)))).mono ?_
        rintro e V3 ⟨g2, c1, rfl, hg2, hcb, hk3⟩
        have hk4 := hk3.undrew
        have d1 := cell_keep hk4 b8 (by simp)
        have d2 := cell_keep hk4 b7 (by simp)
        obtain ⟨V4, happ, hown4, hk5⟩ := app_room V3 G L0 M r0 c1 g2 xs _ (hk4.row HB.out.2.2.1 (by simp)) hcb HB.out.2.2.2.2.2.1
        have o4 := hk5.heap (hk4.heap HB.out.2.1 (by simp)) (by simp; omega)
        have d3 := one_cell o4
        have d4 : V4.frozen? ⟨Ob, 0, none⟩ = false := by simp [World.frozen?, o4]
        show K9 _ _
        refine hK9 _ _ ?_
        clear hK9 K9
        try simp only [Act.put, List.getElem_toArray, List.getElem_cons_zero, List.getElem_cons_succ, List.setIfInBounds_toArray, List.set_cons_zero, List.set_cons_succ]
        refine wpAnyIn_ready (rs := [5]) (by kernel_rfl) (by simp) ?_
        refine AllReadyIn.cons rfl (fun K9 hK9 => ?_) AllReadyIn.nil
        refine step_appIn rfl _ _ 37 rfl _ _ _ _ rfl rfl happ ?_
        refine hK9 _ _ ?_
        clear hK9 K9
        simp only [Act.put, List.getElem_toArray, List.getElem_cons_zero, List.getElem_cons_succ, List.setIfInBounds_toArray, List.set_cons_zero, List.set_cons_succ]
        refine wpAnyIn_ready (rs := [6]) (by kernel_rfl) (by simp) ?_
        refine AllReadyIn.cons rfl (fun K9 hK9 => ?_) AllReadyIn.nil
        go_simp
        refine hK9 _ _ ?_
        clear hK9 K9
        refine wpAnyIn_done (by kernel_rfl) ?_ _
        gi_wp2
        exact fin_pk HB.out.1 HB.out.2.1 HB.out.2.2.2.1 hk4 hk5 o4 hown4 hOw hGO hC3 trivial HB.out.2.2.2.2.2.2.1 HB.out.2.2.2.2.2.2.2
      refine AllReadyIn.cons rfl (fun K9 hK9 => ?_) AllReadyIn.nil
      go_simp
      refine hK9 _ _ ?_
      clear hK9 K9
      refine wpAnyIn_ready (rs := [1]) (by kernel_rfl) (by simp) ?_
      refine AllReadyIn.cons rfl (fun K9 hK9 => ?_) AllReadyIn.nil
      go_simp
      refine hK9 _ _ ?_
      clear hK9 K9
      refine wpAnyIn_ready (rs := [2]) (by kernel_rfl) (by simp) ?_
      refine AllReadyIn.cons rfl (fun K9 hK9 => ?_) AllReadyIn.nil
      go_simp
      refine hK9 _ _ ?_
      clear hK9 K9
      refine wpAnyIn_ready (rs := [4]) (by kernel_rfl) (by simp) ?_
      refine AllReadyIn.cons rfl (fun K9 hK9 => ?_) AllReadyIn.nil
      go_simp
      refine ⟨trivial, rfl, ?_⟩
      refine (CallsIn.inRound _ (callsIn_wide.2 (CWR.out _ ((Kept.refl [] Wb).drew)))).mono ?_
      rintro e V3 ⟨g2, c1, rfl, hg2, hcb, hk3⟩
      have hk4 := hk3.undrew
      have d1 := cell_keep hk4 b8 (by simp)
      have d2 := cell_keep hk4 b7 (by simp)
      obtain ⟨V4, happ, hown4, hk5⟩ := app_room V3 G L0 M r0 c1 g2 xs _ (hk4.row HB.out.2.2.1 (by simp)) hcb HB.out.2.2.2.2.2.1
      have o4 := hk5.heap (hk4.heap HB.out.2.1 (by simp)) (by simp; omega)
      have d3 := one_cell o4
      have d4 : V4.frozen? ⟨Ob, 0, none⟩ = false := by simp [World.frozen?, o4]
      show K9 _ _
      refine hK9 _ _ ?_
      clear hK9 K9
      try simp only [Act.put, List.getElem_toArray, List.getElem_cons_zero, List.getElem_cons_succ, List.setIfInBounds_toArray, List.set_cons_zero, List.set_cons_succ]
      refine wpAnyIn_ready (rs := [5]) (by kernel_rfl) (by simp) ?_
      refine AllReadyIn.cons rfl (fun K9 hK9 => ?_) AllReadyIn.nil
      refine step_appIn rfl _ _ 37 rfl _ _ _ _ rfl rfl happ ?_
      refine hK9 _ _ ?_
      clear hK9 K9
      simp only [Act.put, List.getElem_toArray, List.getElem_cons_zero, List.getElem_cons_succ, List.setIfInBounds_toArray, List.set_cons_zero, List.set_cons_succ]
      refine wpAnyIn_ready (rs := [6]) (by kernel_rfl) (by simp) ?_
      refine AllReadyIn.cons rfl (fun K9 hK9 => ?_) AllReadyIn.nil
      go_simp
      refine hK9 _ _ ?_
      clear hK9 K9
      refine wpAnyIn_done (by kernel_rfl) ?_ _
      gi_wp2
      exact fin_pk HB.out.1 HB.out.2.1 HB.out.2.2.2.1 hk4 hk5 o4 hown4 hOw hGO hC3 trivial HB.out.2.2.2.2.2.2.1 HB.out.2.2.2.2.2.2.2
    refine AllReadyIn.cons rfl (fun K9 hK9 => ?_) ?_
    · go_simp
      refine hK9 _ _ ?_
      clear hK9 K9
      refine wpAnyIn_ready (rs := [0, 2, 3]) (by kernel_rfl) (by simp) ?_
      refine AllReadyIn.cons rfl (fun K9 hK9 => ?_) ?_
      · go_simp
        refine hK9 _ _ ?_
        clear hK9 K9
        refine wpAnyIn_ready (rs := [2, 3]) (by kernel_rfl) (by simp) ?_
        refine AllReadyIn.cons rfl (fun K9 hK9 => ?_) ?_
        · go_simp
          refine hK9 _ _ ?_
          clear hK9 K9
          refine wpAnyIn_ready (rs := [3]) (by kernel_rfl) (by simp) ?_
          refine AllReadyIn.cons rfl (fun K9 hK9 => ?_) AllReadyIn.nil
          go_simp
          refine hK9 _ _ ?_
          clear hK9 K9
          refine wpAnyIn_ready (rs := [4]) (by kernel_rfl) (by simp) ?_
          refine AllReadyIn.cons rfl (fun K9 hK9 => ?_) AllReadyIn.nil
          go_simp
          refine ⟨trivial, rfl, ?_⟩
          refine (CallsIn.inRound _ (callsIn_wide.2 (CWR.out _ ((Kept.refl [] Wb).drew)))).mono ?_
          rintro e V3 ⟨g2, c1, rfl, hg2, hcb, hk3⟩
          have hk4 := hk3.undrew
          have d1 := cell_keep hk4 b8 (by simp)
          have d2 := cell_keep hk4 b7 (by simp)
          obtain ⟨V4, happ, hown4, hk5⟩ := app_room V3 G L0 M r0 c1 g2 xs _ (hk4.row HB.out.2.2.1 (by simp)) hcb HB.out.2.2.2.2.2.1
          have o4 := hk5.heap (hk4.heap HB.out.2.1 (by simp)) (by simp; omega)
          have d3 := one_cell o4
          have d4 : V4.frozen? ⟨Ob, 0, none⟩ = false := by simp [World.frozen?, o4]
          show K9 _ _
          refine hK9 _ _ ?_
          clear hK9 K9
          try simp only [Act.put, List.getElem_toArray, List.getElem_cons_zero, List.getElem_cons_succ, List.setIfInBounds_toArray, List.set_cons_zero, List.set_cons_succ]
          refine wpAnyIn_ready (rs := [5]) (by kernel_rfl) (by simp) ?_
          refine AllReadyIn.cons rfl (fun K9 hK9 => ?_) AllReadyIn.nil
          refine step_appIn rfl _ _ 37 rfl _ _ _ _ rfl rfl happ ?_
          refine hK9 _ _ ?_
          clear hK9 K9
          simp only [Act.put, List.getElem_toArray, List.getElem_cons_zero, List.getElem_cons_succ, List.setIfInBounds_toArray, List.set_cons_zero, List.set_cons_succ]
          refine wpAnyIn_ready (rs := [6]) (by kernel_rfl) (by simp) ?_
          refine AllReadyIn.cons rfl (fun K9 hK9 => ?_) AllReadyIn.nil
          go_simp
          refine hK9 _ _ ?_
          clear hK9 K9
          refine wpAnyIn_done (by kernel_rfl) ?_ _
          gi_wp2
          exact fin_pk HB.out.1 HB.out.2.1 HB.out.2.2.2.1 hk4 hk5 o4 hown4 hOw hGO hC3 trivial HB.out.2.2.2.2.2.2.1 HB.out.2.2.2.2.2.2.2
        refine AllReadyIn.cons rfl (fun K9 hK9 => ?_) AllReadyIn.nil
        go_simp
        refine hK9 _ _ ?_
        clear hK9 K9
        refine wpAnyIn_ready (rs := [2]) (by kernel_rfl) (by simp) ?_
        refine AllReadyIn.cons rfl (fun K9 hK9 => ?_) AllReadyIn.nil
        go_simp
        refine hK9 _ _ ?_
        clear hK9 K9
        refine wpAnyIn_ready (rs := [4]) (by kernel_rfl) (by simp) ?_
        refine AllReadyIn.cons rfl (fun K9 hK9 => ?_) AllReadyIn.nil
        go_simp
        refine ⟨trivial, rfl, ?_⟩
        refine (CallsIn.inRound _ (callsIn_wide.2 (CWR.out _ ((Kept.refl [] Wb).drew)))).mono ?_
        rintro e V3 ⟨g2, c1, rfl, hg2, hcb, hk3⟩
        have hk4 := hk3.undrew
        have d1 := cell_keep hk4 b8 (by simp)
        have d2 := cell_keep hk4 b7 (by simp)
        obtain ⟨V4, happ, hown4, hk5⟩ := app_room V3 G L0 M r0 c1 g2 xs _ (hk4.row HB.out.2.2.1 (by simp)) hcb HB.out.2.2.2.2.2.1
        have o4 := hk5.heap (hk4.heap HB.out.2.1 (by simp)) (by simp; omega)
        have d3 := one_cell o4
        have d4 : V4.frozen? ⟨Ob, 0, none⟩ = false := by simp [World.frozen?, o4]
        show K9 _ _
        refine hK9 _ _ ?_
        clear hK9 K9
        try simp only [Act.put, List.getElem_toArray, List.getElem_cons_zero, List.getElem_cons_succ, List.setIfInBounds_toArray, List.set_cons_zero, List.set_cons_succ]
        refine wpAnyIn_ready (rs := [5]) (by kernel_rfl) (by simp) ?_
        refine AllReadyIn.cons rfl (fun K9 hK9 => ?_) AllReadyIn.nil
        refine step_appIn rfl _ _ 37 rfl _ _ _ _ rfl rfl happ ?_
        refine hK9 _ _ ?_
        clear hK9 K9
        simp only [Act.put, List.getElem_toArray, List.getElem_cons_zero, List.getElem_cons_succ, List.setIfInBounds_toArray, List.set_cons_zero, List.set_cons_succ]
        refine wpAnyIn_ready (rs := [6]) (by kernel_rfl) (by simp) ?_
        refine AllReadyIn.cons rfl (fun K9 hK9 => ?_) AllReadyIn.nil
        go_simp
        refine hK9 _ _ ?_
        clear hK9 K9
        refine wpAnyIn_done (by kernel_rfl) ?_ _
        gi_wp2
        exact fin_pk HB.out.1 HB.out.2.1 HB.out.2.2.2.1 hk4 hk5 o4 hown4 hOw hGO hC3 trivial HB.out.2.2.2.2.2.2.1 HB.out.2.2.2.2.2.2.2
      refine AllReadyIn.cons rfl (fun K9 hK9 => ?_) ?_
      · go_simp
        refine hK9 _ _ ?_
        clear hK9 K9
        refine wpAnyIn_ready (rs := [0, 3]) (by kernel_rfl) (by simp) ?_
        refine AllReadyIn.cons rfl (fun K9 hK9 => ?_) ?_
        · go_simp
          refine hK9 _ _ ?_
          clear hK9 K9
          refine wpAnyIn_ready (rs := [3]) (by kernel_rfl) (by simp) ?_
          refine AllReadyIn.cons rfl (fun K9 hK9 => ?_) AllReadyIn.nil
          go_simp
          refine hK9 _ _ ?_
          clear hK9 K9
          refine wpAnyIn_ready (rs := [4]) (by kernel_rfl) (by simp) ?_
          refine AllReadyIn.cons rfl (fun K9 hK9 => ?_) AllReadyIn.nil
          go_simp
          refine ⟨trivial, rfl, ?_⟩
          refine (CallsIn.inRound _ (callsIn_wide.2 (CWR.out _ ((Kept.refl [] Wb).drew)))).mono ?_
          rintro e V3 ⟨g2, c1, rfl, hg2, hcb, hk3⟩
          have hk4 := hk3.undrew
          have d1 := cell_keep hk4 b8 (by simp)
          have d2 := cell_keep hk4 b7 (by simp)
          obtain ⟨V4, happ, hown4, hk5⟩ := app_room V3 G L0 M r0 c1 g2 xs _ (hk4.row HB.out.2.2.1 (by simp)) hcb HB.out.2.2.2.2.2.1
          have o4 := hk5.heap (hk4.heap HB.out.2.1 (by simp)) (by simp; omega)
          have d3 := one_cell o4
          have d4 : V4.frozen? ⟨Ob, 0, none⟩ = false := by simp [World.frozen?, o4]
          show K9 _ _
          refine hK9 _ _ ?_
          clear hK9 K9
          try simp only [Act.put, List.getElem_toArray, List.getElem_cons_zero, List.getElem_cons_succ, List.setIfInBounds_toArray, List.set_cons_zero, List.set_cons_succ]
          refine wpAnyIn_ready (rs := [5]) (by kernel_rfl) (by simp) ?_
          refine AllReadyIn.cons rfl (fun K9 hK9 => ?_) AllReadyIn.nil
          refine step_appIn rfl _ _ 37 rfl _ _ _ _ rfl rfl happ ?_
          refine hK9 _ _ ?_
          clear hK9 K9
          simp only [Act.put, List.getElem_toArray, List.getElem_cons_zero, List.getElem_cons_succ, List.setIfInBounds_toArray, List.set_cons_zero, List.set_cons_succ]
          refine wpAnyIn_ready (rs := [6]) (by kernel_rfl) (by simp) ?_
          refine AllReadyIn.cons rfl (fun K9 hK9 => ?_) AllReadyIn.nil
          go_simp
          refine hK9 _ _ ?_
          clear hK9 K9
          refine wpAnyIn_done (by kernel_rfl) ?_ _
          gi_wp2
          exact fin_pk HB.out.1 HB.out.2.1 HB.out.2.2.2.1 hk4 hk5 o4 hown4 hOw hGO hC3 trivial HB.out.2.2.2.2.2.2.1 HB.out.2.2.2.2.2.2.2
        refine AllReadyIn.cons rfl (fun K9 hK9 => ?_) AllReadyIn.nil
        go_simp
        refine hK9 _ _ ?_
        clear hK9 K9
        refine wpAnyIn_ready (rs := [0, 4]) (by kernel_rfl) (by simp) ?_
        refine AllReadyIn.cons rfl (fun K9 hK9 => ?_) ?_
        · go_simp
          refine hK9 _ _ ?_
          clear hK9 K9
          refine wpAnyIn_ready (rs := [4]) (by kernel_rfl) (by simp) ?_
          refine AllReadyIn.cons rfl (fun K9 hK9 => ?_) AllReadyIn.nil
          go_simp
          refine ⟨trivial, rfl, ?_⟩
          refine (CallsIn.inRound _ (callsIn_wide.2 (CWR.out _ ((Kept.refl [] Wb).drew)))).mono ?_
          rintro e V3 ⟨g2, c1, rfl, hg2, hcb, hk3⟩
          have hk4 := hk3.undrew
          have d1 := cell_keep hk4 b8 (by simp)
          have d2 := cell_keep hk4 b7 (by simp)
          obtain ⟨V4, happ, hown4, hk5⟩ := app_room V3 G L0 M r0 c1 g2 xs _ (hk4.row HB.out.2.2.1 (by simp)) hcb HB.out.2.2.2.2.2.1
          have o4 := hk5.heap (hk4.heap HB.out.2.1 (by simp)) (by simp; omega)
          have d3 := one_cell o4
          have d4 : V4.frozen? ⟨Ob, 0, none⟩ = false := by simp [World.frozen?, o4]
          show K9 _ _
          refine hK9 _ _ ?_
          clear hK9 K9
          try simp only [Act.put, List.getElem_toArray, List.getElem_cons_zero, List.getElem_cons_succ, List.setIfInBounds_toArray, List.set_cons_zero, List.set_cons_succ]
          refine wpAnyIn_ready (rs := [5]) (by kernel_rfl) (by simp) ?_
          refine AllReadyIn.cons rfl (fun K9 hK9 => ?_) AllReadyIn.nil
          refine step_appIn rfl _ _ 37 rfl _ _ _ _ rfl rfl happ ?_
          refine hK9 _ _ ?_
          clear hK9 K9
          simp only [Act.put, List.getElem_toArray, List.getElem_cons_zero, List.getElem_cons_succ, List.setIfInBounds_toArray, List.set_cons_zero, List.set_cons_succ]
          refine wpAnyIn_ready (rs := [6]) (by kernel_rfl) (by simp) ?_
          refine AllReadyIn.cons rfl (fun K9 hK9 => ?_) AllReadyIn.nil
          go_simp
          refine hK9 _ _ ?_
          clear hK9 K9
          refine wpAnyIn_done (by kernel_rfl) ?_ _
          gi_wp2
          exact fin_pk HB.out.1 HB.out.2.1 HB.out.2.2.2.1 hk4 hk5 o4 hown4 hOw hGO hC3 trivial HB.out.2.2.2.2.2.2.1 HB.out.2.2.2.2.2.2.2
        refine AllReadyIn.cons rfl (fun K9 hK9 => ?_) AllReadyIn.nil
        go_simp
        refine ⟨trivial, rfl, ?_⟩
        refine (CallsIn.inRound _ (callsIn_wide.2 (CWR.out _ ((Kept.refl [] Wb).drew)))).mono ?_
        rintro e V3 ⟨g2, c1, rfl, hg2, hcb, hk3⟩
        have hk4 := hk3.undrew
        have d1 := cell_keep hk4 b8 (by simp)
        have d2 := cell_keep hk4 b7 (by simp)
        obtain ⟨V4, happ, hown4, hk5⟩ := app_room V3 G L0 M r0 c1 g2 xs _ (hk4.row HB.out.2.2.1 (by simp)) hcb HB.out.2.2.2.2.2.1
        have o4 := hk5.heap (hk4.heap HB.out.2.1 (by simp)) (by simp; omega)
        have d3 := one_cell o4
        have d4 : V4.frozen? ⟨Ob, 0, none⟩ = false := by simp [World.frozen?, o4]
        show K9 _ _
        refine hK9 _ _ ?_
        clear hK9 K9
        try simp only [Act.put, List.getElem_toArray, List.getElem_cons_zero, List.getElem_cons_succ, List.setIfInBounds_toArray, List.set_cons_zero, List.set_cons_succ]
        refine wpAnyIn_ready (rs := [0]) (by kernel_rfl) (by simp) ?_
        refine AllReadyIn.cons rfl (fun K9 hK9 => ?_) AllReadyIn.nil
        go_simp
        refine hK9 _ _ ?_
        clear hK9 K9
        refine wpAnyIn_ready (rs := [5]) (by kernel_rfl) (by simp) ?_
        refine AllReadyIn.cons rfl (fun K9 hK9 => ?_) AllReadyIn.nil
        refine step_appIn rfl _ _ 37 rfl _ _ _ _ rfl rfl happ ?_
        refine hK9 _ _ ?_
        clear hK9 K9
        simp only [Act.put, List.getElem_toArray, List.getElem_cons_zero, List.getElem_cons_succ, List.setIfInBounds_toArray, List.set_cons_zero, List.set_cons_succ]
        refine wpAnyIn_ready (rs := [6]) (by kernel_rfl) (by simp) ?_
        refine AllReadyIn.cons rfl (fun K9 hK9 => ?_) AllReadyIn.nil
        go_simp
        refine hK9 _ _ ?_
        clear hK9 K9
        refine wpAnyIn_done (by kernel_rfl) ?_ _
        gi_wp2
        exact fin_pk HB.out.1 HB.out.2.1 HB.out.2.2.2.1 hk4 hk5 o4 hown4 hOw hGO hC3 trivial HB.out.2.2.2.2.2.2.1 HB.out.2.2.2.2.2.2.2
      refine AllReadyIn.cons rfl (fun K9 hK9 => ?_) AllReadyIn.nil
      go_simp
      refine hK9 _ _ ?_
      clear hK9 K9
      refine wpAnyIn_ready (rs := [0, 2]) (by kernel_rfl) (by simp) ?_
      refine AllReadyIn.cons rfl (fun K9 hK9 => ?_) ?_
      · go_simp
        refine hK9 _ _ ?_
        clear hK9 K9
        refine wpAnyIn_ready (rs := [2]) (by kernel_rfl) (by simp) ?_
        refine AllReadyIn.cons rfl (fun K9 hK9 => ?_) AllReadyIn.nil
        go_simp
        refine hK9 _ _ ?_
        clear hK9 K9
        refine wpAnyIn_ready (rs := [4]) (by kernel_rfl) (by simp) ?_
        refine AllReadyIn.cons rfl (fun K9 hK9 => ?_) AllReadyIn.nil
        go_simp
        refine ⟨trivial, rfl, ?_⟩
        refine (CallsIn.inRound _ (callsIn_wide.2 (CWR.out _ ((Kept.refl [] Wb).drew)))).mono ?_
        rintro e V3 ⟨g2, c1, rfl, hg2, hcb, hk3⟩
        have hk4 := hk3.undrew
        have d1 := cell_keep hk4 b8 (by simp)
        have d2 := cell_keep hk4 b7 (by simp)
        obtain ⟨V4, happ, hown4, hk5⟩ := app_room V3 G L0 M r0 c1 g2 xs _ (hk4.row HB.out.2.2.1 (by simp)) hcb HB.out.2.2.2.2.2.1
        have o4 := hk5.heap (hk4.heap HB.out.2.1 (by simp)) (by simp; omega)
        have d3 := one_cell o4
        have d4 : V4.frozen? ⟨Ob, 0, none⟩ = false := by simp [World.frozen?, o4]
        show K9 _ _
        refine hK9 _ _ ?_
        clear hK9 K9
        try simp only [Act.put, List.getElem_toArray, List.getElem_cons_zero, List.getElem_cons_succ, List.setIfInBounds_toArray, List.set_cons_zero, List.set_cons_succ]
        refine wpAnyIn_ready (rs := [5]) (by kernel_rfl) (by simp) ?_
        refine AllReadyIn.cons rfl (fun K9 hK9 => ?_) AllReadyIn.nil
        refine step_appIn rfl _ _ 37 rfl _ _ _ _ rfl rfl happ ?_
        refine hK9 _ _ ?_
        clear hK9 K9
        simp only [Act.put, List.getElem_toArray, List.getElem_cons_zero, List.getElem_cons_succ, List.setIfInBounds_toArray, List.set_cons_zero, List.set_cons_succ]
        refine wpAnyIn_ready (rs := [6]) (by kernel_rfl) (by simp) ?_
        refine AllReadyIn.cons rfl (fun K9 hK9 => ?_) AllReadyIn.nil
        go_simp
        refine hK9 _ _ ?_
        clear hK9 K9
        refine wpAnyIn_done (by kernel_rfl) ?_ _
        gi_wp2
        exact fin_pk HB.out.1 HB.out.2.1 HB.out.2.2.2.1 hk4 hk5 o4 hown4 hOw hGO hC3 trivial HB.out.2.2.2.2.2.2.1 HB.out.2.2.2.2.2.2.2
      refine AllReadyIn.cons rfl (fun K9 hK9 => ?_) AllReadyIn.nil
      go_simp
      refine hK9 _ _ ?_
      clear hK9 K9
      refine wpAnyIn_ready (rs := [0, 4]) (by kernel_rfl) (by simp) ?_
      refine AllReadyIn.cons rfl (fun K9 hK9 => ?_) ?_
      · go_simp
        refine hK9 _ _ ?_
        clear hK9 K9
        refine wpAnyIn_ready (rs := [4]) (by kernel_rfl) (by simp) ?_
        refine AllReadyIn.cons rfl (fun K9 hK9 => ?_) AllReadyIn.nil
        go_simp
        refine ⟨trivial, rfl, ?_⟩
        refine (CallsIn.inRound _ (callsIn_wide.2 (CWR.out _ ((Kept.refl [] Wb).drew)))).mono ?_
        rintro e V3 ⟨g2, c1, rfl, hg2, hcb, hk3⟩
        have hk4 := hk3.undrew
        have d1 := cell_keep hk4 b8 (by simp)
        have d2 := cell_keep hk4 b7 (by simp)
        obtain ⟨V4, happ, hown4, hk5⟩ := app_room V3 G L0 M r0 c1 g2 xs _ (hk4.row HB.out.2.2.1 (by simp)) hcb HB.out.2.2.2.2.2.1
        have o4 := hk5.heap (hk4.heap HB.out.2.1 (by simp)) (by simp; omega)
        have d3 := one_cell o4
        have d4 : V4.frozen? ⟨Ob, 0, none⟩ = false := by simp [World.frozen?, o4]
        show K9 _ _
        refine hK9 _ _ ?_
        clear hK9 K9
        try simp only [Act.put, List.getElem_toArray, List.getElem_cons_zero, List.getElem_cons_succ, List.setIfInBounds_toArray, List.set_cons_zero, List.set_cons_succ]
        refine wpAnyIn_ready (rs := [5]) (by kernel_rfl) (by simp) ?_
        refine AllReadyIn.cons rfl (fun K9 hK9 => ?_) AllReadyIn.nil
        refine step_appIn rfl _ _ 37 rfl _ _ _ _ rfl rfl happ ?_
        refine hK9 _ _ ?_
        clear hK9 K9
        simp only [Act.put, List.getElem_toArray, List.getElem_cons_zero, List.getElem_cons_succ, List.setIfInBounds_toArray, List.set_cons_zero, List.set_cons_succ]
        refine wpAnyIn_ready (rs := [6]) (by kernel_rfl) (by simp) ?_
        refine AllReadyIn.cons rfl (fun K9 hK9 => ?_) AllReadyIn.nil
        go_simp
        refine hK9 _ _ ?_
        clear hK9 K9
        refine wpAnyIn_done (by kernel_rfl) ?_ _
        gi_wp2
        exact fin_pk HB.out.1 HB.out.2.1 HB.out.2.2.2.1 hk4 hk5 o4 hown4 hOw hGO hC3 trivial HB.out.2.2.2.2.2.2.1 HB.out.2.2.2.2.2.2.2
      refine AllReadyIn.cons rfl (fun K9 hK9 => ?_) AllReadyIn.nil
      go_simp
      refine ⟨trivial, rfl, ?_⟩
      refine (CallsIn.inRound _ (callsIn_wide.2 (CWR.out _ ((Kept.refl [] Wb).drew)))).mono ?_
      rintro e V3 ⟨g2, c1, rfl, hg2, hcb, hk3⟩
      have hk4 := hk3.undrew
      have d1 := cell_keep hk4 b8 (by simp)
      have d2 := cell_keep hk4 b7 (by simp)
      obtain ⟨V4, happ, hown4, hk5⟩ := app_room V3 G L0 M r0 c1 g2 xs _ (hk4.row HB.out.2.2.1 (by simp)) hcb HB.out.2.2.2.2.2.1
      have o4 := hk5.heap (hk4.heap HB.out.2.1 (by simp)) (by simp; omega)
      have d3 := one_cell o4
      have d4 : V4.frozen? ⟨Ob, 0, none⟩ = false := by simp [World.frozen?, o4]
      show K9 _ _
      refine hK9 _ _ ?_
      clear hK9 K9
      try simp only [Act.put, List.getElem_toArray, List.getElem_cons_zero, List.getElem_cons_succ, List.setIfInBounds_toArray, List.set_cons_zero, List.set_cons_succ]
      refine wpAnyIn_ready (rs := [0]) (by kernel_rfl) (by simp) ?_
      refine AllReadyIn.cons rfl (fun K9 hK9 => ?_) AllReadyIn.nil
      go_simp
      refine hK9 _ _ ?_
      clear hK9 K9
      refine wpAnyIn_ready (rs := [5]) (by kernel_rfl) (by simp) ?_
      refine AllReadyIn.cons rfl (fun K9 hK9 => ?_) AllReadyIn.nil
      refine step_appIn rfl _ _ 37 rfl _ _ _ _ rfl rfl happ ?_
      refine hK9 _ _ ?_
      clear hK9 K9
      simp only [Act.put, List.getElem_toArray, List.getElem_cons_zero, List.getElem_cons_succ, List.setIfInBounds_toArray, List.set_cons_zero, List.set_cons_succ]
      refine wpAnyIn_ready (rs := [6]) (by kernel_rfl) (by simp) ?_
      refine AllReadyIn.cons rfl (fun K9 hK9 => ?_) AllReadyIn.nil
      go_simp
      refine hK9 _ _ ?_
      clear hK9 K9
      refine wpAnyIn_done (by kernel_rfl) ?_ _
      gi_wp2
      exact fin_pk HB.out.1 HB.out.2.1 HB.out.2.2.2.1 hk4 hk5 o4 hown4 hOw hGO hC3 trivial HB.out.2.2.2.2.2.2.1 HB.out.2.2.2.2.2.2.2
    refine AllReadyIn.cons rfl (fun K9 hK9 => ?_) AllReadyIn.nil
    go_simp
    refine hK9 _ _ ?_
    clear hK9 K9
    refine wpAnyIn_ready (rs := [0, 1]) (by kernel_rfl) (by simp) ?_
    refine AllReadyIn.cons rfl (fun K9 hK9 => ?_) ?_
    · go_simp
      refine hK9 _ _ ?_
      clear hK9 K9
      refine wpAnyIn_ready (rs := [1]) (by kernel_rfl) (by simp) ?_
      refine AllReadyIn.cons rfl (fun K9 hK9 => ?_) AllReadyIn.nil
      go_simp
      refine hK9 _ _ ?_
      clear hK9 K9
      refine wpAnyIn_ready (rs := [2]) (by kernel_rfl) (by simp) ?_
      refine AllReadyIn.cons rfl (fun K9 hK9 => ?_) AllReadyIn.nil
      go_simp
      refine hK9 _ _ ?_
      clear hK9 K9
      refine wpAnyIn_ready (rs := [4]) (by kernel_rfl) (by simp) ?_
      refine AllReadyIn.cons rfl (fun K9 hK9 => ?_) AllReadyIn.nil
      go_simp
      refine ⟨trivial, rfl, ?_⟩
      refine (CallsIn.inRound _ (callsIn_wide.2 (CWR.out _ ((Kept.refl [] Wb).drew)))).mono ?_
      rintro e V3 ⟨g2, c1, rfl, hg2, hcb, hk3⟩
      have hk4 := hk3.undrew
      have d1 := cell_keep hk4 b8 (by simp)
      have d2 := cell_keep hk4 b7 (by simp)
      obtain ⟨V4, happ, hown4, hk5⟩ := app_room V3 G L0 M r0 c1 g2 xs _ (hk4.row HB.out.2.2.1 (by simp)) hcb HB.out.2.2.2.2.2.1
      have o4 := hk5.heap (hk4.heap HB.out.2.1 (by simp)) (by simp; omega)
      have d3 := one_cell o4
      have d4 : V4.frozen? ⟨Ob, 0, none⟩ = false := by simp [World.frozen?, o4]
      show K9 _ _
      refine hK9 _ _ ?_
      clear hK9 K9
      try simp only [Act.put, List.getElem_toArray, List.getElem_cons_zero, List.getElem_cons_succ, List.setIfInBounds_toArray, List.set_cons_zero, List.set_cons_succ]
      refine wpAnyIn_ready (rs := [5]) (by kernel_rfl) (by simp) ?_
      refine AllReadyIn.cons rfl (fun K9 hK9 => ?_) AllReadyIn.nil
      refine step_appIn rfl _ _ 37 rfl _ _ _ _ rfl rfl happ ?_
      refine hK9 _ _ ?_
      clear hK9 K9
      simp only [Act.put, List.getElem_toArray, List.getElem_cons_zero, List.getElem_cons_succ, List.setIfInBounds_toArray, List.set_cons_zero, List.set_cons_succ]
      refine wpAnyIn_ready (rs := [6]) (by kernel_rfl) (by simp) ?_
      refine AllReadyIn.cons rfl (fun K9 hK9 => ?_) AllReadyIn.nil
      go_simp
      refine hK9 _ _ ?_
      clear hK9 K9
      refine wpAnyIn_done (by kernel_rfl) ?_ _
      gi_wp2
      exact fin_pk HB.out.1 HB.out.2.1 HB.out.2.2.2.1 hk4 hk5 o4 hown4 hOw hGO hC3 trivial HB.out.2.2.2.2.2.2.1 HB.out.2.2.2.2.2.2.2
    refine AllReadyIn.cons rfl (fun K9 hK9 => ?_) AllReadyIn.nil
    go_simp
    refine hK9 _ _ ?_
    clear hK9 K9
    refine wpAnyIn_ready (rs := [0, 2]) (by kernel_rfl) (by simp) ?_
    refine AllReadyIn.cons rfl (fun K9 hK9 => ?_) ?_
    · go_simp
      refine hK9 _ _ ?_
      clear hK9 K9
      refine wpAnyIn_ready (rs := [2]) (by kernel_rfl) (by simp) ?_
      refine AllReadyIn.cons rfl (fun K9 hK9 => ?_) AllReadyIn.nil
      go_simp
      refine hK9 _ _ ?_
      clear hK9 K9
      refine wpAnyIn_ready (rs := [4]) (by kernel_rfl) (by simp) ?_
      refine AllReadyIn.cons rfl (fun K9 hK9 => ?_) AllReadyIn.nil
      go_simp
      refine ⟨trivial, rfl, ?_⟩
      refine (CallsIn.inRound _ (callsIn_wide.2 (CWR.out _ ((Kept.refl [] Wb).drew)))).mono ?_
      rintro e V3 ⟨g2, c1, rfl, hg2, hcb, hk3⟩
      have hk4 := hk3.undrew
      have d1 := cell_keep hk4 b8 (by simp)
      have d2 := cell_keep hk4 b7 (by simp)
      obtain ⟨V4, happ, hown4, hk5⟩ := app_room V3 G L0 M r0 c1 g2 xs _ (hk4.row HB.out.2.2.1 (by simp)) hcb HB.out.2.2.2.2.2.1
      have o4 := hk5.heap (hk4.heap HB.out.2.1 (by simp)) (by simp; omega)
      have d3 := one_cell o4
      have d4 : V4.frozen? ⟨Ob, 0, none⟩ = false := by simp [World.frozen?, o4]
      show K9 _ _
      refine hK9 _ _ ?_
      clear hK9 K9
      try simp only [Act.put, List.getElem_toArray, List.getElem_cons_zero, List.getElem_cons_succ, List.setIfInBounds_toArray, List.set_cons_zero, List.set_cons_succ]
      refine wpAnyIn_ready (rs := [5]) (by kernel_rfl) (by simp) ?_
      refine AllReadyIn.cons rfl (fun K9 hK9 => ?_) AllReadyIn.nil
      refine step_appIn rfl _ _ 37 rfl _ _ _ _ rfl rfl happ ?_
      refine hK9 _ _ ?_
      clear hK9 K9
      simp only [Act.put, List.getElem_toArray, List.getElem_cons_zero, List.getElem_cons_succ, List.setIfInBounds_toArray, List.set_cons_zero, List.set_cons_succ]
      refine wpAnyIn_ready (rs := [6]) (by kernel_rfl) (by simp) ?_
      refine AllReadyIn.cons rfl (fun K9 hK9 => ?_) AllReadyIn.nil
      go_simp
      refine hK9 _ _ ?_
      clear hK9 K9
      refine wpAnyIn_done (by kernel_rfl) ?_ _
      gi_wp2
      exact fin_pk HB.out.1 HB.out.2.1 HB.out.2.2.2.1 hk4 hk5 o4 hown4 hOw hGO hC3 trivial HB.out.2.2.2.2.2.2.1 HB.out.2.2.2.2.2.2.2
    refine AllReadyIn.cons rfl (fun K9 hK9 => ?_) AllReadyIn.nil
    go_simp
    refine hK9 _ _ ?_
    clear hK9 K9
    refine wpAnyIn_ready (rs := [0, 4]) (by kernel_rfl) (by simp) ?_
    refine AllReadyIn.cons rfl (fun K9 hK9 => ?_) ?_
    · go_simp
      refine hK9 _ _ ?_
      clear hK9 K9
      refine wpAnyIn_ready (rs := [4]) (by kernel_rfl) (by simp) ?_
      refine AllReadyIn.cons rfl (fun K9 hK9 => ?_) AllReadyIn.nil
      go_simp
      refine ⟨trivial, rfl, ?_⟩
      refine (CallsIn.inRound _ (callsIn_wide.2 (CWR.out _ ((Kept.refl [] Wb).drew)))).mono ?_
      rintro e V3 ⟨g2, c1, rfl, hg2, hcb, hk3⟩
      have hk4 := hk3.undrew
      have d1 := cell_keep hk4 b8 (by simp)
      have d2 := cell_keep hk4 b7 (by simp)
      obtain ⟨V4, happ, hown4, hk5⟩ := app_room V3 G L0 M r0 c1 g2 xs _ (hk4.row HB.out.2.2.1 (by simp)) hcb HB.out.2.2.2.2.2.1
      have o4 := hk5.heap (hk4.heap HB.out.2.1 (by simp)) (by simp; omega)
      have d3 := one_cell o4
      have d4 : V4.frozen? ⟨Ob, 0, none⟩ = false := by simp [World.frozen?, o4]
      show K9 _ _
      refine hK9 _ _ ?_
      clear hK9 K9
      try simp only [Act.put, List.getElem_toArray, List.getElem_cons_zero, List.getElem_cons_succ, List.setIfInBounds_toArray, List.set_cons_zero, List.set_cons_succ]
      refine wpAnyIn_ready (rs := [5]) (by kernel_rfl) (by simp) ?_
      refine AllReadyIn.cons rfl (fun K9 hK9 => ?_) AllReadyIn.nil
      refine step_appIn rfl _ _ 37 rfl _ _ _ _ rfl rfl happ ?_
      refine hK9 _ _ ?_
      clear hK9 K9
      simp only [Act.put, List.getElem_toArray, List.getElem_cons_zero, List.getElem_cons_succ, List.setIfInBounds_toArray, List.set_cons_zero, List.set_cons_succ]
      refine wpAnyIn_ready (rs := [6]) (by kernel_rfl) (by simp) ?_
      refine AllReadyIn.cons rfl (fun K9 hK9 => ?_) AllReadyIn.nil
      go_simp
      refine hK9 _ _ ?_
      clear hK9 K9
      refine wpAnyIn_done (by kernel_rfl) ?_ _
      gi_wp2
      exact fin_pk HB.out.1 HB.out.2.1 HB.out.2.2.2.1 hk4 hk5 o4 hown4 hOw hGO hC3 trivial HB.out.2.2.2.2.2.2.1 HB.out.2.2.2.2.2.2.2
    refine AllReadyIn.cons rfl (fun K9 hK9 => ?_) AllReadyIn.nil
    go_simp
    refine ⟨trivial, rfl, ?_⟩
    refine (CallsIn.inRound _ (callsIn_wide.2 (CWR.out _ ((Kept.refl [] Wb).drew)))).mono ?_
    rintro e V3 ⟨g2, c1, rfl, hg2, hcb, hk3⟩
    have hk4 := hk3.undrew
    have d1 := cell_keep hk4 b8 (by simp)
    have d2 := cell_keep hk4 b7 (by simp)
    obtain ⟨V4, happ, hown4, hk5⟩ := app_room V3 G L0 M r0 c1 g2 xs _ (hk4.row HB.out.2.2.1 (by simp)) hcb HB.out.2.2.2.2.2.1
    have o4 := hk5.heap (hk4.heap HB.out.2.1 (by simp)) (by simp; omega)
    have d3 := one_cell o4
    have d4 : V4.frozen? ⟨Ob, 0, none⟩ = false := by simp [World.frozen?, o4]
    show K9 _ _
    refine hK9 _ _ ?_
    clear hK9 K9
    try simp only [Act.put, List.getElem_toArray, List.getElem_cons_zero, List.getElem_cons_succ, List.setIfInBounds_toArray, List.set_cons_zero, List.set_cons_succ]
    refine wpAnyIn_ready (rs := [0]) (by kernel_rfl) (by simp) ?_
    refine AllReadyIn.cons rfl (fun K9 hK9 => ?_) AllReadyIn.nil
    go_simp
    refine hK9 _ _ ?_
    clear hK9 K9
    refine wpAnyIn_ready (rs := [5]) (by kernel_rfl) (by simp) ?_
    refine AllReadyIn.cons rfl (fun K9 hK9 => ?_) AllReadyIn.nil
    refine step_appIn rfl _ _ 37 rfl _ _ _ _ rfl rfl happ ?_
    refine hK9 _ _ ?_
    clear hK9 K9
    simp only [Act.put, List.getElem_toArray, List.getElem_cons_zero, List.getElem_cons_succ, List.setIfInBounds_toArray, List.set_cons_zero, List.set_cons_succ]
    refine wpAnyIn_ready (rs := [6]) (by kernel_rfl) (by simp) ?_
    refine AllReadyIn.cons rfl (fun K9 hK9 => ?_) AllReadyIn.nil
    go_simp
    refine hK9 _ _ ?_
    clear hK9 K9
    refine wpAnyIn_done (by kernel_rfl) ?_ _
    gi_wp2
    exact fin_pk HB.out.1 HB.out.2.1 HB.out.2.2.2.1 hk4 hk5 o4 hown4 hOw hGO hC3 trivial HB.out.2.2.2.2.2.2.1 HB.out.2.2.2.2.2.2.2
  case done =>
    rintro W' ⟨a1, a2, a3, a4⟩ hK
    rw [← hMe] at a3 a4
    clear hn hMe hBw
    have b8 := one_cell a3
    have HD := Hid.mk (And.intro a1 (And.intro a4 hK))
    clear a1 a3 a4 hK
    go_wp2
    obtain ⟨hn, hMe, hBw⟩ := HEQ.out
    refine ⟨by simp, .inl ⟨_, _, rfl, run_takeDeferred HD.out.2.2, ?_⟩⟩
    refine ⟨_, results_tmp2 rfl _ _ _, G, M, rfl, by omega, hMe, ?_, ?_⟩
    · have ks : Kept [w5.heap.size] W' (W'.putObj w5.heap.size (.deferred none)) := (Kept.refl _ W').putObj _ (.inl (by simp))
      exact ks.row HD.out.2.1 (fun g hg => by cases hg; simp; omega)
    · exact (K5.step HD.out.1 (fun x hx => by right; simp at hx; omega)).putObj _ (.inr (by have := K5.size; omega))
end Go.Proofs.YtodlkpcbkilglaaDoor
