import Derived.Test.YtodlkpcbkilglaaDoorUp
namespace Go.Proofs.YtodlkpcbkilglaaDoor
open Go.RowKit Go.Shelf
attribute [local go_sem] Oper.semAt_some

set_option maxHeartbeats 16000000 in
set_option maxRecDepth 1000000 in
theorem unpack_over (W D : Int) (A : Bool) (n h gb ob cb : Nat) (ln : Nat → Nat) (F : Nat → Nat → Nat) (fb : Nat → Nat) (w : World) (hV : Vld W (h : Int) D A n ln (fun _ _ => 0)) (hF : ∀ i, i < n → ∀ x, x < ln i → F i x < 65536) (hE : vE W (h : Int) D A n ln F ≠ 0)  (M : Nat) (hM : M = ctL (plL W h) (np A * h)) (hcb : M ≤ cb)
    (hb : ∀ i, i < M → w.cell? ⟨gb, ob + i, none⟩ = some (.int .u8 (fb i : Int))) (hfb : ∀ i, i < M → fb i < 256) (hgood : ∀ k, k < np A * h → ∀ t, t < (plL W h) k → fb (ctL (plL W h) k + t) = (plR W h F) k t) :
    Calls Tryd.prog 57 #[fmv 58 59 60 61 62, shv W (h : Int) D A, .slice (some ⟨gb, ob, none⟩) M cb] w fun e w' => e = .returned (.tuple #[frv 0 0 0 false none 0 0, .int .i64 73]) ∧ Kept [] w w' := by
  have hs := hV.shp
  have h1 : 1 ≤ h := by have := hs.2.1; omega
  have h2 : h ≤ 4096 := by have := hs.2.1; omega
  have hn := hV.num
  have hn4 : n ≤ 4 := by rw [hn]; exact np_hi A
  have hn3 : 3 ≤ n := by rw [hn]; exact np_lo A
  have hln : ∀ i, i < n → ln i = wdN W i * h ∧ 1 ≤ wdN W i ∧ wdN W i ≤ 4096 := fun i hi => by
    obtain ⟨a, b, e⟩ := wdN_ok hs i
    refine ⟨?_, a, b⟩
    have := hV.len i hi
    rw [← e, ← Int.natCast_mul] at this
    omega
  have hlb : ∀ i, i < n → ln i ≤ 16777216 := fun i hi => by
    obtain ⟨a, b, e⟩ := hln i hi
    rw [a]
    exact Nat.le_trans (Nat.mul_le_mul e h2) (by decide)
  have hpz : ∀ i, i < n → pz W (h : Int) i = ln i := fun i hi => by
    unfold pz
    rw [← hV.len i hi]
    rfl
  have HEF := Hid.mk (And.intro hF hE)
  clear hF hE
  have CZ := Hid.mk (fun u => sizeP W (h : Int) D A u)
  have CN := Hid.mk (fun u => new_any W (h : Int) D A u)
  have CR := Hid.mk (fun po u => rows_any 58 59 60 61 62 W (h : Int) D A po (np A) (np A) u)
  rw [shE_ok hs] at CZ CN
  have hMs : sS W (h : Int) (fun x => 2 * x) (fun i => i) (np A) = (M : Int) := by
    rw [hM]
    exact (ctL_sS (plL W h) (fun i => 2 * wdN W i) W h (fun x => 2 * x) (fun i => i) h1 (fun k => rfl) _ (fun i _ => rfl)).symm
  simp only [and_self, if_true, hMs] at CZ
  have hMb : M ≤ 200000000 := by
    have := (sS_lo (W := W) (H := (h : Int)) (fun x => 2 * x) (fun i => i) (by omega) (by omega) (fun k => by have := wdN_ok hs (id k); unfold wdN at this; show 2 * (wp W ((k : Nat) : Int)).toNat ≤ 12000; have := wdN_ok hs k; unfold wdN at this; omega) (np A)).2
    rw [hMs] at this
    have h9 := np_hi A
    omega
  have HS := Hid.mk (And.intro hV (And.intro hln (And.intro hlb (And.intro hpz (And.intro hM (And.intro hn (And.intro hcb (And.intro hb (And.intro hfb hgood)))))))))
  clear hV hln hlb hpz hM hn hcb hb hfb hgood hMs hs
  obtain ⟨⟨a0, a1, a2, a3, a4⟩, ka, za⟩ := alloc5 w (.cells #[fnv 58, fnv 59, fnv 60, fnv 61, fnv 62] 65) (.cells #[.int .i64 W, .int .i64 (h : Int), .int .i64 D, .bool A] 24) (.cells #[.slice (some ⟨gb, ob, none⟩) M cb] 37) (.cells #[.int .i64 0, .int .i64 0, .int .i64 0, .bool false, .slice none 0 0] 31) (.cells #[.int .i64 0] 25)
  obtain ⟨wa, ewa⟩ : ∃ wa, ((((w.alloc (.cells #[fnv 58, fnv 59, fnv 60, fnv 61, fnv 62] 65)).alloc (.cells #[.int .i64 W, .int .i64 (h : Int), .int .i64 D, .bool A] 24)).alloc (.cells #[.slice (some ⟨gb, ob, none⟩) M cb] 37)).alloc (.cells #[.int .i64 0, .int .i64 0, .int .i64 0, .bool false, .slice none 0 0] 31)).alloc (.cells #[.int .i64 0] 25) = wa := ⟨_, rfl⟩
  rw [ewa] at a0 a1 a2 a3 a4 ka za
  refine (callsIn_wide (n := 0)).1 ?_
  refine callsIn_of_wp_marks Tryd.func57 rfl trivial ?_ rfl
  simp only [Tryd.ntmps57, List.size_toArray, List.length_cons, List.length_nil, Nat.reduceAdd, Nat.reduceSub, Array.replicate_succ, Array.replicate_zero, List.push_toArray, List.append_toArray, List.nil_append, List.cons_append]
  refine wpIn_wide.2 ?_
  obtain ⟨⟨p0, p1, p2, p3, p4⟩, _⟩ := five a0
  obtain ⟨q0, q1, q2, q3⟩ : wa.cell? ⟨w.heap.size + 1, 0, none⟩ = some (.int .i64 W) ∧ wa.cell? ⟨w.heap.size + 1, 1, none⟩ = some (.int .i64 (h : Int)) ∧ wa.cell? ⟨w.heap.size + 1, 2, none⟩ = some (.int .i64 D) ∧ wa.cell? ⟨w.heap.size + 1, 3, none⟩ = some (.bool A) := by
    refine ⟨?_, ?_, ?_, ?_⟩ <;> (rw [cell_of_row _ _ _ _ _ _ a1]; rfl)
  have QS := Hid.mk (Sat.mk q0 q1 q2 q3)
  have HA := Hid.mk (And.intro a0 (And.intro a2 (And.intro a3 (And.intro a4 (And.intro ka za)))))
  clear a0 a1 a2 a3 a4 ka za
  go_wp2_with (fail)
  obtain ⟨P7, e7⟩ : ∃ P7, P7 = w.heap.size + 1 + 1 + 1 + 1 := ⟨_, rfl⟩
  obtain ⟨P6, e6⟩ : ∃ P6, P6 = w.heap.size + 1 + 1 + 1 := ⟨_, rfl⟩
  obtain ⟨P5, e5⟩ : ∃ P5, P5 = w.heap.size + 1 + 1 := ⟨_, rfl⟩
  obtain ⟨P4, e4⟩ : ∃ P4, P4 = w.heap.size + 1 := ⟨_, rfl⟩
  obtain ⟨P3, e3⟩ : ∃ P3, P3 = w.heap.size := ⟨_, rfl⟩
  have HP := Hid.mk (And.intro e3 (And.intro e4 (And.intro e5 (And.intro e6 e7))))
  rw [← e7, ← e6, ← e5, ← e4, ← e3]
  rw [← e7, ← e6, ← e5, ← e3] at HA
  rw [← e4] at QS
  clear p0 p1 p2 p3 p4 q0 q1 q2 q3 e3 e4 e5 e6 e7
  refine (CZ.out _).mono ?_
  rintro e w2 ⟨rfl, hk2⟩
  obtain ⟨a0, a2, a3, a4, ka, za⟩ := HA.out
  have c5 := one_cell (hk2.heap a2 (by simp))
  obtain ⟨q0, q1, q2, q3⟩ := QS.out.keep hk2 (by simp)
  have HK2 := Hid.mk hk2
  clear hk2 CZ a0 a2 a3 a4 ka za
  go_wp2_with (fail)
  refine (CN.out _).mono ?_
  rintro e w3 ⟨hN1, _⟩
  obtain ⟨G, bs, rfl, hMk⟩ := hN1 trivial
  have hk3 := hMk.kept
  have hbl := fun i (hi : i < np A) => (hMk.row i hi).lt
  obtain ⟨a0, a2, a3, a4, ka, za⟩ := HA.out
  have k23 := HK2.out.trans hk3
  have hF := heap_alloc_new w3 (.cells #[.int .i64 W, .int .i64 (h : Int), .int .i64 D, .bool A, .slice (some ⟨G, 0, none⟩) (np A) (np A)] 31)
  have kF := alloc_kept w3 (.cells #[.int .i64 W, .int .i64 (h : Int), .int .i64 D, .bool A, .slice (some ⟨G, 0, none⟩) (np A) (np A)] 31)
  obtain ⟨w4, ew4⟩ : ∃ w4, w3.alloc (.cells #[.int .i64 W, .int .i64 (h : Int), .int .i64 D, .bool A, .slice (some ⟨G, 0, none⟩) (np A) (np A)] 31) = w4 := ⟨_, rfl⟩
  rw [ew4] at hF kF
  obtain ⟨⟨d0, d1, d2, d3, d4⟩, _⟩ := five hF
  obtain ⟨P10, e10⟩ : ∃ P10, P10 = w3.heap.size := ⟨_, rfl⟩
  rw [← e10] at hF hbl
  have H10 := Hid.mk e10
  have b0 := kF.heap (k23.heap a0 (by simp)) (by simp)
  have k4 := (ka.trans k23).trans kF
  have hM4 := hMk.keep kF
  have b2 := kF.heap (k23.heap a2 (by simp)) (by simp)
  have b3 := kF.heap (k23.heap a3 (by simp)) (by simp)
  have b4 := kF.heap (k23.heap a4 (by simp)) (by simp)
  have hs2 : wa.heap.size ≤ w2.heap.size := HK2.out.size
  have hs3 : w2.heap.size ≤ P10 := by rw [e10]; exact hk3.size
  obtain ⟨⟨p0, p1, p2, p3, p4⟩, _⟩ := five b0
  have HB := Hid.mk (And.intro b0 (And.intro b2 (And.intro b3 (And.intro b4 (And.intro k4 (And.intro hM4 (And.intro hF (And.intro hs2 (And.intro hs3 (And.intro za hbl))))))))))
  clear hN1 hMk hk3 a0 a2 a3 a4 ka za k23 hF kF b0 k4 hM4 b2 b3 b4 hs2 hs3 q0 q1 q2 q3 c5 e10 hbl HA QS
  go_wp2_with (fail)
  rw [← H10.out]
  refine (CR.out _ _).mono ?_
  rintro e w5 ⟨rfl, h5⟩
  have H5 := Hid.mk h5
  clear h5
  go_wp2_with (fail)
  have h5 := H5.out
  have kA := (alloc_kept w4 (.cells #[fnv 58, fnv 59, fnv 60, fnv 61, fnv 62] 65)).trans (alloc_kept _ (.cells #[.int .i64 W, .int .i64 (h : Int), .int .i64 D, .bool A, .slice (some ⟨G, 0, none⟩) (np A) (np A)] 31))
  have hC1 := (alloc_kept (w4.alloc (.cells #[fnv 58, fnv 59, fnv 60, fnv 61, fnv 62] 65)) (.cells #[.int .i64 W, .int .i64 (h : Int), .int .i64 D, .bool A, .slice (some ⟨G, 0, none⟩) (np A) (np A)] 31)).heap (heap_alloc_new w4 (.cells #[fnv 58, fnv 59, fnv 60, fnv 61, fnv 62] 65)) (by simp)
  have hC2 := heap_alloc_new (w4.alloc (.cells #[fnv 58, fnv 59, fnv 60, fnv 61, fnv 62] 65)) (.cells #[.int .i64 W, .int .i64 (h : Int), .int .i64 D, .bool A, .slice (some ⟨G, 0, none⟩) (np A) (np A)] 31)
  rw [World.size_alloc, ← h5] at hC2
  rw [← h5] at kA hC1
  obtain ⟨b0, b2, b3, b4, k4, hM4, hF, hs2, hs3, za, hbl⟩ := HB.out
  obtain ⟨hV, hln, hlb, hpz, hM, hn, hcb, hb, hfb, hgood⟩ := HS.out
  obtain ⟨Bk, eBk⟩ : ∃ Bk, Bk = w4.heap.size := ⟨_, rfl⟩
  rw [← eBk] at hC1 hC2 ⊢
  have hC3 := lt_of_block hC2
  have hM5 := hM4.keep kA
  have c2 := kA.heap b2 (by simp)
  have c3 := kA.heap b3 (by simp)
  have c4 := kA.heap b4 (by simp)
  have c0 := kA.heap b0 (by simp)
  have cF := kA.heap hF (by simp)
  have K5 := k4.trans kA
  have hP10 : P10 < Bk := by rw [eBk]; exact lt_of_block hF
  have hlnP : ∀ i, i < np A → pz W (h : Int) i = wdN W i * h ∧ 1 ≤ wdN W i ∧ wdN W i ≤ 4096 := fun i hi => by rw [hpz i (by omega)]; exact hln i (by omega)
  have RIO : Rio w5 Bk (Bk + 1) 58 59 60 61 62 W h D A (some ⟨G, 0, none⟩) (np A) (np A) (pz W (h : Int)) bs (fun _ => 0) (pz W (h : Int)) := by
    obtain ⟨⟨c0, c1, c2, c3, c4⟩, _⟩ := five hC1
    obtain ⟨⟨e0, e1, e2, e3, e4⟩, _⟩ := five hC2
    exact ⟨c0, c1, c2, c3, c4, ⟨e0, e1, e2, e3, e4⟩, ⟨G, 0, rfl, fun i hi => by rw [Nat.zero_add]; exact hM5.cell hi (Nat.le_refl _)⟩⟩
  have hbs : ∀ i, i < np A → G < bs i ∧ bs i < P10 := fun i hi => ⟨hM5.gt i hi, hbl i hi⟩
  obtain ⟨h3, h4, h5', h6, h7⟩ := HP.out
  have hGn := hM5.new
  obtain ⟨ks, eks⟩ : ∃ ks, ks = P5 :: (List.range (np A)).map bs := ⟨_, rfl⟩
  have hks : ∀ x, x ∈ ks ↔ x = P5 ∨ ∃ i, i < np A ∧ x = bs i := fun x => by rw [eks]; simp [eq_comm]
  have hklt : ∀ x, x ∈ ks → w.heap.size ≤ x ∧ x < Bk := fun x hx => by
    rcases (hks x).1 hx with h | ⟨i, hi, h⟩
    · omega
    · have := hbs i hi; omega
  have HE := Hid.mk (And.intro hn (And.intro hM (And.intro h3 (And.intro h4 (And.intro h5' (And.intro h6 h7))))))
  have HR5 := Hid.mk (And.intro c0 (And.intro c2 (And.intro c3 (And.intro c4 cF))))
  have hgb : ∀ i, i < M → w5.cell? ⟨gb, ob + i, none⟩ = some (.int .u8 (fb i : Int)) := fun i hi => cell_keep K5 (hb i hi) (by simp)
  have hgbw : 0 < M → gb < w.heap.size := fun hM0 => World.block_lt_of_cell? w _ (hb 0 hM0)
  have hcu := hM5.row
  clear h5 kA hC1 hC2 b0 b2 b3 b4 hF c0 c2 c3 c4 cF eBk p0 p1 p2 p3 p4 d0 d1 d2 d3 d4 H5 CR CN hb eks
  refine range_lawV (gf := 93) (lb := #[.pointer (some ⟨Bk, 0, none⟩), .pointer (some ⟨Bk + 1, 0, none⟩)]) ?hg (enters_of Tryd.func93 (by kernel_rfl) rfl)
    (fun k W' => Kept ks w5 W' ∧ w5.heap.size + 1 < W'.heap.size ∧ (∀ i, i < np A → Row W' (bs i) (pz W (h : Int) i) (cuP (fun i x => i * h + x / wdN W i) F k i)) ∧ ∃ o, (k < np A * h → o = ob + ctL (plL W h) k) ∧ W'.heap[P5]? = some (.cells #[.slice (some ⟨gb, o, none⟩) (M - ctL (plL W h) k) (cb - ctL (plL W h) k)] 37 (0, 0)))
    (np A * h) (fun k W' v => Yv W' 1 bs (fun _ => 0) (pz W (h : Int)) (wdN W) (fun _ => k / h) (k % h) v) ?hps ?put ?kept ?start ?iter ?body ?done
  case hg => rfl
  case hps => rintro k W' v ⟨g, rfl, _⟩; rfl
  case put =>
    rintro k W' o ⟨a1, a2, a3, o', a4, a5⟩
    have kp : Kept [w5.heap.size + 1] W' (W'.putObj (w5.heap.size + 1) o) := (Kept.refl _ W').putObj o (.inl (by simp))
    exact ⟨a1.step kp (fun x hx => by simp at hx; right; omega), by rw [World.putObj_size]; exact a2, fun i hi => (a3 i hi).keep kp (by have := hbs i hi; simp; omega), o', a4, kp.heap a5 (by simp; omega)⟩
  case kept =>
    rintro k W1 W2 ⟨a1, a2, a3, o', a4, a5⟩ hk
    exact ⟨a1.step hk (by simp), Nat.lt_of_lt_of_le a2 hk.size, fun i hi => (a3 i hi).keep hk (by simp), o', a4, hk.heap a5 (by simp)⟩
  case start =>
    intro W1 hk1 hs1
    refine ⟨hk1.mono (by simp), by omega, fun i hi => ((hcu i hi).keep hk1 (by simp)).congr (fun j _ => ?_), ob, fun _ => rfl, hk1.heap HR5.out.2.1 (by simp)⟩
    unfold cuP
    rw [if_neg (by omega)]
  case iter =>
    intro J hJI hJK hJY W1 hJ0 ht
    refine iter_planar (w5.heap.size + 1) Bk (Bk + 1) W D A (some ⟨G, 0, none⟩) (np A) (np A) h (pz W (h : Int)) bs (fun _ => 0) (pz W (h : Int)) (wdN W) rfl h1 h2 hlnP (fun _ _ => Nat.le_refl _) J (w5.heap.size + 2) (fun k W' hJ => RIO.keeps (hJI k W' hJ).1 (fun hx => by have := hklt _ hx; omega) (fun hx => by have := hklt _ hx; omega) (fun g off e hx => by
      have eg : g = G := by cases e; rfl
      rw [eg] at hx
      rcases (hks G).1 hx with h | ⟨i, hi, h⟩
      · omega
      · have := hbs i hi; omega)) hJK (fun k W' i y v hJ hk hi hy hv => hJY k W' v hJ ?_ ?_) W1 hJ0 ht
    · rw [hk]
      have : (i + 1) * h ≤ np A * h := Nat.mul_le_mul_right _ hi
      rw [Nat.add_mul] at this
      omega
    · have q1 : k / h = i := by rw [hk, Nat.add_comm, Nat.add_mul_div_right _ _ (by omega), Nat.div_eq_of_lt hy]; omega
      have q2 : k % h = y := by rw [hk, Nat.add_comm, Nat.add_mul_mod_self_right, Nat.mod_eq_of_lt hy]
      show Yv W' 1 bs (fun _ => 0) (pz W (h : Int)) (wdN W) (fun _ => k / h) (k % h) v
      first | (rw [q1, q2]; exact hv) | (rw [q2]; exact hv)
  case body =>
    rintro k v W' r hv hkn ⟨a1, a2, a3, o, a4, a5⟩ hl
    obtain ⟨g, rfl, hrw⟩ := hv
    clear hn hM h3 h4 h5' h6 h7
    gi_wp2
    refine ⟨Kept.refl _ _, fun Wb hWb => ?_⟩
    obtain ⟨rb, hWb⟩ := hWb
    have ho : o = ob + ctL (plL W h) k := a4 hkn
    subst ho
    obtain ⟨hn, hM, h3, h4, h5', h6, h7⟩ := HE.out
    have kp : Kept [w5.heap.size + 1] W' Wb := by rw [hWb]; exact (Kept.refl _ W').putObj _ (.inl (by simp))
    have hgl : g ≠ w5.heap.size + 1 := fun e => by rw [← e] at hl; unfold Rwl at hrw; rw [hrw] at hl; cases hl
    have b1 := hrw.keep kp (by simp; omega)
    have b2 : Kept ks w5 Wb := a1.step kp (fun x hx => by simp at hx; right; omega)
    have b3 := fun i (hi : i < np A) => (a3 i hi).keep kp (by have := hbs i hi; simp; omega)
    have b4 := kp.heap a5 (by simp; omega)
    have b5 : w5.heap.size + 1 < Wb.heap.size := Nat.lt_of_lt_of_le a2 kp.size
    clear hrw a1 a2 a3 a4 a5 hl hWb kp hgl
    obtain ⟨i, ei⟩ : ∃ i, i = k / h := ⟨_, rfl⟩
    obtain ⟨y, ey⟩ : ∃ y, y = k % h := ⟨_, rfl⟩
    have hy : y < h := by rw [ey]; exact Nat.mod_lt _ (by omega)
    have hi : i < np A := by rw [ei]; exact Nat.div_lt_of_lt_mul (by rw [Nat.mul_comm]; exact hkn)
    rw [← ei, ← ey] at b1
    obtain ⟨l1, l2, l3⟩ := hlnP i hi
    have hk0 : k = i * h + y := by rw [ei, ey, Nat.mul_comm]; exact (Nat.div_add_mod k h).symm
    obtain ⟨d, ed⟩ : ∃ d, d = wdN W i := ⟨_, rfl⟩
    rw [← ed] at b1 l1 l2 l3
    have hyl : y * d + d ≤ pz W (h : Int) i := by
      have : (y + 1) * d ≤ h * d := Nat.mul_le_mul_right _ (by omega)
      rw [Nat.add_mul, Nat.one_mul, Nat.mul_comm h] at this
      omega
    obtain ⟨r0, er0'⟩ : ∃ r0, r0 = 2 * d := ⟨_, rfl⟩
    have er0 : r0 = (plL W h) k := by rw [er0', ed, ei]; rfl
    have CBt := Hid.mk (byt60 d Wb.drew l3)
    rw [← er0'] at CBt
    obtain ⟨op, eop⟩ : ∃ op, op = 0 + y * d := ⟨_, rfl⟩
    obtain ⟨cd, ecd⟩ : ∃ cd, cd = pz W (h : Int) i - y * d := ⟨_, rfl⟩
    obtain ⟨bp, ebp⟩ : ∃ bp, bp = bs i := ⟨_, rfl⟩
    rw [← eop, ← ecd, ← ebp] at b1
    have cr0 := b1.at (show 0 < 1 by omega)
    have hsumk : ctL (plL W h) k + r0 ≤ M := by
      rw [hM, er0]
      have := ctL_mono (plL W h) (show k + 1 ≤ np A * h from hkn)
      rwa [ctL] at this
    have CRd : Hid (∀ u : World, Kept [] Wb u → Calls Tryd.prog 62 #[.slice (some ⟨g, 0, none⟩) 1 1, .slice (some ⟨gb, ob + ctL (plL W h) k, none⟩) r0 (cb - ctL (plL W h) k)] u fun e w' => e = .returned (.bool true) ∧ Kept [bp] u w' ∧ ∀ i, i < np A → Row w' (bs i) (pz W (h : Int) i) (cuP (fun i x => i * h + x / wdN W i) F (k + 1) i)) := Hid.mk (fun u hk => by
      rw [er0']
      have hne : g ≠ bs i := wpl_ne b1 (b3 i hi)
      refine (readP g 0 1 d cd (bs i) op (pz W (h : Int) i) gb (ob + ctL (plL W h) k) (cb - ctL (plL W h) k) (cuP (fun i x => i * h + x / wdN W i) F k i) (fun t => fb (ctL (plL W h) k + t)) u (by rw [← ebp]; exact cell_keep hk cr0 (by simp)) ((b3 i hi).keep hk (by simp)) (by omega) l3 hne (fun t ht => ?_) (fun t ht => hfb _ (by omega))).mono ?_
      · rw [Nat.add_assoc]
        exact cell_keep hk (cell_keep b2 (hgb _ (by omega)) (fun hx => by have := hklt gb hx; have := hgbw (by omega); omega)) (by simp)
      · rintro e w' ⟨rfl, hrow, hkp⟩
        rw [ebp]
        refine ⟨rfl, hkp, fun q hq => ?_⟩
        by_cases hqi : q = i
        · subst hqi
          refine hrow.congr (fun x hx => ?_)
          unfold stP cuP
          have e3 : op + (d - d) = op := by omega
          rw [e3]
          by_cases hin : op ≤ x ∧ x < op + d
          · have hxy : x / d = y := by
              apply Nat.div_eq_of_lt_le
              · omega
              · rw [Nat.succ_mul]; omega
            rw [if_pos hin, if_pos (by show q * h + x / wdN W q < k + 1; rw [← ed, hxy, hk0]; omega)]
            have hg : ∀ t, t < 2 * d → fb (ctL (plL W h) k + t) = plR W h F k t := fun t ht => hgood k hkn t (by rw [← er0, er0']; exact ht)
            have hs1 : smP (fun t => fb (ctL (plL W h) k + t)) (x - op) = smP (plR W h F k) (x - op) := by
              show fb (ctL (plL W h) k + 2 * (x - op)) + 256 * fb (ctL (plL W h) k + (2 * (x - op) + 1)) = _
              rw [hg _ (by omega), hg _ (by omega)]
              rfl
            rw [hs1]
            unfold plR
            rw [smP_plB, ← ei, ← ey, ← ed, show y * d + (x - op) = x by omega]
            rw [← ei, ← ey, ← ed, show y * d + (x - op) = x by omega]
            have h9 := HEF.out.1 q (by omega) x (by rw [← hpz q (by omega)]; omega)
            have h10 : mx D ≤ 4095 := by unfold mx; split <;> omega
            omega
          · rw [if_neg hin]
            have hxy : ¬ x / d = y := fun e => hin (by
              have h11 := Nat.div_add_mod x d
              have h12 := Nat.mod_lt x (show 0 < d by omega)
              rw [e, Nat.mul_comm] at h11
              omega)
            by_cases hlt2 : q * h + x / wdN W q < k
            · rw [if_pos hlt2, if_pos (by show q * h + x / wdN W q < k + 1; omega)]
            · rw [if_neg hlt2, if_neg (by show ¬ q * h + x / wdN W q < k + 1; rw [← ed] at hlt2 ⊢; omega)]
        · have hbd : bs q ≠ bs i := fun e => by
            rcases Nat.lt_or_gt_of_ne hqi with h9 | h9
            · have := hM5.mon q i h9 hi; omega
            · have := hM5.mon i q h9 hq; omega
          refine (((b3 q hq).keep hk (by simp)).keep hkp (by simpa using hbd)).congr (fun x hx => ?_)
          obtain ⟨m1, m2, m3⟩ := hlnP q hq
          have hxq : x / wdN W q < h := Nat.div_lt_of_lt_mul (by rw [← m1]; exact hx)
          unfold cuP
          by_cases hlt2 : q * h + x / wdN W q < k
          · rw [if_pos hlt2, if_pos (by show q * h + x / wdN W q < k + 1; omega)]
          · rw [if_neg hlt2, if_neg (fun h9' => hqi (by
              have h9 : q * h + x / wdN W q < k + 1 := h9'
              have h10 : q * h + x / wdN W q = i * h + y := by omega
              have h11 : (q * h + x / wdN W q) / h = q := by rw [Nat.add_comm, Nat.add_mul_div_right _ _ (by omega), Nat.div_eq_of_lt hxq]; omega
              rw [h10, Nat.add_comm, Nat.add_mul_div_right _ _ (by omega), Nat.div_eq_of_lt hy] at h11
              omega))])
    obtain ⟨L0, eL0⟩ : ∃ L0, L0 = ctL (plL W h) k := ⟨_, rfl⟩
    have hsum : L0 + r0 ≤ M := by
      rw [hM, eL0, er0]
      have := ctL_mono (plL W h) (show k + 1 ≤ np A * h from hkn)
      rwa [ctL] at this
    have hLS : ctL (plL W h) (k + 1) = L0 + r0 := by rw [ctL, ← eL0, ← er0]
    have hr1 : 1 ≤ r0 := by rw [er0]; unfold plL; have := hlnP (k / h) (Nat.div_lt_of_lt_mul (by rw [Nat.mul_comm]; exact hkn)); omega
    rw [← eL0] at b4 CRd
    obtain ⟨M0, eM0⟩ : ∃ M0, M0 = M - L0 := ⟨_, rfl⟩
    obtain ⟨C0, eC0⟩ : ∃ C0, C0 = cb - L0 := ⟨_, rfl⟩
    obtain ⟨O0, eO0⟩ : ∃ O0, O0 = ob + L0 := ⟨_, rfl⟩
    rw [← eM0, ← eC0, ← eO0] at b4
    rw [← eC0, ← eO0] at CRd
    have i1 : r0 ≤ M0 := by omega
    have i2 : M0 ≤ C0 := by omega
    have i3 : (r0 : Int) ≤ (C0 : Int) := by omega
    have i4 : (r0 : Int) ≤ (M0 : Int) := by omega
    have i5 : M0 ≤ 200000000 := by omega
    have c3 := cell_keep b2 (five HR5.out.1).1.2.2.1 (fun hx => by have := hks P3; rcases (hks P3).1 hx with h | ⟨i, hi, h⟩; omega; have := hbs i hi; omega)
    have c5 := cell_keep b2 (five HR5.out.1).1.2.2.2.2 (fun hx => by rcases (hks P3).1 hx with h | ⟨i, hi, h⟩; omega; have := hbs i hi; omega)
    have cb5 := one_cell b4
    have hP5k : ∀ i, i < np A → P5 ≠ bs i := fun i hi => by have := hbs i hi; omega
    have hP3k : ∀ i, i < np A → P3 ≠ bs i := fun i hi => by have := hbs i hi; omega
    have hi0 := hi
    have ebp0 := ebp
    have hp3n : P3 ≠ bp := by rw [ebp]; exact hP3k i hi
    have hp5n : P5 ≠ bp := by rw [ebp]; exact hP5k i hi
    have HX := Hid.mk (And.intro b2 (And.intro b3 (And.intro b4 (And.intro b5 (And.intro hLS (And.intro eM0 (And.intro eC0 (And.intro eO0 (And.intro hP5k hP3k)))))))))
    clear b1 b2 b3 b4 b5 hsum hLS eL0 er0 eM0 eC0 eO0 hn hM h3 h4 h5' h6 h7 hP5k hP3k ei ey hk0 l1 er0' ed eop ecd ebp hsumk hyl hi hy
    have HC := Hid.mk (And.intro hks (And.intro hbs (And.intro hklt (And.intro hV (And.intro hln (And.intro hpz (And.intro hlnP (And.intro hgood (And.intro RIO hM5)))))))))
    clear hks hbs hklt hV hln hlb hpz hfb hgood hlnP RIO hM5 hcu hgb hgbw hbl hM4 K5 k4
    have hmix : Tryd.prog.follows .mixedOrders = true := by kernel_rfl
    gi_wp2
    refine wpIn_region_heldR (fun u => u.cell? ⟨P3, 2, none⟩ = some (fnv 60) ∧ u.cell? ⟨g, 0, none⟩ = some (.slice (some ⟨bp, op, none⟩) d cd)) hmix (by kernel_rfl) (by rintro ⟨a, w, hq⟩; exact absurd hq.1 (by simp)) ⟨c3, cr0⟩ (fun hHeld => ?_)
    refine wpAnyH_take (i := 0) (v := ?_) rfl (by kernel_rfl) (by kernel_rfl) (by kernel_rfl) (fun _ _ _ h => h) (Or.inl ⟨by rfl, ?_⟩) (by assumption) ?_
    rotate_left
    · intro w hSw
      try dsimp only at hSw
      obtain ⟨s1, s2⟩ := hSw
      go_simp
      all_goals with_reducible rfl
    try simp only [Act.put, List.getElem_toArray, List.getElem_cons_zero, List.setIfInBounds_toArray, List.set_cons_zero, List.set_cons_succ]
    refine wpAnyH_take (i := 1) (v := ?_) rfl (by kernel_rfl) (by kernel_rfl) (by kernel_rfl) (fun _ _ _ h => h) (Or.inl ⟨by rfl, ?_⟩) (by assumption) ?_
    rotate_left
    · intro w hSw
      try dsimp only at hSw
      obtain ⟨s1, s2⟩ := hSw
      go_simp
      all_goals with_reducible rfl
    try simp only [Act.put, List.getElem_toArray, List.getElem_cons_zero, List.getElem_cons_succ, List.setIfInBounds_toArray, List.set_cons_zero, List.set_cons_succ]
    refine wpAnyH_take (i := 2) (v := ?_) rfl (by kernel_rfl) (by kernel_rfl) (by kernel_rfl) (fun _ _ _ h => h) (Or.inl ⟨by rfl, ?_⟩) (by assumption) ?_
    rotate_left
    · intro w hSw
      try dsimp only at hSw
      obtain ⟨s1, s2⟩ := hSw
      go_simp
      all_goals with_reducible rfl
    try simp only [Act.put, List.getElem_toArray, List.getElem_cons_zero, List.getElem_cons_succ, List.setIfInBounds_toArray, List.set_cons_zero, List.set_cons_succ]
    refine wpAnyH_take (i := 3) (v := ?_) rfl (by kernel_rfl) (by kernel_rfl) (by kernel_rfl) (fun _ _ _ h => h) (Or.inl ⟨by rfl, ?_⟩) (by assumption) ?_
    rotate_left
    · intro w hSw
      try dsimp only at hSw
      obtain ⟨s1, s2⟩ := hSw
      go_simp
      all_goals with_reducible rfl
    try simp only [Act.put, List.getElem_toArray, List.getElem_cons_zero, List.getElem_cons_succ, List.setIfInBounds_toArray, List.set_cons_zero, List.set_cons_succ]
    refine wpAnyH_take (i := 4) (v := ?_) rfl (by kernel_rfl) (by kernel_rfl) (by kernel_rfl) (fun _ _ _ h => h) (Or.inl ⟨by rfl, ?_⟩) (by assumption) ?_
    rotate_left
    · intro w hSw
      try dsimp only at hSw
      obtain ⟨s1, s2⟩ := hSw
      go_simp
      all_goals with_reducible rfl
    try simp only [Act.put, List.getElem_toArray, List.getElem_cons_zero, List.getElem_cons_succ, List.setIfInBounds_toArray, List.set_cons_zero, List.set_cons_succ]
    refine wpAnyH_take (i := 5) (v := ?_) rfl (by kernel_rfl) (by kernel_rfl) (by kernel_rfl) (fun _ _ _ h => h) (Or.inl ⟨by rfl, ?_⟩) (by assumption) ?_
    rotate_left
    · intro w hSw
      try dsimp only at hSw
      obtain ⟨s1, s2⟩ := hSw
      go_simp
      all_goals with_reducible rfl
    try simp only [Act.put, List.getElem_toArray, List.getElem_cons_zero, List.getElem_cons_succ, List.setIfInBounds_toArray, List.set_cons_zero, List.set_cons_succ]
    refine wpAnyH_ready (rs := [6]) (by kernel_rfl) (by simp) ?_
    refine AllReadyH.cons rfl (fun K9 hK9 => ?_) AllReadyH.nil
    go_simp
    refine CBt.out.mono ?_
    rintro e w1 ⟨rfl, rfl⟩
    refine hK9.out _ _ ⟨c3, cr0⟩ (fun hHeld2 => ?_)
    clear hK9 K9
    try simp only [Act.put, List.getElem_toArray, List.getElem_cons_zero, List.getElem_cons_succ, List.setIfInBounds_toArray, List.set_cons_zero, List.set_cons_succ]
    refine wpAnyH_take (i := 7) (v := ?_) rfl (by kernel_rfl) (by kernel_rfl) (by kernel_rfl) (fun _ _ _ h => h) (Or.inl ⟨by rfl, ?_⟩) (by assumption) ?_
    rotate_left
    · intro w hSw
      try dsimp only at hSw
      obtain ⟨s1, s2⟩ := hSw
      go_simp
      all_goals with_reducible rfl
    try simp only [Act.put, List.getElem_toArray, List.getElem_cons_zero, List.getElem_cons_succ, List.setIfInBounds_toArray, List.set_cons_zero, List.set_cons_succ]
    refine wpAnyH_done (by kernel_rfl) ?_ _

    gi_wp2
    have c3' : Wb.drew.drew.cell? ⟨P3, 4, none⟩ = some (fnv 62) := c5
    have c5' : Wb.drew.drew.cell? ⟨P5, 0, none⟩ = some (.slice (some ⟨gb, O0, none⟩) M0 C0) := cb5
    refine wpIn_region_heldR (fun u => u.cell? ⟨P3, 4, none⟩ = some (fnv 62) ∧ u.cell? ⟨P5, 0, none⟩ = some (.slice (some ⟨gb, O0, none⟩) M0 C0)) hmix (by kernel_rfl) (by rintro ⟨a, w, hq⟩; exact absurd hq.1 (by simp)) ⟨c3', c5'⟩ (fun hHeld => ?_)
    refine wpAnyH_take (i := 0) (v := ?_) rfl (by kernel_rfl) (by kernel_rfl) (by kernel_rfl) (fun _ _ _ h => h) (Or.inl ⟨by rfl, ?_⟩) (by assumption) ?_
    rotate_left
    · intro w hSw
      try dsimp only at hSw
      obtain ⟨s1, s2⟩ := hSw
      go_simp
      all_goals with_reducible rfl
    try simp only [Act.put, List.getElem_toArray, List.getElem_cons_zero, List.setIfInBounds_toArray, List.set_cons_zero, List.set_cons_succ]
    refine wpAnyH_take (i := 1) (v := ?_) rfl (by kernel_rfl) (by kernel_rfl) (by kernel_rfl) (fun _ _ _ h => h) (Or.inl ⟨by rfl, ?_⟩) (by assumption) ?_
    rotate_left
    · intro w hSw
      try dsimp only at hSw
      obtain ⟨s1, s2⟩ := hSw
      go_simp
      all_goals with_reducible rfl
    try simp only [Act.put, List.getElem_toArray, List.getElem_cons_zero, List.getElem_cons_succ, List.setIfInBounds_toArray, List.set_cons_zero, List.set_cons_succ]
    refine wpAnyH_take (i := 2) (v := ?_) rfl (by kernel_rfl) (by kernel_rfl) (by kernel_rfl) (fun _ _ _ h => h) (Or.inl ⟨by rfl, ?_⟩) (by assumption) ?_
    rotate_left
    · intro w hSw
      try dsimp only at hSw
      obtain ⟨s1, s2⟩ := hSw
      go_simp
      all_goals with_reducible rfl
    try simp only [Act.put, List.getElem_toArray, List.getElem_cons_zero, List.getElem_cons_succ, List.setIfInBounds_toArray, List.set_cons_zero, List.set_cons_succ]
    refine wpAnyH_take (i := 3) (v := ?_) rfl (by kernel_rfl) (by kernel_rfl) (by kernel_rfl) (fun _ _ _ h => h) (Or.inl ⟨by rfl, ?_⟩) (by assumption) ?_
    rotate_left
    · intro w hSw
      try dsimp only at hSw
      obtain ⟨s1, s2⟩ := hSw
      go_simp
      all_goals with_reducible rfl
    try simp only [Act.put, List.getElem_toArray, List.getElem_cons_zero, List.getElem_cons_succ, List.setIfInBounds_toArray, List.set_cons_zero, List.set_cons_succ]
    refine wpAnyH_take (i := 4) (v := ?_) rfl (by kernel_rfl) (by kernel_rfl) (by kernel_rfl) (fun _ _ _ h => h) (Or.inl ⟨by rfl, ?_⟩) (by assumption) ?_
    rotate_left
    · intro w hSw
      try dsimp only at hSw
      obtain ⟨s1, s2⟩ := hSw
      go_simp
      all_goals with_reducible rfl
    try simp only [Act.put, List.getElem_toArray, List.getElem_cons_zero, List.getElem_cons_succ, List.setIfInBounds_toArray, List.set_cons_zero, List.set_cons_succ]
    refine wpAnyH_take (i := 5) (v := ?_) rfl (by kernel_rfl) (by kernel_rfl) (by kernel_rfl) (fun _ _ _ h => h) (Or.inl ⟨by rfl, ?_⟩) (by assumption) ?_
    rotate_left
    · intro w hSw
      try dsimp only at hSw
      obtain ⟨s1, s2⟩ := hSw
      go_simp
      all_goals with_reducible rfl
    try simp only [Act.put, List.getElem_toArray, List.getElem_cons_zero, List.getElem_cons_succ, List.setIfInBounds_toArray, List.set_cons_zero, List.set_cons_succ]
    refine wpAnyH_ready (rs := [6]) (by kernel_rfl) (by simp) ?_
    refine AllReadyH.cons rfl (fun K9 hK9 => ?_) AllReadyH.nil
    go_simp
    refine (CRd.out _ ((Kept.refl [] Wb).drew.drew)).mono ?_
    rintro e w1 ⟨rfl, hkp, hrows⟩
    have z1 := cell_keep hkp c3' (by rw [List.mem_singleton]; exact hp3n)
    have z2 := cell_keep hkp c5' (by rw [List.mem_singleton]; exact hp5n)
    have HRW := Hid.mk (And.intro hkp hrows)
    clear hkp hrows
    refine hK9.out _ _ ⟨z1, z2⟩ (fun hHeld2 => ?_)
    clear hK9 K9
    try simp only [Act.put, List.getElem_toArray, List.getElem_cons_zero, List.getElem_cons_succ, List.setIfInBounds_toArray, List.set_cons_zero, List.set_cons_succ]
    refine wpAnyH_take (i := 7) (v := ?_) rfl (by kernel_rfl) (by kernel_rfl) (by kernel_rfl) (fun _ _ _ h => h) (Or.inl ⟨by rfl, ?_⟩) (by assumption) ?_
    rotate_left
    · intro w hSw
      try dsimp only at hSw
      obtain ⟨s1, s2⟩ := hSw
      go_simp
      all_goals with_reducible rfl
    try simp only [Act.put, List.getElem_toArray, List.getElem_cons_zero, List.getElem_cons_succ, List.setIfInBounds_toArray, List.set_cons_zero, List.set_cons_succ]
    refine wpAnyH_done (by kernel_rfl) ?_ _

    have o4 : w1.heap[P5]? = some (.cells #[.slice (some ⟨gb, O0, none⟩) M0 C0] 37 (0, 0)) := HRW.out.1.heap HX.out.2.2.1 (by rw [List.mem_singleton]; exact hp5n)
    have f4 : w1.frozen? ⟨P5, 0, none⟩ = false := by simp [World.frozen?, o4]
    have i6 : ¬ M0 < r0 := by omega
    have i7 : ¬ (M0 : Int) < (r0 : Int) := by omega
    have HO4 := Hid.mk o4
    clear o4
    by_cases hC : C0 ≤ r0
    · have hC2 : ¬ r0 < C0 := by omega
      have hC3 : ¬ (r0 : Int) < (C0 : Int) := by omega
      have hC4 : (C0 : Int) ≤ (r0 : Int) := by omega
      gi_wp2
      obtain ⟨b2, b3, b4, b5, hLS, eM0, eC0, eO0, hP5k, hP3k⟩ := HX.out
      refine fin_up b2 b5 HRW.out.1.undrew.undrew (fun y hy => by rw [List.mem_singleton] at hy; rw [hy]; exact (HC.out.1 bp).2 (.inr ⟨_, hi0, ebp0⟩)) ((HC.out.1 P5).2 (.inl rfl)) HO4.out HRW.out.2 hP5k (fun y hy => by have := (HC.out.2.2.1 y hy).2; omega) ⟨O0, fun hk2 => ?_, ?_⟩
      · have hM := HE.out.2.1
        have h9 := ctL_mono (plL W h) (show k + 1 + 1 ≤ np A * h from hk2)
        rw [ctL, hLS, ← hM] at h9
        have h10 : 1 ≤ (plL W h) (k + 1) := by unfold plL; have := (HC.out.2.2.2.2.2.2.1 ((k + 1) / h) (Nat.div_lt_of_lt_mul (by rw [Nat.mul_comm]; exact hk2))); omega
        omega
      · rw [hLS]
        congr 1 <;> omega
    · have hC2 : r0 < C0 := by omega
      have hC3 : (r0 : Int) < (C0 : Int) := by omega
      have hC4 : ¬ (C0 : Int) ≤ (r0 : Int) := by omega
      gi_wp2
      obtain ⟨b2, b3, b4, b5, hLS, eM0, eC0, eO0, hP5k, hP3k⟩ := HX.out
      refine fin_up b2 b5 HRW.out.1.undrew.undrew (fun y hy => by rw [List.mem_singleton] at hy; rw [hy]; exact (HC.out.1 bp).2 (.inr ⟨_, hi0, ebp0⟩)) ((HC.out.1 P5).2 (.inl rfl)) HO4.out HRW.out.2 hP5k (fun y hy => by have := (HC.out.2.2.1 y hy).2; omega) ⟨O0 + r0, fun hk2 => ?_, ?_⟩
      · rw [hLS]; omega
      · rw [hLS]
        congr 1 <;> omega
  case done =>
    rintro W' ⟨a1, a2, a3, o, a4, a5⟩ hK
    have hPl : Pl W' (some ⟨G, 0, none⟩) (np A) (pz W (h : Int)) (cuP (fun i x => i * h + x / wdN W i) F (np A * h)) := .inr ⟨G, 0, rfl, fun i hi => ⟨_, _, by rw [Nat.zero_add]; exact cell_keep a1 (hM5.cell hi (Nat.le_refl _)) (fun hx => by rcases (hks G).1 hx with h | ⟨i, hi, h⟩; omega; have := hbs i hi; omega), (a3 i hi).rd⟩⟩
    have hcF : ∀ i, i < np A → ∀ x, x < pz W (h : Int) i → cuP (fun i x => i * h + x / wdN W i) F (np A * h) i x = F i x := fun i hi x hx => by
      unfold cuP
      rw [if_pos]
      obtain ⟨m1, m2, m3⟩ := hlnP i hi
      have hxq : x / wdN W i < h := Nat.div_lt_of_lt_mul (by rw [← m1]; exact hx)
      have : (i + 1) * h ≤ np A * h := Nat.mul_le_mul_right _ hi; rw [Nat.add_mul] at this; show i * h + x / wdN W i < np A * h; omega
    obtain ⟨Ev, eEv⟩ : ∃ Ev, vE W (h : Int) D A (np A) (pz W (h : Int)) (cuP (fun i x => i * h + x / wdN W i) F (np A * h)) = Ev := ⟨_, rfl⟩
    have hEv : Ev ≠ 0 := fun e => HEF.out.2 (vE_zero.2 ⟨hV.shp, hn, hV.len, fun i hi x hx => by
      have h9 := (vE_zero.1 (eEv.trans e)).top i (by omega) x (by rw [hpz i (by omega)]; exact hx)
      rw [hcF i (by omega) x (by rw [hpz i (by omega)]; exact hx)] at h9
      exact h9⟩)
    have CV := Hid.mk (valid_any W (h : Int) D A (some ⟨G, 0, none⟩) (np A) (np A) (pz W (h : Int)) (cuP (fun i x => i * h + x / wdN W i) F (np A * h)) W' hPl (by omega) (fun i hi => by rw [hpz i (by omega)]; have := hlb i (by omega); omega))
    rw [eEv] at CV
    clear eEv
    have hnk : ∀ P, P ≠ P5 → (∀ i, i < np A → P ≠ bs i) → P ∉ ks := fun P q1 q2 hx => by
      rcases (hks P).1 hx with h | ⟨i, hi, h⟩
      · exact q1 h
      · exact q2 i hi h
    have hP10k : P10 ∉ ks := hnk P10 (by omega) (fun i hi => by have := hbs i hi; omega)
    have hP6k : P6 ∉ ks := hnk P6 (by omega) (fun i hi => by have := hbs i hi; omega)
    have hP7k : P7 ∉ ks := hnk P7 (by omega) (fun i hi => by have := hbs i hi; omega)
    obtain ⟨⟨d0, d1, d2, d3, d4⟩, _⟩ := five (a1.heap HR5.out.2.2.2.2 hP10k)
    have n67 : P6 ≠ P7 := by omega
    have n76 : P7 ≠ P6 := by omega
    have HD := Hid.mk (And.intro a1 (And.intro a3 (And.intro hK (And.intro hcF (And.intro hP6k (And.intro hP7k hP10k))))))
    have HC := Hid.mk (And.intro hks (And.intro hbs (And.intro hklt (And.intro hV (And.intro hln (And.intro hpz (And.intro hlnP (And.intro hgood (And.intro RIO (And.intro hM5 (And.intro K5 (And.intro hgb (And.intro hM4 k4)))))))))))))
    clear hks hbs hklt hV hln hlb hpz hfb hgood hlnP RIO hM5 hcu hgb hgbw hbl hM4 K5 k4 a1 a2 a3 a4 a5 hK hcF hPl hnk hP10k hP6k hP7k hn hM h3 h4 h5' h6 h7
    go_wp2_with (fail)
    refine CV.out.mono ?_
    rintro e w6 ⟨rfl, hk6⟩
    obtain ⟨a1, a3, hK, hcF, hP6k, hP7k, hP10k⟩ := HD.out
    have g10 := hk6.heap (a1.heap HR5.out.2.2.2.2 hP10k) (by simp)
    have g6 := hk6.heap (a1.heap HR5.out.2.2.1 hP6k) (by simp)
    have g7 := hk6.heap (a1.heap HR5.out.2.2.2.1 hP7k) (by simp)
    clear d0 d1 d2 d3 d4
    obtain ⟨⟨d0, d1, d2, d3, d4⟩, _⟩ := five g10
    obtain ⟨⟨r0, r1, r2, r3, r4⟩, s0, s1, s2, s3, s4⟩ := five g6
    have r7 := one_cell g7
    have s7 : w6.frozen? ⟨P7, 0, none⟩ = false := by simp [World.frozen?, g7]
    have HG := Hid.mk (And.intro g6 (And.intro g7 hk6))
    clear a1 a3 hK hcF hP6k hP7k hP10k g10 g6 g7 hk6
    go_wp2
    obtain ⟨g6, g7, hk6⟩ := HG.out
    obtain ⟨a1, a3, hK, hcF, hP6k, hP7k, hP10k⟩ := HD.out
    obtain ⟨hks, hbs, hklt, hV, hln, hpz, hlnP, hgood, RIO, hM5, K5, hgb, hM4, k4⟩ := HC.out
    obtain ⟨hn, hM, h3, h4, h5', h6, h7⟩ := HE.out
    have s5 := set5 (.int .i64 0) (.int .i64 0) (.int .i64 0) (.bool false) (.slice none 0 0) g6
    obtain ⟨wz, ewz⟩ : ∃ wz, wz = ((((w6.setCell ⟨P6, 0, none⟩ (.int .i64 0)).setCell ⟨P6, 1, none⟩ (.int .i64 0)).setCell ⟨P6, 2, none⟩ (.int .i64 0)).setCell ⟨P6, 3, none⟩ (.bool false)).setCell ⟨P6, 4, none⟩ (.slice none 0 0) := ⟨_, rfl⟩
    rw [← ewz] at s5 ⊢
    have kz : Kept [P7] wz (wz.setCell ⟨P7, 0, none⟩ (.int .i64 73)) := (Kept.refl _ _).setCell (.inl (by simp)) _
    have g7z := s5.2.heap g7 (by simp; omega)
    have e6 := kz.heap s5.1 (by simp; omega)
    have e7 : (wz.setCell ⟨P7, 0, none⟩ (.int .i64 73)).heap[P7]? = some (.cells #[.int .i64 73] 25 (0, 0)) := by rw [heap_setCell_at g7z]; rfl
    have hKz := kz.heap (s5.2.heap (hk6.heap hK (by simp)) (by simp; omega)) (by simp; omega)
    have kd : Kept [w5.heap.size] (wz.setCell ⟨P7, 0, none⟩ (.int .i64 73)) ((wz.setCell ⟨P7, 0, none⟩ (.int .i64 73)).putObj w5.heap.size (.deferred none)) := (Kept.refl _ _).putObj _ (.inl (by simp))
    refine ⟨by simp, .inl ⟨_, _, rfl, run_takeDeferred hKz, ?_⟩⟩
    refine ⟨_, results_two_cells rfl _ _ P6 P7 31 _ (0, 0) _ _ rfl (kd.heap e6 (by simp; omega)) Tryd.underlying31 Tryd.info38 rfl (one_cell (kd.heap e7 (by simp; omega))), rfl, ?_⟩
    have kfin : Kept (w5.heap.size :: P6 :: P7 :: ks) w5 ((wz.setCell ⟨P7, 0, none⟩ (.int .i64 73)).putObj w5.heap.size (.deferred none)) := ((((a1.mono (fun x hx => .inl (by simp [hx]))).step hk6 (by simp)).step s5.2 (by simp)).step kz (by simp)).step kd (by simp)
    refine K5.step kfin (fun x hx => ?_)
    · right
      simp at hx
      have := K5.size
      rcases hx with h | h | h | h
      · omega
      · omega
      · omega
      · exact (hklt x h).1
end Go.Proofs.YtodlkpcbkilglaaDoor
