import Derived.Test.YtodlkpcbkilglaaDoorRo
import Derived.Test.YtodlkpcbkilglaaDoorFnZ
import Derived.Test.YtodlkpcbkilglaaDoorRwZ
import Derived.ArgAppend
namespace Go.Proofs.YtodlkpcbkilglaaDoor
open Go.RowKit Go.Shelf
attribute [local go_sem] Oper.semAt_some

/-- What the closure of rows asks of the world: its two boxes, and the planes. -/
structure Rio (w : World) (Bk Bf : Nat) (a1 a2 a3 a4 a5 : Nat) (W : Int) (h : Nat) (D : Int) (A : Bool) (po : Option Addr) (n c : Nat) (ln pb pf pc : Nat → Nat) : Prop where
  f0 : w.cell? ⟨Bk, 0, none⟩ = some (fnv a1)
  f1 : w.cell? ⟨Bk, 1, none⟩ = some (fnv a2)
  f2 : w.cell? ⟨Bk, 2, none⟩ = some (fnv a3)
  f3 : w.cell? ⟨Bk, 3, none⟩ = some (fnv a4)
  f4 : w.cell? ⟨Bk, 4, none⟩ = some (fnv a5)
  fat : Fat w Bf W (h : Int) D A (.slice po n c)
  pq : Pq w po n ln pb pf pc
theorem Rio.keep {w w' : World} {Bk Bf a1 a2 a3 a4 a5 h n c : Nat} {W D : Int} {A : Bool} {po : Option Addr} {ln pb pf pc : Nat → Nat} (H : Rio w Bk Bf a1 a2 a3 a4 a5 W h D A po n c ln pb pf pc) (hk : Kept [] w w') : Rio w' Bk Bf a1 a2 a3 a4 a5 W h D A po n c ln pb pf pc :=
  ⟨cell_keep hk H.f0 (by simp), cell_keep hk H.f1 (by simp), cell_keep hk H.f2 (by simp), cell_keep hk H.f3 (by simp), cell_keep hk H.f4 (by simp), H.fat.keep hk (by simp), H.pq.keep hk⟩
/-- What is yielded: the rows of some planes at one height. -/
def Yv (w : World) (m : Nat) (pb pf pc wd S : Nat → Nat) (y : Nat) (v : Array Value) : Prop :=
  ∃ g, v = #[.slice (some ⟨g, 0, none⟩) m m] ∧ Rwl w g m (fun j => .slice (some ⟨pb (S j), pf (S j) + y * wd (S j), none⟩) (wd (S j)) (pc (S j) - y * wd (S j)))

set_option maxHeartbeats 8000000 in
set_option maxRecDepth 1000000 in
theorem iter_planar (l Bk Bf : Nat) (W D : Int) (A : Bool) (po : Option Addr) (n c h : Nat) (ln pb pf pc wd : Nat → Nat) (hn : n = np A) (h1 : 1 ≤ h) (h2 : h ≤ 4096)
    (hln : ∀ i, i < n → ln i = wd i * h ∧ 1 ≤ wd i ∧ wd i ≤ 4096) (hpc : ∀ i, i < n → ln i ≤ pc i) (J : Nat → World → Prop) (t : Nat)
    (hJF : ∀ k W', J k W' → Rio W' Bk Bf 58 59 60 61 62 W h D A po n c ln pb pf pc) (hJk : ∀ k W' W'', J k W' → Kept [] W' W'' → J k W'')
    (hY : ∀ k W' i y v, J k W' → k = i * h + y → i < np A → y < h → Yv W' 1 pb pf pc wd ((fun i _ => i) i) y v → YieldAt Fence.wide 0 Tryd.prog l v W' (fun e W'' => e = .returned (.bool true) ∧ J (k + 1) W'' ∧ Fu t W' W'')) (W0 : World) (h0 : J 0 W0) (ht : t ≤ W0.heap.size) :
    CallsIn Fence.wide 0 Tryd.prog 93 #[.func (.yield l) #[] #[], .pointer (some ⟨Bk, 0, none⟩), .pointer (some ⟨Bf, 0, none⟩)] W0 (fun e W' => (∃ v, e = .returned v) ∧ J (np A * h) W') := by
  refine callsIn_of_wp Tryd.func93 rfl trivial ?_ rfl
  simp only [Tryd.ntmps93, List.size_toArray, List.length_cons, List.length_nil, Nat.reduceAdd, Nat.reduceSub, Array.replicate_succ, Array.replicate_zero, List.push_toArray, List.append_toArray, List.nil_append, List.cons_append]
  have HJ := Hid.mk hJF
  have HK := Hid.mk hJk
  have HY := Hid.mk hY
  have HL := Hid.mk hln
  have HP := Hid.mk hpc
  have HN := Hid.mk hn
  have CS := Hid.mk (fun u => nsets59 W (h : Int) D A u)
  clear hJF hJk hY hln hpc hn
  obtain ⟨f0, f1, f2, f3, f4, hF, hP⟩ := HJ.out 0 W0 h0
  obtain ⟨d0, d1, d2, d3, d4⟩ := hF
  have h3 : np A ≤ 4 := np_hi A
  gi_wp2
  refine ⟨trivial, rfl, (callsIn_wide.2 (CS.out _)).mono ?_⟩
  rintro e w2 ⟨sg, sc, rfl, hns, hk2⟩
  have hJ1 := HK.out _ _ _ h0 hk2
  have HNS := Hid.mk hns
  clear f0 f1 f2 f3 f4 d0 d1 d2 d3 d4 hP h0 hns
  gi_wp2
  gi_loopw [13] (fun x wr => ∃ i : Nat, i ≤ np A ∧ x = .int .i64 (i : Int) ∧ J (i * h) wr ∧ Fu t w2 wr) (fun x _ => np A - (intOf x).toNat)
  case atStart => exact ⟨0, by omega, rfl, by simpa using hJ1, Fu.refl _ _⟩
  case round =>
    obtain ⟨i, hi, rfl, hJ, hkr⟩ := hrel
    obtain ⟨f0, f1, f2, f3, f4, hF, hP⟩ := HJ.out _ _ hJ
    obtain ⟨d0, d1, d2, d3, d4⟩ := hF
    by_cases hlt : i < np A
    · have iq : (i : Int) < (np A : Int) := by omega
      have HLT := Hid.mk hlt
      obtain ⟨_, hns⟩ := HNS.out.fu hkr ht
      obtain ⟨sb, sc2, sbl, t1, t2⟩ := hns i hlt
      obtain ⟨wo, ewo⟩ : ∃ wo, wo = wr := ⟨_, rfl⟩
      have HKR := Hid.mk hkr
      rw [← ewo] at HKR t2
      have HTT := Hid.mk (And.intro sbl t2)
      clear sbl t2 hkr hns hP
      gi_wp2
      gi_loopw [20] (fun x wr2 => ∃ y : Nat, y ≤ h ∧ x = .int .i64 (y : Int) ∧ J (i * h + y) wr2 ∧ Fu t wo wr2) (fun x _ => h - (intOf x).toNat)
      case atStart => exact ⟨0, by omega, rfl, by simpa using hJ, by rw [ewo]; exact Fu.refl _ _⟩
      case round =>
        obtain ⟨y, hy, rfl, hJ2, hkr2⟩ := hrel
        clear f0 f1 f2 f3 f4 d0 d1 d2 d3 d4 t1
        obtain ⟨f0, f1, f2, f3, f4, hF, hP⟩ := HJ.out _ _ hJ2
        obtain ⟨d0, d1, d2, d3, d4⟩ := hF
        by_cases hyl : y < h
        · have yh : (y : Int) < (h : Int) := by omega
          have HSI : ∀ j : Nat, j < 1 → (fun i _ => i) i j < n := by
            intro j hj
            show i < n
            have h5 := HN.out
            have h6 := np_lo A
            have h7 := HLT.out
            omega
          have CR := Hid.mk (rowOf_any W D A po n c h y 1 sb sc2 ln pb pf pc (fun j => wd ((fun i _ => i) i j)) ((fun i _ => i) i) wr hP HP.out h1 h2 hyl (by omega) (fun j hj => ⟨hkr2.cell (HTT.out.2 j hj) (by have := HTT.out.1; omega), HSI j hj⟩) (fun j hj => HL.out _ (HSI j hj)))
          clear HSI
          have HF2 := Hid.mk hkr2
          clear hP hkr2
          gi_wp2
          refine ⟨trivial, rfl, (callsIn_wide.2 CR.out).mono ?_⟩
          rintro e w3 ⟨rfl, hrw, hk3⟩
          have hJ3 := HK.out _ _ _ hJ2 hk3
          obtain ⟨fn, tmps, assign, body, hyy, hR⟩ := HY.out _ _ i y _ hJ3 rfl HLT.out hyl ⟨_, rfl, hrw⟩
          gi_wp2
          refine ⟨rfl, hR.mono ?_⟩
          rintro e W4 ⟨rfl, hJ4, hf4⟩
          gi_wp2
          go_roundw
          case rel => exact ⟨y + 1, by omega, by go_num, by rw [← Nat.add_assoc]; exact hJ4, (HF2.out.trans (hk3.fu (by simp))).trans hf4⟩
          case measure => first | (simp [intOf]; done) | (simp [intOf]; omega)
        · obtain rfl : h = y := by omega
          gi_wp2
          go_roundw
          case rel => exact ⟨i + 1, by have := HLT.out; omega, by go_num, by rw [Nat.add_mul, Nat.one_mul]; exact hJ2, HKR.out.trans hkr2⟩
          case measure => first | (simp [intOf]; done) | (simp [intOf]; omega)
    · obtain rfl : i = np A := by omega
      gi_wp2
      go_end0
      exact ⟨⟨_, rfl⟩, hJ⟩

set_option maxHeartbeats 8000000 in
set_option maxRecDepth 1000000 in
theorem iter_v210 (l Bk Bf : Nat) (W D : Int) (A : Bool) (po : Option Addr) (n c h : Nat) (ln pb pf pc wd : Nat → Nat) (hn : n = np A) (h1 : 1 ≤ h) (h2 : h ≤ 4096)
    (hln : ∀ i, i < n → ln i = wd i * h ∧ 1 ≤ wd i ∧ wd i ≤ 4096) (hpc : ∀ i, i < n → ln i ≤ pc i) (J : Nat → World → Prop) (t : Nat)
    (hJF : ∀ k W', J k W' → Rio W' Bk Bf 66 67 68 69 70 W h D A po n c ln pb pf pc) (hJk : ∀ k W' W'', J k W' → Kept [] W' W'' → J k W'')
    (hY : ∀ k W' i y v, J k W' → k = i * h + y → i < 1 → y < h → Yv W' 3 pb pf pc wd ((fun _ j => j) i) y v → YieldAt Fence.wide 0 Tryd.prog l v W' (fun e W'' => e = .returned (.bool true) ∧ J (k + 1) W'' ∧ Fu t W' W'')) (W0 : World) (h0 : J 0 W0) (ht : t ≤ W0.heap.size) :
    CallsIn Fence.wide 0 Tryd.prog 93 #[.func (.yield l) #[] #[], .pointer (some ⟨Bk, 0, none⟩), .pointer (some ⟨Bf, 0, none⟩)] W0 (fun e W' => (∃ v, e = .returned v) ∧ J (1 * h) W') := by
  refine callsIn_of_wp Tryd.func93 rfl trivial ?_ rfl
  simp only [Tryd.ntmps93, List.size_toArray, List.length_cons, List.length_nil, Nat.reduceAdd, Nat.reduceSub, Array.replicate_succ, Array.replicate_zero, List.push_toArray, List.append_toArray, List.nil_append, List.cons_append]
  have HJ := Hid.mk hJF
  have HK := Hid.mk hJk
  have HY := Hid.mk hY
  have HL := Hid.mk hln
  have HP := Hid.mk hpc
  have HN := Hid.mk hn
  have CS := Hid.mk (fun u => nsets67 W (h : Int) D A u)
  clear hJF hJk hY hln hpc hn
  obtain ⟨f0, f1, f2, f3, f4, hF, hP⟩ := HJ.out 0 W0 h0
  obtain ⟨d0, d1, d2, d3, d4⟩ := hF
  have h3 : np A ≤ 4 := np_hi A
  gi_wp2
  refine ⟨trivial, rfl, (callsIn_wide.2 (CS.out _)).mono ?_⟩
  rintro e w2 ⟨sg, sc, rfl, hns, hk2⟩
  have hJ1 := HK.out _ _ _ h0 hk2
  have HNS := Hid.mk hns
  clear f0 f1 f2 f3 f4 d0 d1 d2 d3 d4 hP h0 hns
  gi_wp2
  gi_loopw [13] (fun x wr => ∃ i : Nat, i ≤ 1 ∧ x = .int .i64 (i : Int) ∧ J (i * h) wr ∧ Fu t w2 wr) (fun x _ => 1 - (intOf x).toNat)
  case atStart => exact ⟨0, by omega, rfl, by simpa using hJ1, Fu.refl _ _⟩
  case round =>
    obtain ⟨i, hi, rfl, hJ, hkr⟩ := hrel
    obtain ⟨f0, f1, f2, f3, f4, hF, hP⟩ := HJ.out _ _ hJ
    obtain ⟨d0, d1, d2, d3, d4⟩ := hF
    by_cases hlt : i < 1
    · have iq : (i : Int) < (1 : Int) := by omega
      have HLT := Hid.mk hlt
      obtain ⟨_, hns⟩ := HNS.out.fu hkr ht
      obtain ⟨sb, sc2, sbl, t1, t2⟩ := hns i hlt
      obtain ⟨wo, ewo⟩ : ∃ wo, wo = wr := ⟨_, rfl⟩
      have HKR := Hid.mk hkr
      rw [← ewo] at HKR t2
      have HTT := Hid.mk (And.intro sbl t2)
      clear sbl t2 hkr hns hP
      gi_wp2
      gi_loopw [20] (fun x wr2 => ∃ y : Nat, y ≤ h ∧ x = .int .i64 (y : Int) ∧ J (i * h + y) wr2 ∧ Fu t wo wr2) (fun x _ => h - (intOf x).toNat)
      case atStart => exact ⟨0, by omega, rfl, by simpa using hJ, by rw [ewo]; exact Fu.refl _ _⟩
      case round =>
        obtain ⟨y, hy, rfl, hJ2, hkr2⟩ := hrel
        clear f0 f1 f2 f3 f4 d0 d1 d2 d3 d4 t1
        obtain ⟨f0, f1, f2, f3, f4, hF, hP⟩ := HJ.out _ _ hJ2
        obtain ⟨d0, d1, d2, d3, d4⟩ := hF
        by_cases hyl : y < h
        · have yh : (y : Int) < (h : Int) := by omega
          have HSI : ∀ j : Nat, j < 3 → (fun _ j => j) i j < n := by
            intro j hj
            show j < n
            have h5 := HN.out
            have h6 := np_lo A
            have h7 := HLT.out
            omega
          have CR := Hid.mk (rowOf_any W D A po n c h y 3 sb sc2 ln pb pf pc (fun j => wd ((fun _ j => j) i j)) ((fun _ j => j) i) wr hP HP.out h1 h2 hyl (by omega) (fun j hj => ⟨hkr2.cell (HTT.out.2 j hj) (by have := HTT.out.1; omega), HSI j hj⟩) (fun j hj => HL.out _ (HSI j hj)))
          clear HSI
          have HF2 := Hid.mk hkr2
          clear hP hkr2
          gi_wp2
          refine ⟨trivial, rfl, (callsIn_wide.2 CR.out).mono ?_⟩
          rintro e w3 ⟨rfl, hrw, hk3⟩
          have hJ3 := HK.out _ _ _ hJ2 hk3
          obtain ⟨fn, tmps, assign, body, hyy, hR⟩ := HY.out _ _ i y _ hJ3 rfl HLT.out hyl ⟨_, rfl, hrw⟩
          gi_wp2
          refine ⟨rfl, hR.mono ?_⟩
          rintro e W4 ⟨rfl, hJ4, hf4⟩
          gi_wp2
          go_roundw
          case rel => exact ⟨y + 1, by omega, by go_num, by rw [← Nat.add_assoc]; exact hJ4, (HF2.out.trans (hk3.fu (by simp))).trans hf4⟩
          case measure => first | (simp [intOf]; done) | (simp [intOf]; omega)
        · obtain rfl : h = y := by omega
          gi_wp2
          go_roundw
          case rel => exact ⟨i + 1, by have := HLT.out; omega, by go_num, by rw [Nat.add_mul, Nat.one_mul]; exact hJ2, HKR.out.trans hkr2⟩
          case measure => first | (simp [intOf]; done) | (simp [intOf]; omega)
    · obtain rfl : i = 1 := by omega
      gi_wp2
      go_end0
      exact ⟨⟨_, rfl⟩, hJ⟩
end Go.Proofs.YtodlkpcbkilglaaDoor

namespace Go.Proofs.YtodlkpcbkilglaaDoor
open Go.RowKit Go.Shelf
attribute [local go_sem] Oper.semAt_some

/-- Rows of bytes, one behind the other: how many, and which. -/
def ctL (rl : Nat → Nat) : Nat → Nat
  | 0 => 0
  | k + 1 => ctL rl k + rl k
def ctB (rl : Nat → Nat) (rb : Nat → Nat → Nat) : Nat → List Value
  | 0 => []
  | k + 1 => ctB rl rb k ++ fl (fun t => .int .u8 (rb k t : Int)) (rl k)
theorem ctB_length (rl : Nat → Nat) (rb : Nat → Nat → Nat) (k : Nat) : (ctB rl rb k).length = ctL rl k := by
  induction k with
  | zero => rfl
  | succ k ih => rw [ctB, List.length_append, ih, fl_length, ctL]
theorem ctL_mono (rl : Nat → Nat) {a b : Nat} (h : a ≤ b) : ctL rl a ≤ ctL rl b := by
  induction b with
  | zero => obtain rfl : a = 0 := by omega
            exact Nat.le_refl _
  | succ b ih =>
    by_cases e : a = b + 1
    · subst e; exact Nat.le_refl _
    · rw [ctL]; exact Nat.le_trans (ih (by omega)) (Nat.le_add_right _ _)

/-- Bytes are put behind a row that has room for them. -/
theorem app_room (u : World) (G n cap m c : Nat) (g : Nat) (xs : List Value) (f : Nat → Nat) (ho : u.ownsRow 0 5 1 (.slice (some ⟨G, 0, none⟩) n cap) n xs) (hb : Cb u g m f) (hr : n + m ≤ cap) :
    ∃ u', Sem.run Tryd.prog (Builtin.append_ #[37, 37] 37 #[.slice (some ⟨G, 0, none⟩) n cap, .slice (some ⟨g, 0, none⟩) m c]) u = .ok (.slice (some ⟨G, 0, none⟩) (n + m) cap) u' ∧
      u'.ownsRow 0 5 1 (.slice (some ⟨G, 0, none⟩) (n + m) cap) (n + m) (xs ++ fl (fun t => .int .u8 (f t : Int)) m) ∧ Kept [G] u u' := by
  obtain ⟨j0, gi, gz0, gz1, gz2⟩ := info_parts Bt.Tryd.info5
  rcases ho.2 with ⟨e, _⟩ | ⟨g', cap', cur, e, hbg, hg, hnc, hcm, hcs, htake⟩
  · cases e
  · cases e
    have hl : (fl (fun t => Value.int .u8 (f t : Int)) m).length = m * j0.size := by rw [fl_length, gz1, Nat.mul_one]
    have hl1 : (fl (fun t => Value.int .u8 (f t : Int)) m).length = m := fl_length _ _
    have hx : xs.length = n := by rw [ho.1, Nat.mul_one]
    have hc1 : cur.size = cap := by rw [hcs, Nat.mul_one]
    rw [Nat.mul_one] at htake
    have hnews : ∀ j v, (fl (fun t => Value.int .u8 (f t : Int)) m)[j]? = some v → u.cell? ((⟨g, 0, none⟩ : Addr).add j) = some v := by
      intro j v hj
      have hjm : j < m := by
        rcases Nat.lt_or_ge j m with h | h
        · exact h
        · rw [List.getElem?_eq_none (by rw [fl_length]; exact h)] at hj; cases hj
      rw [fl_at _ _ _ hjm] at hj
      cases hj
      rw [show (⟨g, 0, none⟩ : Addr).add j = ⟨g, 0 + j, none⟩ by unfold Addr.add; split <;> simp_all, Nat.zero_add]
      exact hb.at hjm
    have h1 : ∀ v ∈ fl (fun t => Value.int .u8 (f t : Int)) m, v.oneCell' = true := by
      intro v hv
      simp only [fl, List.mem_map] at hv
      obtain ⟨i, _, rfl⟩ := hv
      rfl
    have hr2 := run_append_room (P := Tryd.prog) u 37 37 5 j0 Tryd.underlying37 gi G n cap cur hg ⟨g, 0, none⟩ m c _ hl hnews h1 hr (by rw [gz1, Nat.mul_one, hl1, hc1]; exact hr)
    refine ⟨_, hr2, ⟨by rw [List.length_append, hx, hl1, Nat.mul_one], .inr ⟨G, cap, _, rfl, Nat.zero_le _, setRow_heap u G cur _ 5 _ hg, hr, hcm, ?_, ?_⟩⟩, ⟨rfl, rfl, rfl, by simp [World.setRow], fun k _ hk => setRow_other u G k _ (by simpa using hk)⟩⟩
    · simp only [List.size_toArray, List.length_append, List.length_take, List.length_drop, Array.length_toList, fl_length]
      rw [gz1]
      omega
    · rw [gz1, Nat.mul_one, Nat.mul_one, htake]
      have : (xs ++ fl (fun t => Value.int .u8 (f t : Int)) m).length = n + m := by rw [List.length_append, hx, hl1]
      rw [← this]
      exact List.take_left
end Go.Proofs.YtodlkpcbkilglaaDoor
