import Derived.Test.YthihennifigchabNb
namespace Go.Proofs.Ythihennifigchab
open Go.RowKit

/-- A quotient as a float's bits. -/
def meB (a b : Nat) : Nat := (floatBits .quo .f64 (FloatKind.f64.nearest (a : Int)) (FloatKind.f64.nearest (b : Int))).getD 0
theorem meB_ok (a b : Nat) (ha : a < 4503599627370496) (hb : 1 ≤ b) (hb2 : b < 4503599627370496) : floatBits .quo .f64 (FloatKind.f64.nearest (a : Int)) (FloatKind.f64.nearest (b : Int)) = some (meB a b) ∧ (FloatKind.f64.format.order (meB a b) (meB a b) == some Ordering.eq) = true := by
  obtain ⟨r, h1, h2⟩ := mean_ok a b ha hb hb2
  have : meB a b = r := by unfold meB; rw [h1]; rfl
  rw [this]
  exact ⟨h1, h2⟩
theorem sqs_le {f g : Nat → Nat} {n : Nat} (hf : ∀ i, i < n → f i ≤ 4095) (hg : ∀ i, i < n → g i ≤ 4095) : ∀ k, k ≤ n → sqs f g k ≤ k * 16769025
  | 0, _ => Nat.zero_le _
  | k + 1, hk => by
    have ih := sqs_le hf hg k (by omega)
    have h1 := hf k (by omega)
    have h2 := hg k (by omega)
    have hd : df (f k) (g k) ≤ 4095 := by unfold df; omega
    have hm : df (f k) (g k) * df (f k) (g k) ≤ 4095 * 4095 := Nat.mul_le_mul hd hd
    show sqs f g k + df (f k) (g k) * df (f k) (g k) ≤ _
    omega
theorem mx_le (D : Int) : mx D ≤ 4095 := by unfold mx; split <;> decide
/-- Error's error. -/
def erE (E p : Int) (n : Nat) : Int := if E = 0 then (if 0 ≤ p ∧ p < (n : Int) then 0 else 65) else E
/-- Error's answer. -/
def erX (E p : Int) (n : Nat) (ln : Nat → Nat) (F G : Nat → Nat → Nat) : Nat := if E = 0 then (if 0 ≤ p ∧ p < (n : Int) then meB (sqs (F p.toNat) (G p.toNat) (ln p.toNat)) (ln p.toNat) else 0) else 0

set_option maxHeartbeats 16000000 in
set_option maxRecDepth 1000000 in
theorem error_any (W H D : Int) (A : Bool) (po : Option Addr) (n c : Nat) (ln : Nat → Nat) (F : Nat → Nat → Nat) (W2 H2 D2 : Int) (A2 : Bool) (qo : Option Addr) (m d : Nat) (lm : Nat → Nat) (G : Nat → Nat → Nat) (p : Int) (w : World) (hr : Pl w po n ln F) (hs : Pl w qo m lm G) (hn : n ≤ 9223372036854775807) (hln : ∀ i, i < n → ln i ≤ 9223372036854775807) (hm : m ≤ 9223372036854775807) (hlm : ∀ i, i < m → lm i ≤ 9223372036854775807) (hF : ∀ i j, F i j < 65536) (hG : ∀ i j, G i j < 65536) :
    Calls Try.prog 28 #[frv W H D A po n c, frv W2 H2 D2 A2 qo m d, .int .i64 p] w fun e w' => e = .returned (.tuple #[.float .f64 (erX (alE W H D A W2 H2 D2 A2 (vE W H D A n ln F) (vE W2 H2 D2 A2 m lm G)) p n ln F G), .int .i64 (erE (alE W H D A W2 H2 D2 A2 (vE W H D A n ln F) (vE W2 H2 D2 A2 m lm G)) p n)]) ∧ Kept [] w w' := by
  have CA := Hid.mk (fun u (h1 : Pl u po n ln F) (h2 : Pl u qo m lm G) => alike_any W H D A po n c ln F W2 H2 D2 A2 qo m d lm G u h1 h2 hn hln hm hlm)
  have CT := Hid.mk (fun u => there_any W H D p A u)
  obtain ⟨E, eE⟩ : ∃ E, E = alE W H D A W2 H2 D2 A2 (vE W H D A n ln F) (vE W2 H2 D2 A2 m lm G) := ⟨_, rfl⟩
  rw [← eE] at CA ⊢
  have Hr := Hid.mk hr
  have Hs := Hid.mk hs
  have h1 := heap_alloc_new w (.cells #[.int .i64 W, .int .i64 H, .int .i64 D, .bool A, .slice po n c] 26)
  have k1 := alloc_kept w (.cells #[.int .i64 W, .int .i64 H, .int .i64 D, .bool A, .slice po n c] 26)
  have h2 := heap_alloc_new (w.alloc (.cells #[.int .i64 W, .int .i64 H, .int .i64 D, .bool A, .slice po n c] 26)) (.cells #[.int .i64 W2, .int .i64 H2, .int .i64 D2, .bool A2, .slice qo m d] 26)
  have k2 := alloc_kept (w.alloc (.cells #[.int .i64 W, .int .i64 H, .int .i64 D, .bool A, .slice po n c] 26)) (.cells #[.int .i64 W2, .int .i64 H2, .int .i64 D2, .bool A2, .slice qo m d] 26)
  rw [World.size_alloc] at h2
  have hh1 := k2.heap h1 (by simp)
  have K1 := Hid.mk (k1.trans k2)
  have P1 := Hid.mk (And.intro hh1 h2)
  have EE := Hid.mk eE
  have HFG := Hid.mk (And.intro hF hG)
  clear hr hs hln hlm h1 k1 h2 k2 hh1 hF hG eE
  go_enter Try.func28, Try.ntmps28
  go_wp2_with (fail)
  obtain ⟨w1, ew1⟩ : ∃ w1, w1 = (w.alloc (.cells #[.int .i64 W, .int .i64 H, .int .i64 D, .bool A, .slice po n c] 26)).alloc (.cells #[.int .i64 W2, .int .i64 H2, .int .i64 D2, .bool A2, .slice qo m d] 26) := ⟨_, rfl⟩
  rw [← ew1] at P1 K1 ⊢
  obtain ⟨FB, eFB⟩ : ∃ FB, FB = w.heap.size := ⟨_, rfl⟩
  obtain ⟨BB, eBB⟩ : ∃ BB, BB = w.heap.size + 1 := ⟨_, rfl⟩
  rw [← eBB, ← eFB] at P1 ⊢
  clear ew1 eFB eBB
  refine (CA.out w1 (Hr.out.keep K1.out) (Hs.out.keep K1.out)).mono ?_
  rintro e w2 ⟨rfl, hk2⟩
  obtain ⟨⟨f0, f1, f2, f3, f4⟩, _⟩ := five (hk2.heap P1.out.1 (by simp))
  have K2 := Hid.mk (K1.out.trans hk2)
  by_cases hE : E = 0
  · subst hE
    obtain ⟨v1, v2, rfl, rfl, rfl, rfl⟩ := alE_zero EE.out.symm
    have V1 := vE_zero.1 v1
    have V2 := vE_zero.1 v2
    obtain rfl : m = n := by rw [V1.num, V2.num]
    have hm4 : m ≤ 4 := by rw [V1.num]; exact np_hi A
    go_wp2_with (fail)
    refine (CT.out w2).mono ?_
    rintro e w3 ⟨rfl, hk3⟩
    have K3 := Hid.mk (K2.out.trans hk3)
    have hk23 := hk2.trans hk3
    clear f0 f1 f2 f3 f4
    obtain ⟨⟨f0, f1, f2, f3, f4⟩, _⟩ := five (hk23.heap P1.out.1 (by simp))
    obtain ⟨⟨_, _, _, _, b4⟩, _⟩ := five (hk23.heap P1.out.2 (by simp))
    by_cases hp : 0 ≤ p ∧ p < (m : Int)
    · have hdp : decide (0 ≤ p ∧ p < (np A : Int)) = true := by rw [← V1.num]; exact decide_eq_true hp
      obtain ⟨P, rfl⟩ : ∃ P : Nat, p = (P : Int) := ⟨p.toNat, by omega⟩
      have hPm : P < m := by omega
      obtain ⟨g, off, bo, c', rfl, hc0, hrd⟩ := Hr.out.at hPm
      obtain ⟨g2, o2, bo2, c2, rfl, hd0, hrd2⟩ := Hs.out.at hPm
      have hc := cell_keep K3.out hc0 (by simp)
      have hd := cell_keep K3.out hd0 (by simp)
      have hle : lm P = ln P := by have := V1.len P hPm; have := V2.len P hPm; omega
      rw [hle] at hd hrd2
      have hL : 1 ≤ ln P ∧ ln P ≤ 16777216 := by
        have h := V1.len P hPm
        have := wpH (P : Int) V1.shp.1.1 V1.shp.1.2 V1.shp.2.1.1 V1.shp.2.1.2
        omega
      have hm0 := mx_le D
      have hsq := sqs_le (f := F P) (g := G P) (n := ln P) (fun i hi => Nat.le_trans (V1.top P hPm i hi) hm0) (fun i hi => Nat.le_trans (V2.top P hPm i (by rw [hle]; exact hi)) hm0)
      have HSQ := Hid.mk hsq
      have hfin := hsq (ln P) (Nat.le_refl _)
      have hme := meB_ok (sqs (F P) (G P) (ln P)) (ln P) (by omega) hL.1 (by omega)
      have HX : Hid (erX 0 (P : Int) m ln F G = meB (sqs (F P) (G P) (ln P)) (ln P) ∧ erE 0 (P : Int) m = 0) := Hid.mk ⟨by unfold erX; rw [if_pos rfl, if_pos hp]; rfl, by unfold erE; rw [if_pos rfl, if_pos hp]⟩
      have HRD := Hid.mk (And.intro (hrd.keep K3.out) (hrd2.keep K3.out))
      obtain ⟨L, eL⟩ : ∃ L, L = ln P := ⟨_, rfl⟩
      rw [← eL] at hc hd HRD hL HX HSQ hfin hme
      have ix : (P : Int) < (m : Int) := by omega
      have HFP : Hid ((∀ j, F P j < 65536) ∧ ∀ j, G P j < 65536) := Hid.mk ⟨HFG.out.1 P, HFG.out.2 P⟩
      obtain ⟨f, ef⟩ : ∃ f, f = F P := ⟨_, rfl⟩
      obtain ⟨g', eg⟩ : ∃ g', g' = G P := ⟨_, rfl⟩
      rw [← ef, ← eg] at HRD HX HSQ hfin hme HFP
      obtain ⟨rB, erB⟩ : ∃ rB, rB = meB (sqs f g' L) L := ⟨_, rfl⟩
      rw [← erB] at HX hme
      have HME := Hid.mk hme
      rw [hdp]
      clear V1 V2 v1 v2 hk2 hk3 hk23 hc0 hd0 hrd hrd2 hle hm0 hsq eL ef eg erB hme hp hPm hdp
      go_wp2
      go_loopw [9, 30] (fun s i wr => ∃ j : Nat, j ≤ L ∧ i = .int .i64 (j : Int) ∧ s = .int .i64 (sqs f g' j : Int) ∧ wr = w3) (fun _ i _ => L - (intOf i).toNat)
      case atStart => exact ⟨0, by omega, rfl, rfl, rfl⟩
      case round =>
        obtain ⟨j, hj, rfl, rfl, rfl⟩ := hrel
        by_cases hjl : j < L
        · obtain ⟨a1, q1, rfl, hf⟩ := HRD.out.1.at hjl
          obtain ⟨a2, q2, rfl, hg⟩ := HRD.out.2.at hjl
          have jx : (j : Int) < (L : Int) := by omega
          have hx := HFP.out.1 j
          have hy := HFP.out.2 j
          have hs1 := HSQ.out j hj
          have hs2 := HSQ.out (j + 1) hjl
          have HST : Hid (sqs f g' (j + 1) = sqs f g' j + df (f j) (g' j) * df (f j) (g' j)) := Hid.mk rfl
          obtain ⟨x, ex⟩ : ∃ x, x = f j := ⟨_, rfl⟩
          obtain ⟨y, ey⟩ : ∃ y, y = g' j := ⟨_, rfl⟩
          rw [← ex] at hf hx HST
          rw [← ey] at hg hy HST
          have CD := Hid.mk (fun u => distance_any x y u hx hy)
          obtain ⟨d0, ed⟩ : ∃ d0, d0 = df x y := ⟨_, rfl⟩
          rw [← ed] at CD HST
          rw [HST.out] at hs2
          obtain ⟨T, eT⟩ : ∃ T, T = sqs f g' j := ⟨_, rfl⟩
          rw [← eT] at HST hs1 hs2 ⊢
          obtain ⟨z, ez⟩ : ∃ z, z = d0 * d0 := ⟨_, rfl⟩
          have ezi : (d0 : Int) * (d0 : Int) = (z : Int) := by rw [ez]; push_cast; rfl
          rw [← ez] at HST hs2
          have hwz : IntKind.i64.wrap (z : Int) = (z : Int) := wrap_i (by omega) (by omega)
          clear ex ey ed eT ez
          go_wp2_with (go_at_call 53; refine (CD.out _).mono ?_; rintro e w9 ⟨rfl, rfl⟩)
          refine ⟨⟨j + 1, by omega, by go_num, ?_, trivial⟩, by simp [intOf]; omega⟩
          rw [HST.out]
          congr 1
        · obtain rfl : L = j := by omega
          have hq : ∀ (u : World) (t : TypeId), Sem.run Try.prog (binOp .quo t (.float .f64 (floatOfInt .f64 (sqs f g' L : Int))) (.float .f64 (floatOfInt .f64 (L : Int)))) u = .ok (.float .f64 rB) u := fun u t => run_float_arith u .quo t .f64 _ _ rB HME.out.1
          go_wp2
          go_ret2
          refine ⟨?_, K3.out⟩
          rw [HX.out.1, HX.out.2]
          rfl
    · have hdp : decide (0 ≤ p ∧ p < (np A : Int)) = false := by rw [← V1.num]; exact decide_eq_false hp
      have HX : Hid (erX 0 p m ln F G = 0 ∧ erE 0 p m = 65) := Hid.mk ⟨by unfold erX; rw [if_pos rfl, if_neg hp], by unfold erE; rw [if_pos rfl, if_neg hp]⟩
      rw [hdp]
      clear V1 V2 v1 v2 hk2 hk3 hk23 hp hdp
      go_wp2
      go_ret2
      refine ⟨?_, K3.out⟩
      rw [HX.out.1, HX.out.2]
      rfl
  · have HE1 : Hid (erX E p n ln F G = 0 ∧ erE E p n = E) := Hid.mk ⟨if_neg hE, if_neg hE⟩
    go_wp2
    go_ret2
    refine ⟨?_, K2.out⟩
    rw [HE1.out.1, HE1.out.2]
    rfl
end Go.Proofs.Ythihennifigchab
