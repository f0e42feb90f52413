import Derived.Test.YthihennifigchabNc
import Derived.Test.YthihennifigchabB3
namespace Go.Proofs.Ythihennifigchab
open Go.RowKit

set_option maxHeartbeats 4000000 in
set_option maxRecDepth 1000000 in
theorem far_any (a b : Nat) (w : World) (ha : a < 65536) (hb : b < 65536) :
    Calls Try.prog 56 #[.int .u16 (a : Int), .int .u16 (b : Int)] w fun e w' => e = .returned (.int .i64 (df a b : Int)) ∧ w' = w := by
  by_cases h : (b : Int) < (a : Int)
  · go_enter Try.func56, Try.ntmps56
    go_wp2
    all_goals go_ret
    all_goals exact ⟨ret_int (by unfold df; omega), rfl⟩
  · go_enter Try.func56, Try.ntmps56
    go_wp2
    all_goals go_ret
    all_goals exact ⟨ret_int (by unfold df; omega), rfl⟩

set_option maxHeartbeats 8000000 in
set_option maxRecDepth 1000000 in
theorem both_any (W H D : Int) (A : Bool) (po : Option Addr) (n c : Nat) (ln : Nat → Nat) (F : Nat → Nat → Nat) (W2 H2 D2 : Int) (A2 : Bool) (qo : Option Addr) (m d : Nat) (lm : Nat → Nat) (G : Nat → Nat → Nat) (w : World) (hr : Pl w po n ln F) (hs : Pl w qo m lm G) (hn : n ≤ 9223372036854775807) (hln : ∀ i, i < n → ln i ≤ 9223372036854775807) (hm : m ≤ 9223372036854775807) (hlm : ∀ i, i < m → lm i ≤ 9223372036854775807) (hF : ∀ i j, F i j < 65536) (hG : ∀ i j, G i j < 65536) :
    Calls Try.prog 55 #[frv W H D A po n c, frv W2 H2 D2 A2 qo m d] w fun e w' => e = .returned (.int .i64 (alE W H D A W2 H2 D2 A2 (vE W H D A n ln F) (vE W2 H2 D2 A2 m lm G))) ∧ Kept [] w w' := by
  have C1 := Hid.mk (fun u (h : Pl u po n ln F) => rvalid_any W H D A po n c ln F u h hn hln (fun i _ j _ => hF i j))
  have C2 := Hid.mk (fun u (h : Pl u qo m lm G) => rvalid_any W2 H2 D2 A2 qo m d lm G u h hm hlm (fun i _ j _ => hG i j))
  obtain ⟨E1, e1⟩ : ∃ E1, E1 = vE W H D A n ln F := ⟨_, rfl⟩
  obtain ⟨E2, e2⟩ : ∃ E2, E2 = vE W2 H2 D2 A2 m lm G := ⟨_, rfl⟩
  rw [← e1] at C1 ⊢
  rw [← e2] at C2 ⊢
  have Hr := Hid.mk hr
  have Hs := Hid.mk hs
  have h1 := heap_alloc_new w (.cells #[.int .i64 W, .int .i64 H, .int .i64 D, .bool A, .slice po n c] 26)
  have k1 := alloc_kept w (.cells #[.int .i64 W, .int .i64 H, .int .i64 D, .bool A, .slice po n c] 26)
  have h2 := heap_alloc_new (w.alloc (.cells #[.int .i64 W, .int .i64 H, .int .i64 D, .bool A, .slice po n c] 26)) (.cells #[.int .i64 W2, .int .i64 H2, .int .i64 D2, .bool A2, .slice qo m d] 26)
  have k2 := alloc_kept (w.alloc (.cells #[.int .i64 W, .int .i64 H, .int .i64 D, .bool A, .slice po n c] 26)) (.cells #[.int .i64 W2, .int .i64 H2, .int .i64 D2, .bool A2, .slice qo m d] 26)
  rw [World.size_alloc] at h2
  have hh1 := k2.heap h1 (by simp)
  have K1 := Hid.mk (k1.trans k2)
  have P1 := Hid.mk (And.intro hh1 h2)
  clear hr hs hln hlm hF hG e1 e2 h1 k1 h2 k2 hh1
  go_enter Try.func55, Try.ntmps55
  go_wp2_with (fail)
  obtain ⟨w1, ew1⟩ : ∃ w1, w1 = (w.alloc (.cells #[.int .i64 W, .int .i64 H, .int .i64 D, .bool A, .slice po n c] 26)).alloc (.cells #[.int .i64 W2, .int .i64 H2, .int .i64 D2, .bool A2, .slice qo m d] 26) := ⟨_, rfl⟩
  rw [← ew1] at P1 K1 ⊢
  obtain ⟨b, eb⟩ : ∃ b, b = w.heap.size := ⟨_, rfl⟩
  rw [← eb] at P1 ⊢
  clear ew1 eb
  refine (C1.out w1 (Hr.out.keep K1.out)).mono ?_
  rintro e w2 ⟨rfl, hk2⟩
  obtain ⟨⟨f0, f1, f2, f3, f4⟩, _⟩ := five (hk2.heap P1.out.1 (by simp))
  obtain ⟨⟨g0, g1, g2, g3, g4⟩, _⟩ := five (hk2.heap P1.out.2 (by simp))
  have K2 := Hid.mk (K1.out.trans hk2)
  by_cases hE1 : E1 = 0
  · subst hE1
    go_wp2_with (fail)
    refine (C2.out w2 (Hs.out.keep K2.out)).mono ?_
    rintro e w3 ⟨rfl, hk3⟩
    have K3 := Hid.mk (K2.out.trans hk3)
    clear f0 f1 f2 f3 f4 g0 g1 g2 g3 g4
    obtain ⟨⟨f0, f1, f2, f3, f4⟩, _⟩ := five ((hk2.trans hk3).heap P1.out.1 (by simp))
    obtain ⟨⟨g0, g1, g2, g3, g4⟩, _⟩ := five ((hk2.trans hk3).heap P1.out.2 (by simp))
    clear hk2 hk3
    by_cases hE2 : E2 = 0
    · subst hE2
      by_cases hW : W = W2 ∧ H = H2 ∧ D = D2 ∧ A = A2
      · obtain ⟨rfl, rfl, rfl, rfl⟩ := hW
        have ha : (A == A) = true := by cases A <;> rfl
        go_wp2
        go_ret
        exact ⟨ret_int (by unfold alE; rw [if_pos rfl, if_pos rfl, if_pos ⟨rfl, rfl, rfl, rfl⟩]), K3.out⟩
      · have HW : Hid (alE W H D A W2 H2 D2 A2 0 0 = 61) := Hid.mk (by unfold alE; rw [if_pos rfl, if_pos rfl, if_neg hW])
        have ha : (A == A) = true := by cases A <;> rfl
        by_cases h0 : W = W2
        · subst h0
          by_cases h1 : H = H2
          · subst h1
            by_cases h2 : D = D2
            · subst h2
              have h3 : (A == A2) = false := by
                cases A <;> cases A2 <;> first | rfl | (exfalso; apply hW; exact ⟨rfl, rfl, rfl, rfl⟩)
              clear hW
              go_wp2
              go_ret
              exact ⟨ret_int HW.out.symm, K3.out⟩
            · clear hW
              go_wp2
              go_ret
              exact ⟨ret_int HW.out.symm, K3.out⟩
          · clear hW
            go_wp2
            go_ret
            exact ⟨ret_int HW.out.symm, K3.out⟩
        · clear hW
          go_wp2
          go_ret
          exact ⟨ret_int HW.out.symm, K3.out⟩
    · have HE : Hid (alE W H D A W2 H2 D2 A2 0 E2 = E2) := Hid.mk (by unfold alE; rw [if_pos rfl, if_neg hE2])
      go_wp2
      go_ret
      exact ⟨ret_int HE.out.symm, K3.out⟩
  · have HE : Hid (alE W H D A W2 H2 D2 A2 E1 E2 = E1) := Hid.mk (by unfold alE; rw [if_neg hE1])
    go_wp2
    go_ret
    exact ⟨ret_int HE.out.symm, K2.out⟩
set_option maxHeartbeats 16000000 in
set_option maxRecDepth 1000000 in
theorem rapart_any (W H D : Int) (A : Bool) (po : Option Addr) (n c : Nat) (ln : Nat → Nat) (F : Nat → Nat → Nat) (W2 H2 D2 : Int) (A2 : Bool) (qo : Option Addr) (m d : Nat) (lm : Nat → Nat) (G : Nat → Nat → Nat) (w : World) (hr : Pl w po n ln F) (hs : Pl w qo m lm G) (hn : n ≤ 9223372036854775807) (hln : ∀ i, i < n → ln i ≤ 9223372036854775807) (hm : m ≤ 9223372036854775807) (hlm : ∀ i, i < m → lm i ≤ 9223372036854775807) (hF : ∀ i j, F i j < 65536) (hG : ∀ i j, G i j < 65536) :
    Calls Try.prog 32 #[frv W H D A po n c, frv W2 H2 D2 A2 qo m d] w fun e w' => e = .returned (.tuple #[rgv (if alE W H D A W2 H2 D2 A2 (vE W H D A n ln F) (vE W2 H2 D2 A2 m lm G) = 0 then rgF n ln F G else fun _ => 0), .int .i64 (alE W H D A W2 H2 D2 A2 (vE W H D A n ln F) (vE W2 H2 D2 A2 m lm G))]) ∧ Kept [] w w' := by
  have CA := Hid.mk (fun u (h1 : Pl u po n ln F) (h2 : Pl u qo m lm G) => both_any W H D A po n c ln F W2 H2 D2 A2 qo m d lm G u h1 h2 hn hln hm hlm hF hG)
  obtain ⟨E, eE⟩ : ∃ E, E = alE W H D A W2 H2 D2 A2 (vE W H D A n ln F) (vE W2 H2 D2 A2 m lm G) := ⟨_, rfl⟩
  rw [← eE] at CA ⊢
  have Hr := Hid.mk hr
  have Hs := Hid.mk hs
  have h1 := heap_alloc_new w (.cells #[.int .i64 W, .int .i64 H, .int .i64 D, .bool A, .slice po n c] 26)
  have k1 := alloc_kept w (.cells #[.int .i64 W, .int .i64 H, .int .i64 D, .bool A, .slice po n c] 26)
  have h2 := heap_alloc_new (w.alloc (.cells #[.int .i64 W, .int .i64 H, .int .i64 D, .bool A, .slice po n c] 26)) (.cells #[.int .i64 W2, .int .i64 H2, .int .i64 D2, .bool A2, .slice qo m d] 26)
  have k2 := alloc_kept (w.alloc (.cells #[.int .i64 W, .int .i64 H, .int .i64 D, .bool A, .slice po n c] 26)) (.cells #[.int .i64 W2, .int .i64 H2, .int .i64 D2, .bool A2, .slice qo m d] 26)
  have h3 := heap_alloc_new ((w.alloc (.cells #[.int .i64 W, .int .i64 H, .int .i64 D, .bool A, .slice po n c] 26)).alloc (.cells #[.int .i64 W2, .int .i64 H2, .int .i64 D2, .bool A2, .slice qo m d] 26)) (.cells #[.int .i64 0, .int .i64 0, .int .i64 0, .int .i64 0] 67)
  have k3 := alloc_kept ((w.alloc (.cells #[.int .i64 W, .int .i64 H, .int .i64 D, .bool A, .slice po n c] 26)).alloc (.cells #[.int .i64 W2, .int .i64 H2, .int .i64 D2, .bool A2, .slice qo m d] 26)) (.cells #[.int .i64 0, .int .i64 0, .int .i64 0, .int .i64 0] 67)
  rw [World.size_alloc] at h2
  rw [World.size_alloc, World.size_alloc] at h3
  have hh1 := k3.heap (k2.heap h1 (by simp)) (by simp)
  have hh2 := k3.heap h2 (by simp)
  have K1 := Hid.mk ((k1.trans k2).trans k3)
  have P1 := Hid.mk (And.intro hh1 (And.intro hh2 h3))
  have EE := Hid.mk eE
  have HFG := Hid.mk (And.intro hF hG)
  clear hr hs hln hlm h1 k1 h2 k2 hh1 h3 k3 hh2 hF hG eE
  go_enter Try.func32, Try.ntmps32
  go_wp2_with (fail)
  obtain ⟨w1, ew1⟩ : ∃ w1, w1 = ((w.alloc (.cells #[.int .i64 W, .int .i64 H, .int .i64 D, .bool A, .slice po n c] 26)).alloc (.cells #[.int .i64 W2, .int .i64 H2, .int .i64 D2, .bool A2, .slice qo m d] 26)).alloc (.cells #[.int .i64 0, .int .i64 0, .int .i64 0, .int .i64 0] 67) := ⟨_, rfl⟩
  rw [← ew1] at P1 K1 ⊢
  obtain ⟨FB, eFB⟩ : ∃ FB, FB = w.heap.size := ⟨_, rfl⟩
  obtain ⟨BB, eBB⟩ : ∃ BB, BB = w.heap.size + 1 := ⟨_, rfl⟩
  obtain ⟨RB, eRB⟩ : ∃ RB, RB = w.heap.size + 1 + 1 := ⟨_, rfl⟩
  rw [← eRB, ← eBB, ← eFB] at P1 ⊢
  have HB := Hid.mk (And.intro eFB (And.intro eBB eRB))
  clear ew1 eFB eBB eRB
  refine (CA.out w1 (Hr.out.keep K1.out) (Hs.out.keep K1.out)).mono ?_
  rintro e w2 ⟨rfl, hk2⟩
  have hR2 := hk2.heap P1.out.2.2 (by simp)
  obtain ⟨⟨f0, f1, f2, f3, f4⟩, _⟩ := five (hk2.heap P1.out.1 (by simp))
  have K2 := Hid.mk (K1.out.trans hk2)
  by_cases hE : E = 0
  · subst hE
    obtain ⟨v1, v2, rfl, rfl, rfl, rfl⟩ := alE_zero EE.out.symm
    have V1 := vE_zero.1 v1
    have V2 := vE_zero.1 v2
    obtain rfl : m = n := by rw [V1.num, V2.num]
    have hm4 : m ≤ 4 := by rw [V1.num]; exact np_hi A
    have HV := Hid.mk (And.intro V1 V2)
    have HLE : Hid (∀ i, i < m → lm i = ln i) := Hid.mk (fun i hi => by have := V1.len i hi; have := V2.len i hi; omega)
    have HLB : Hid (∀ i, i < m → ln i ≤ 16777216) := Hid.mk (fun i hi => by
      have h := V1.len i hi
      have := wpH (i : Int) V1.shp.1.1 V1.shp.1.2 V1.shp.2.1.1 V1.shp.2.1.2
      omega)
    have hq := heap_alloc_new w2 (.cells #[.int .i64 0, .int .i64 0, .int .i64 0, .int .i64 0] 67)
    have kq := alloc_kept w2 (.cells #[.int .i64 0, .int .i64 0, .int .i64 0, .int .i64 0] 67)
    have f4' := cell_keep kq f4 (by simp)
    obtain ⟨w3, ew3⟩ : ∃ w3, w3 = w2.alloc (.cells #[.int .i64 0, .int .i64 0, .int .i64 0, .int .i64 0] 67) := ⟨_, rfl⟩
    rw [← ew3] at hq kq
    obtain ⟨QB, eQB⟩ : ∃ QB, QB = w2.heap.size := ⟨_, rfl⟩
    rw [← eQB] at hq
    have HQ : Hid (Arr w3 QB (rgS 0 0 ln F G) ∧ (FB < QB ∧ BB < QB ∧ RB < QB ∧ w.heap.size ≤ QB) ∧ Kept [] w w3) := by
      have l1 := lt_of_block (hk2.heap P1.out.1 (by simp))
      have l2 := lt_of_block (hk2.heap P1.out.2.1 (by simp))
      have l3 := lt_of_block (hk2.heap P1.out.2.2 (by simp))
      refine Hid.mk ?_
      refine ⟨(show Arr w3 QB (fun _ => 0) from hq).congr (fun k hk => ?_), ⟨by omega, by omega, by omega, by rw [eQB]; exact K2.out.size⟩, K2.out.trans kq⟩
      unfold rgS
      rw [if_neg (by omega)]
      split
      · rename_i h; subst h; rfl
      · rfl
    have P3 := Hid.mk (And.intro (kq.heap (hk2.heap P1.out.1 (by simp)) (by simp)) (And.intro (kq.heap (hk2.heap P1.out.2.1 (by simp)) (by simp)) (kq.heap hR2 (by simp))))
    have EW3 := Hid.mk ew3
    have EQB := Hid.mk eQB
    clear hq kq ew3 eQB V1 V2 v1 v2 hk2 hR2 f0 f1 f2 f3
    go_wp2
    rw [← EW3.out, ← EQB.out]
    clear EW3 EQB f4 f4'
    go_loopw [8] (fun i wr => ∃ k : Nat, k ≤ m ∧ i = .int .i64 (k : Int) ∧ Arr wr QB (rgS k 0 ln F G) ∧ Kept [QB] w3 wr) (fun i _ => m - (intOf i).toNat)
    case atStart => exact ⟨0, by omega, rfl, HQ.out.1, Kept.refl _ _⟩
    case round =>
      obtain ⟨k, hk, rfl, harr, hkr⟩ := hrel
      have nQ : ∀ {x : Nat}, x < QB → x ∉ [QB] := fun h => by simp; omega
      have hl := HQ.out.2.1
      have hB4 := hkr.heap P3.out.2.1 (nQ hl.2.1)
      obtain ⟨⟨_, _, _, _, b4⟩, _⟩ := five hB4
      obtain ⟨⟨_, _, _, _, fb4⟩, _⟩ := five (hkr.heap P3.out.1 (nQ hl.1))
      have hpl := (Hr.out.keep HQ.out.2.2)
      have hql := (Hs.out.keep HQ.out.2.2)
      by_cases hlt : k < m
      · obtain ⟨g, off, bo, c', rfl, hc0, hrd⟩ := Hr.out.at hlt
        obtain ⟨g2, o2, bo2, c2, rfl, hd0, hrd2⟩ := Hs.out.at hlt
        have kw : Kept [QB] w wr := (HQ.out.2.2.mono (by simp)).trans hkr
        have hc := cell_keep kw hc0 (nQ (by have := World.block_lt_of_cell? w _ hc0; simp at this; omega))
        have hd := cell_keep kw hd0 (nQ (by have := World.block_lt_of_cell? w _ hd0; simp at this; omega))
        have ix : (k : Int) < (m : Int) := by omega
        have ix4 : (k : Int) < 4 := by omega
        rw [HLE.out k hlt] at hd hrd2
        have HRD := Hid.mk (And.intro hrd hrd2)
        have Hg1 : Hid (g < QB) := Hid.mk (by have := World.block_lt_of_cell? w _ hc0; simp at this; omega)
        have Hg2 : Hid (g2 < QB) := Hid.mk (by have := World.block_lt_of_cell? w _ hd0; simp at this; omega)
        have hLB := HLB.out k hlt
        obtain ⟨L, eL⟩ : ∃ L, L = ln k := ⟨_, rfl⟩
        rw [← eL] at hc hd HRD hLB
        have EL := Hid.mk eL
        have HA := Hid.mk harr
        have HKW := Hid.mk (And.intro kw hkr)
        clear harr hkr hB4 hpl hql hc0 hd0 hrd hrd2 kw eL hl
        go_wp2
        go_loopw [9] (fun s wq => ∃ j : Nat, j ≤ L ∧ s = .int .i64 (j : Int) ∧ Arr wq QB (rgS k j ln F G) ∧ Kept [QB] wr wq) (fun s _ => L - (intOf s).toNat)
        case atStart => exact ⟨0, by omega, rfl, HA.out, Kept.refl _ _⟩
        case round =>
          obtain ⟨j, hj, rfl, harr, hkq⟩ := hrel
          by_cases hjl : j < L
          · obtain ⟨h1, q1, rfl, hf0⟩ := HRD.out.1.at hjl
            obtain ⟨h2, q2, rfl, hg0⟩ := HRD.out.2.at hjl
            have kww : Kept [QB] w _ := HKW.out.1.trans hkq
            have hlq := HQ.out.2.1
            have hf := cell_keep kww hf0 (nQ (by have := World.block_lt_of_cell? w _ hf0; simp at this; omega))
            have z3 := cell_keep kww hg0 (nQ (by have := World.block_lt_of_cell? w _ hg0; simp at this; omega))
            have z1 := cell_keep hkq b4 (nQ hlq.2.1)
            have HH2 : Hid (h2 < QB) := Hid.mk (by have := World.block_lt_of_cell? w _ hg0; simp at this; omega)
            have z2 := cell_keep hkq hd (nQ Hg2.out)
            have zg := cell_keep hkq hc (nQ Hg1.out)
            have zf := cell_keep hkq fb4 (nQ hlq.1)
            have HVV : Hid (rgS k j ln F G k = ((mxd (F k) (G k) j : Nat) : Int)) := Hid.mk (by unfold rgS; rw [if_neg (by omega), if_pos rfl])
            have hx := HFG.out.1 k j
            have hy := HFG.out.2 k j
            have hVb := mxd_lt (n := j) (HFG.out.1 k) (HFG.out.2 k)
            have hqc := harr.at (show k < 4 by omega)
            have hqf := harr.fz k
            rw [show rgS k j ln F G k = ((mxd (F k) (G k) j : Nat) : Int) by unfold rgS; rw [if_neg (by omega), if_pos rfl]] at hqc
            have HS9 : Hid (∀ nv : Nat, nv = max (mxd (F k) (G k) j) (df (F k j) (G k j)) → ∀ p, (if p = k then (nv : Int) else rgS k j ln F G p) = rgS k (j + 1) ln F G p) := Hid.mk (fun nv hnv p => by
              unfold rgS
              by_cases e : p = k
              · subst e
                rw [if_pos rfl, if_neg (by omega), if_pos rfl, hnv]
                rfl
              · rw [if_neg e]
                by_cases e2 : p < k
                · rw [if_pos e2, if_pos e2]
                · rw [if_neg e2, if_neg e2, if_neg e, if_neg e])
            obtain ⟨x, ex⟩ : ∃ x, x = F k j := ⟨_, rfl⟩
            obtain ⟨y, ey⟩ : ∃ y, y = G k j := ⟨_, rfl⟩
            obtain ⟨V, eV⟩ : ∃ V, V = mxd (F k) (G k) j := ⟨_, rfl⟩
            rw [← ex] at hf hx HS9
            rw [← ey] at z3 hy HS9
            rw [← eV] at hqc hVb HS9 HVV
            have CD := Hid.mk (fun u => far_any x y u hx hy)
            have hdb : df x y < 65536 := by unfold df; omega
            obtain ⟨d0, ed⟩ : ∃ d0, d0 = df x y := ⟨_, rfl⟩
            rw [← ed] at CD hdb HS9
            have HA9 := Hid.mk harr
            have HK9 := Hid.mk hkq
            clear ex ey eV ed harr hkq kww hlq hf0 hg0
            go_wp2
            go_region_held_law (fun w' => w'.cell? ⟨FB, 4, none⟩ = some (.slice (some ⟨g, off, none⟩) m c) ∧ w'.cell? ⟨g, off + k, none⟩ = some (.slice (some ⟨h1, q1, none⟩) L c') ∧ w'.cell? ⟨h1, q1 + j, none⟩ = some (.int .u16 (x : Int)) ∧ w'.cell? ⟨BB, 4, none⟩ = some (.slice (some ⟨g2, o2, none⟩) m d) ∧ w'.cell? ⟨g2, o2 + k, none⟩ = some (.slice (some ⟨h2, q2, none⟩) L c2) ∧ w'.cell? ⟨h2, q2 + j, none⟩ = some (.int .u16 (y : Int))) (first | exact ⟨zf, zg, hf, z1, z2, z3⟩ | go_keep) ((go_at_call 56; refine (CD.out _).mono ?_; rintro e w9 ⟨rfl, rfl⟩))
            by_cases hv : (V : Int) < (d0 : Int)
            · have HC9 := Hid.mk (HS9.out d0 (by omega))
              go_wp2
              refine ⟨⟨j + 1, by omega, by go_num, (HA9.out.set (k := k) (by omega) _).congr (fun p hp => ?_), (HK9.out.drew).setCell (p := ⟨QB, k, none⟩) (.inl (by simp)) _⟩, by simp [intOf]; omega⟩
              exact HC9.out p
            · have HC9 := Hid.mk (HS9.out V (by omega))
              go_wp2
              refine ⟨⟨j + 1, by omega, by go_num, (show Arr _ QB _ from HA9.out).congr (fun p hp => ?_), HK9.out.drew⟩, by simp [intOf]; omega⟩
              rw [← HC9.out p]
              by_cases e : p = k
              · subst e; rw [if_pos rfl, HVV.out]
              · rw [if_neg e]
          · obtain rfl : L = j := by omega
            have zg := cell_keep hkq hc (nQ Hg1.out)
            have zf := cell_keep hkq fb4 (nQ HQ.out.2.1.1)
            have HA9 := Hid.mk harr
            have HK9 := Hid.mk hkq
            clear harr hkq
            go_wp2
            refine ⟨⟨k + 1, by omega, by go_num, HA9.out.congr (fun p hp => ?_), HKW.out.2.trans HK9.out⟩, by simp [intOf]; omega⟩
            unfold rgS
            by_cases e2 : p < k
            · rw [if_pos e2, if_pos (by omega)]
            · rw [if_neg e2]
              by_cases e : p = k
              · subst e
                rw [if_pos rfl, if_pos (by omega), EL.out]
              · rw [if_neg e, if_neg (by omega)]
                split
                · rfl
                · rfl
      · obtain rfl : m = k := by omega
        have hR4 := hkr.heap P3.out.2.2 (nQ hl.2.2.1)
        obtain ⟨⟨r0, r1, r2, r3⟩, s0, s1, s2, s3⟩ := four hR4
        have a0 := harr.at (show 0 < 4 by omega)
        have a1 := harr.at (show 1 < 4 by omega)
        have a2 := harr.at (show 2 < 4 by omega)
        have a3 := harr.at (show 3 < 4 by omega)
        have HA := Hid.mk harr
        have HR4 := Hid.mk hR4
        have HKK := Hid.mk hkr
        clear harr hkr hR4 hB4 hpl hql
        go_wp2
        have q4 := set4 (.int .i64 (rgS m 0 ln F G 0)) (.int .i64 (rgS m 0 ln F G 1)) (.int .i64 (rgS m 0 ln F G 2)) (.int .i64 (rgS m 0 ln F G 3)) HR4.out
        have hARR : Arr _ RB (rgF m ln F G) := (show Arr _ RB (rgS m 0 ln F G) from q4.1).congr (fun p hp => by
          unfold rgS rgF
          by_cases e2 : p < m
          · rw [if_pos e2, if_pos e2]
          · rw [if_neg e2, if_neg e2]
            split
            · rfl
            · rfl)
        refine bodyPost_ret (results_arr rfl _ _ RB (rgF m ln F G) (.int .i64 0) rfl hARR rfl) rfl ⟨?_, ?_⟩
        · rfl
        · have hb := HB.out
          have k5 : Kept [] w _ := HQ.out.2.2.step HKK.out (fun x hx => by simp at hx; subst hx; exact .inr hl.2.2.2)
          exact k5.step q4.2 (fun x hx => by simp at hx; right; omega)
  · have HR2 := Hid.mk hR2
    obtain ⟨⟨r0, r1, r2, r3⟩, s0, s1, s2, s3⟩ := four hR2
    clear hR2
    go_wp2
    have q4 := set4 (.int .i64 0) (.int .i64 0) (.int .i64 0) (.int .i64 0) HR2.out
    refine bodyPost_ret (results_arr rfl _ _ RB (fun _ => 0) (.int .i64 E) rfl q4.1 rfl) rfl ⟨?_, ?_⟩
    · rfl
    · have hb := HB.out
      exact K2.out.step q4.2 (fun x hx => by simp at hx; right; omega)
set_option maxHeartbeats 16000000 in
set_option maxRecDepth 1000000 in
theorem rerror_any (W H D : Int) (A : Bool) (po : Option Addr) (n c : Nat) (ln : Nat → Nat) (F : Nat → Nat → Nat) (W2 H2 D2 : Int) (A2 : Bool) (qo : Option Addr) (m d : Nat) (lm : Nat → Nat) (G : Nat → Nat → Nat) (p : Int) (w : World) (hr : Pl w po n ln F) (hs : Pl w qo m lm G) (hn : n ≤ 9223372036854775807) (hln : ∀ i, i < n → ln i ≤ 9223372036854775807) (hm : m ≤ 9223372036854775807) (hlm : ∀ i, i < m → lm i ≤ 9223372036854775807) (hF : ∀ i j, F i j < 65536) (hG : ∀ i j, G i j < 65536) :
    Calls Try.prog 33 #[frv W H D A po n c, frv W2 H2 D2 A2 qo m d, .int .i64 p] w fun e w' => e = .returned (.tuple #[.float .f64 (erX (alE W H D A W2 H2 D2 A2 (vE W H D A n ln F) (vE W2 H2 D2 A2 m lm G)) p n ln F G), .int .i64 (erE (alE W H D A W2 H2 D2 A2 (vE W H D A n ln F) (vE W2 H2 D2 A2 m lm G)) p n)]) ∧ Kept [] w w' := by
  have CA := Hid.mk (fun u (h1 : Pl u po n ln F) (h2 : Pl u qo m lm G) => both_any W H D A po n c ln F W2 H2 D2 A2 qo m d lm G u h1 h2 hn hln hm hlm hF hG)
  have CT := Hid.mk (fun u => rthere_any W H D p A u)
  obtain ⟨E, eE⟩ : ∃ E, E = alE W H D A W2 H2 D2 A2 (vE W H D A n ln F) (vE W2 H2 D2 A2 m lm G) := ⟨_, rfl⟩
  rw [← eE] at CA ⊢
  have Hr := Hid.mk hr
  have Hs := Hid.mk hs
  have h1 := heap_alloc_new w (.cells #[.int .i64 W, .int .i64 H, .int .i64 D, .bool A, .slice po n c] 26)
  have k1 := alloc_kept w (.cells #[.int .i64 W, .int .i64 H, .int .i64 D, .bool A, .slice po n c] 26)
  have h2 := heap_alloc_new (w.alloc (.cells #[.int .i64 W, .int .i64 H, .int .i64 D, .bool A, .slice po n c] 26)) (.cells #[.int .i64 W2, .int .i64 H2, .int .i64 D2, .bool A2, .slice qo m d] 26)
  have k2 := alloc_kept (w.alloc (.cells #[.int .i64 W, .int .i64 H, .int .i64 D, .bool A, .slice po n c] 26)) (.cells #[.int .i64 W2, .int .i64 H2, .int .i64 D2, .bool A2, .slice qo m d] 26)
  rw [World.size_alloc] at h2
  have hh1 := k2.heap h1 (by simp)
  have K1 := Hid.mk (k1.trans k2)
  have P1 := Hid.mk (And.intro hh1 h2)
  have EE := Hid.mk eE
  have HFG := Hid.mk (And.intro hF hG)
  clear hr hs hln hlm h1 k1 h2 k2 hh1 hF hG eE
  go_enter Try.func33, Try.ntmps33
  go_wp2_with (fail)
  obtain ⟨w1, ew1⟩ : ∃ w1, w1 = (w.alloc (.cells #[.int .i64 W, .int .i64 H, .int .i64 D, .bool A, .slice po n c] 26)).alloc (.cells #[.int .i64 W2, .int .i64 H2, .int .i64 D2, .bool A2, .slice qo m d] 26) := ⟨_, rfl⟩
  rw [← ew1] at P1 K1 ⊢
  obtain ⟨FB, eFB⟩ : ∃ FB, FB = w.heap.size := ⟨_, rfl⟩
  obtain ⟨BB, eBB⟩ : ∃ BB, BB = w.heap.size + 1 := ⟨_, rfl⟩
  rw [← eBB, ← eFB] at P1 ⊢
  clear ew1 eFB eBB
  refine (CA.out w1 (Hr.out.keep K1.out) (Hs.out.keep K1.out)).mono ?_
  rintro e w2 ⟨rfl, hk2⟩
  obtain ⟨⟨f0, f1, f2, f3, f4⟩, _⟩ := five (hk2.heap P1.out.1 (by simp))
  have K2 := Hid.mk (K1.out.trans hk2)
  by_cases hE : E = 0
  · subst hE
    obtain ⟨v1, v2, rfl, rfl, rfl, rfl⟩ := alE_zero EE.out.symm
    have V1 := vE_zero.1 v1
    have V2 := vE_zero.1 v2
    obtain rfl : m = n := by rw [V1.num, V2.num]
    have hm4 : m ≤ 4 := by rw [V1.num]; exact np_hi A
    go_wp2_with (fail)
    refine (CT.out w2).mono ?_
    rintro e w3 ⟨rfl, hk3⟩
    have K3 := Hid.mk (K2.out.trans hk3)
    have hk23 := hk2.trans hk3
    clear f0 f1 f2 f3 f4
    obtain ⟨⟨f0, f1, f2, f3, f4⟩, _⟩ := five (hk23.heap P1.out.1 (by simp))
    obtain ⟨⟨_, _, _, _, b4⟩, _⟩ := five (hk23.heap P1.out.2 (by simp))
    by_cases hp : 0 ≤ p ∧ p < (m : Int)
    · have hdp : decide (0 ≤ p ∧ p < (np A : Int)) = true := by rw [← V1.num]; exact decide_eq_true hp
      obtain ⟨P, rfl⟩ : ∃ P : Nat, p = (P : Int) := ⟨p.toNat, by omega⟩
      have hPm : P < m := by omega
      obtain ⟨g, off, bo, c', rfl, hc0, hrd⟩ := Hr.out.at hPm
      obtain ⟨g2, o2, bo2, c2, rfl, hd0, hrd2⟩ := Hs.out.at hPm
      have hc := cell_keep K3.out hc0 (by simp)
      have hd := cell_keep K3.out hd0 (by simp)
      have hle : lm P = ln P := by have := V1.len P hPm; have := V2.len P hPm; omega
      rw [hle] at hd hrd2
      have hL : 1 ≤ ln P ∧ ln P ≤ 16777216 := by
        have h := V1.len P hPm
        have := wpH (P : Int) V1.shp.1.1 V1.shp.1.2 V1.shp.2.1.1 V1.shp.2.1.2
        omega
      have hm0 := mx_le D
      have hsq := sqs_le (f := F P) (g := G P) (n := ln P) (fun i hi => Nat.le_trans (V1.top P hPm i hi) hm0) (fun i hi => Nat.le_trans (V2.top P hPm i (by rw [hle]; exact hi)) hm0)
      have HSQ := Hid.mk hsq
      have hfin := hsq (ln P) (Nat.le_refl _)
      have hme := meB_ok (sqs (F P) (G P) (ln P)) (ln P) (by omega) hL.1 (by omega)
      have HX : Hid (erX 0 (P : Int) m ln F G = meB (sqs (F P) (G P) (ln P)) (ln P) ∧ erE 0 (P : Int) m = 0) := Hid.mk ⟨by unfold erX; rw [if_pos rfl, if_pos hp]; rfl, by unfold erE; rw [if_pos rfl, if_pos hp]⟩
      have HRD := Hid.mk (And.intro (hrd.keep K3.out) (hrd2.keep K3.out))
      obtain ⟨L, eL⟩ : ∃ L, L = ln P := ⟨_, rfl⟩
      rw [← eL] at hc hd HRD hL HX HSQ hfin hme
      have ix : (P : Int) < (m : Int) := by omega
      have HFP : Hid ((∀ j, F P j < 65536) ∧ ∀ j, G P j < 65536) := Hid.mk ⟨HFG.out.1 P, HFG.out.2 P⟩
      obtain ⟨f, ef⟩ : ∃ f, f = F P := ⟨_, rfl⟩
      obtain ⟨g', eg⟩ : ∃ g', g' = G P := ⟨_, rfl⟩
      rw [← ef, ← eg] at HRD HX HSQ hfin hme HFP
      obtain ⟨rB, erB⟩ : ∃ rB, rB = meB (sqs f g' L) L := ⟨_, rfl⟩
      rw [← erB] at HX hme
      have HME := Hid.mk hme
      rw [hdp]
      clear V1 V2 v1 v2 hk2 hk3 hk23 hc0 hd0 hrd hrd2 hle hm0 hsq eL ef eg erB hme hp hPm hdp
      go_wp2
      go_loopw [10, 11] (fun s i wr => ∃ j : Nat, j ≤ L ∧ i = .int .i64 (j : Int) ∧ s = .int .i64 (sqs f g' j : Int) ∧ Kept [] w3 wr) (fun _ i _ => L - (intOf i).toNat)
      case atStart => exact ⟨0, by omega, rfl, rfl, Kept.refl _ _⟩
      case round =>
        obtain ⟨j, hj, rfl, rfl, hkq⟩ := hrel
        have zf := cell_keep hkq f4 (by simp)
        have zb := cell_keep hkq b4 (by simp)
        have zc := cell_keep hkq hc (by simp)
        have zd := cell_keep hkq hd (by simp)
        have HKQ := Hid.mk hkq
        by_cases hjl : j < L
        · obtain ⟨a1, q1, rfl, hf⟩ := (HRD.out.1.keep hkq).at hjl
          obtain ⟨a2, q2, rfl, hg⟩ := (HRD.out.2.keep hkq).at hjl
          have jx : (j : Int) < (L : Int) := by omega
          have hx := HFP.out.1 j
          have hy := HFP.out.2 j
          have hs1 := HSQ.out j hj
          have hs2 := HSQ.out (j + 1) hjl
          have HST : Hid (sqs f g' (j + 1) = sqs f g' j + df (f j) (g' j) * df (f j) (g' j)) := Hid.mk rfl
          obtain ⟨x, ex⟩ : ∃ x, x = f j := ⟨_, rfl⟩
          obtain ⟨y, ey⟩ : ∃ y, y = g' j := ⟨_, rfl⟩
          rw [← ex] at hf hx HST
          rw [← ey] at hg hy HST
          have CD := Hid.mk (fun u => far_any x y u hx hy)
          obtain ⟨d0, ed⟩ : ∃ d0, d0 = df x y := ⟨_, rfl⟩
          rw [← ed] at CD HST
          rw [HST.out] at hs2
          obtain ⟨T, eT⟩ : ∃ T, T = sqs f g' j := ⟨_, rfl⟩
          rw [← eT] at HST hs1 hs2 ⊢
          obtain ⟨z, ez⟩ : ∃ z, z = d0 * d0 := ⟨_, rfl⟩
          have ezi : (d0 : Int) * (d0 : Int) = (z : Int) := by rw [ez]; push_cast; rfl
          rw [← ez] at HST hs2
          have hwz : IntKind.i64.wrap (z : Int) = (z : Int) := wrap_i (by omega) (by omega)
          clear ex ey ed eT ez
          clear hkq
          go_wp2
          go_region_held_law (fun w' => w'.cell? ⟨FB, 4, none⟩ = some (.slice (some ⟨g, off, none⟩) m c) ∧ w'.cell? ⟨g, off + P, none⟩ = some (.slice (some ⟨a1, q1, none⟩) L c') ∧ w'.cell? ⟨a1, q1 + j, none⟩ = some (.int .u16 (x : Int)) ∧ w'.cell? ⟨BB, 4, none⟩ = some (.slice (some ⟨g2, o2, none⟩) m d) ∧ w'.cell? ⟨g2, o2 + P, none⟩ = some (.slice (some ⟨a2, q2, none⟩) L c2) ∧ w'.cell? ⟨a2, q2 + j, none⟩ = some (.int .u16 (y : Int))) (first | exact ⟨zf, zc, hf, zb, zd, hg⟩ | go_keep) ((go_at_call 56; refine (CD.out _).mono ?_; rintro e w9 ⟨rfl, rfl⟩))
          go_wp2
          refine ⟨⟨j + 1, by omega, by go_num, ?_, HKQ.out.drew⟩, by simp [intOf]; omega⟩
          rw [HST.out]
          congr 1
        · obtain rfl : L = j := by omega
          have hq : ∀ (u : World) (t : TypeId), Sem.run Try.prog (binOp .quo t (.float .f64 (floatOfInt .f64 (sqs f g' L : Int))) (.float .f64 (floatOfInt .f64 (L : Int)))) u = .ok (.float .f64 rB) u := fun u t => run_float_arith u .quo t .f64 _ _ rB HME.out.1
          go_wp2
          go_ret2
          refine ⟨?_, K3.out.trans HKQ.out⟩
          rw [HX.out.1, HX.out.2]
          rfl
    · have hdp : decide (0 ≤ p ∧ p < (np A : Int)) = false := by rw [← V1.num]; exact decide_eq_false hp
      have HX : Hid (erX 0 p m ln F G = 0 ∧ erE 0 p m = 65) := Hid.mk ⟨by unfold erX; rw [if_pos rfl, if_neg hp], by unfold erE; rw [if_pos rfl, if_neg hp]⟩
      rw [hdp]
      clear V1 V2 v1 v2 hk2 hk3 hk23 hp hdp
      go_wp2
      go_ret2
      refine ⟨?_, K3.out⟩
      rw [HX.out.1, HX.out.2]
      rfl
  · have HE1 : Hid (erX E p n ln F G = 0 ∧ erE E p n = E) := Hid.mk ⟨if_neg hE, if_neg hE⟩
    go_wp2
    go_ret2
    refine ⟨?_, K2.out⟩
    rw [HE1.out.1, HE1.out.2]
    rfl
end Go.Proofs.Ythihennifigchab
