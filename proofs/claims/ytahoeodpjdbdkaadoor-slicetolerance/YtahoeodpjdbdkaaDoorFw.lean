import Derived.Test.YtahoeodpjdbdkaaDoorFuZ
import Derived.Test.YtahoeodpjdbdkaaDoorFt
namespace Go.Proofs.YtahoeodpjdbdkaaDoor
open Go.RowKit

set_option maxHeartbeats 8000000 in
set_option maxRecDepth 1000000 in
theorem tolerance_any (W H D d : Int) (ao : Option Addr) (n c : Nat) (f : Nat → Int) (w : World) (hT : Tab w) (hs : In16 w ao n f) :
    Calls Tryd.prog 5 #[.agg #[.int .i64 W, .int .i64 H, .slice ao n c, .int .i64 D, .int .i64 d]] w fun e w' => e = .returned (.bool true) ∧ Kept [] w w' := by
  obtain ⟨w1, hw1, k1, b1⟩ := five_new w (.int .i64 W) (.int .i64 H) (.slice ao n c) (.int .i64 D) (.int .i64 d) 31
  obtain ⟨Q, hQ⟩ : ∃ Q, w.heap.size = Q := ⟨_, rfl⟩
  rw [hQ] at b1
  have K1 := Hid.mk k1
  have B1 := Hid.mk b1
  have HS := Hid.mk hs
  have HT := Hid.mk hT
  have C1 := Hid.mk (alive_any w1 (hT.kept k1 (by simp)))
  clear k1 b1 hs hT
  go_enter Tryd.func5, Tryd.ntmps5
  go_wp2_with (fail)
  refine C1.out.mono ?_
  rintro e w2 ⟨rfl, k2⟩
  have K2 := Hid.mk (K1.out.trans k2)
  have B2 := Hid.mk (k2.heap B1.out (by simp))
  obtain ⟨z0, z1, z2, z3, z4⟩ := five_cells B2.out
  have hs2 : In16 w2 ao n f := ⟨by
    rcases HS.out.1 with h | ⟨sb, so, h1, h2⟩
    · exact .inl h
    · exact .inr ⟨sb, so, h1, h2.keep K2.out (by simp)⟩, HS.out.2⟩
  have C2 := Hid.mk (may_any W H D d ao n c f w2 hs2)
  clear k2 C1 hs2
  go_wp2_with (fail)
  refine C2.out.mono ?_
  rintro e w3 ⟨bb, rfl, hbb, k3⟩
  have K3 := Hid.mk (K2.out.trans k3)
  have B3 := Hid.mk (k3.heap B2.out (by simp))
  have Hbb := Hid.mk hbb
  clear k3 C2 hbb z0 z1 z2 z3 z4
  obtain ⟨z0, z1, z2, z3, z4⟩ := five_cells B3.out
  cases bb with
  | false =>
    have hno : ¬ MayC W H D d n f := fun h => by have := Hbb.out.2 h; cases this
    have C3 := Hid.mk (Encode_no W H D d ao n c f w3 (HS.out.keep K3.out) hno)
    clear hno Hbb
    go_wp2_with (fail)
    refine C3.out.mono ?_
    rintro e w4 ⟨x, rfl, hx, k4⟩
    have hx' : (x == 0) = false := by simp; exact hx
    have K4 := Hid.mk (K3.out.trans k4)
    clear k4 C3
    go_wp2
    go_ret
    exact ⟨rfl, K4.out⟩
  | true =>
    have hm := Hbb.out.1 rfl
    obtain ⟨Wn, Hn, T, rfl, rfl, BK⟩ := hm.blk HS.out.2
    have hw := BK.w
    obtain ⟨sb, so, rfl, hsm⟩ : ∃ sb so, ao = some ⟨sb, so, none⟩ ∧ Smp w sb so n f := by
      rcases HS.out.1 with h | h
      · omega
      · exact h
    obtain ⟨x, b, ht⟩ := tell_ex (T := T) (d := d) (D := D) (cutf n f) hw.1 BK.n_ hw.2.2.2.2.1
    obtain ⟨c0, t0, hct, hkind⟩ := tell_first BK ht
    have hnear : ∀ i, i < n → -d ≤ b i - cutf n f i ∧ b i - cutf n f i ≤ d ∧ 0 ≤ b i ∧ b i ≤ T := tell_near BK.gd hw.1 BK.f_ ht
    have hT5 : T ≤ 65535 := by rcases BK.dp with ⟨_, h⟩ | ⟨_, h⟩ <;> omega
    have hd0 := BK.d0
    have hF := apf_le b (cutf n f) d hd0 n (fun i hi => by have := hnear i hi; omega)
    have hF0 : b = cutf n f → apf b (cutf n f) n = 0 := fun e => by
      have := apf_le b (cutf n f) 0 (Int.le_refl _) n (fun i _ => by rw [e]; omega)
      omega
    have er : (rsz (Wn : Int) (Hn : Int) D).2 = 0 := by
      unfold rsz
      rw [if_neg (by rcases BK.dp with ⟨h, _⟩ | ⟨h, _⟩ <;> omega), if_pos BK.sz]
    have C6 := Hid.mk (fun W' => rawSize_any (Wn : Int) (Hn : Int) D W')
    rw [er] at C6
    obtain ⟨R, hR⟩ : ∃ R, (rsz (Wn : Int) (Hn : Int) D).1 = R := ⟨_, rfl⟩
    rw [hR] at C6 hkind
    have HSm := Hid.mk (hsm.congr (fun i hi => cutf_in n f i hi))
    have hnn : n ≤ 4194304 := hw.2.2.2.2.2
    have C8 : Hid (∀ (G : Nat) (W' : World), Smp W' G 0 n b → Kept [] w W' → Calls Tryd.prog 15 #[.slice (some ⟨G, 0, none⟩) n n, .slice (some ⟨sb, so, none⟩) n c] W' fun e w' => e = .returned (.int .i64 (apf b (cutf n f) n)) ∧ Kept [] W' w') := Hid.mk (fun G W' h1 h2 =>
      apart_any G 0 n sb so c n b (cutf n f) W' h1 (HSm.out.keep h2 (by simp)) hnn (fun i hi => by have := hnear i hi; omega) (fun i hi => by have := BK.f_ i; omega))
    obtain ⟨F, hFe⟩ : ∃ F, apf b (cutf n f) n = F := ⟨_, rfl⟩
    rw [hFe] at hF hF0 C8
    have HF := Hid.mk (And.intro hF hF0)
    have HBK := Hid.mk BK
    have HTl := Hid.mk ht
    have C3 := Hid.mk (Encode_any (sc := c) w3 BK (HSm.out.keep K3.out (by simp)) (HT.out.kept K3.out (by simp)) ht)
    obtain ⟨L, hL⟩ : ∃ L, nby x = L := ⟨_, rfl⟩
    have hl : (c0 :: t0).length = L := by rw [← hct, ← hL]; exact big_length _ _
    have hL1 : 1 ≤ L := by rw [← hl]; simp
    rw [hL] at C3 hkind
    have HKind := Hid.mk hkind
    have HCt := Hid.mk hct
    clear hm BK hsm ht hw Hbb hkind hnear hF hF0 hFe er hR hl hct hT5
    go_wp2_with (fail)
    refine C3.out.mono ?_
    rintro e w4 ⟨g4, rfl, hg4, hb4, k4⟩
    have K4 := Hid.mk (K3.out.trans k4)
    have B4 := Hid.mk (k4.heap B3.out (by simp))
    have G4 := Hid.mk hb4
    have C4 := Hid.mk (Decode_any (cap := nby x) w4 HBK.out (HT.out.kept K4.out (by simp)) HTl.out (heap_reads' hb4))
    rw [hL] at C4
    clear hg4 hb4 k4 C3 z0 z1 z2 z3 z4
    obtain ⟨z0, z1, z2, z3, z4⟩ := five_cells B4.out
    go_wp2_with (fail)
    refine C4.out.mono ?_
    rintro e w5 ⟨G, rfl, hG, hS5, k5⟩
    have K5 := Hid.mk (K4.out.trans k5)
    have B5 := Hid.mk (k5.heap B4.out (by simp))
    have G5 := Hid.mk (k5.heap G4.out (by simp))
    have S5 := Hid.mk hS5
    clear hG hS5 k5 C4 z0 z1 z2 z3 z4
    obtain ⟨w6, hw6, k6, b6⟩ := three_new w5 (.int .i64 (Wn : Int)) (.int .i64 (Hn : Int)) (.slice (some ⟨G, 0, none⟩) n n) 29
    obtain ⟨R1, hR1⟩ : ∃ R1, w5.heap.size = R1 := ⟨_, rfl⟩
    rw [hR1] at b6
    have K6 := Hid.mk (K5.out.trans k6)
    have B6 := Hid.mk (k6.heap B5.out (by simp))
    have G6 := Hid.mk (k6.heap G5.out (by simp))
    have S6 := Hid.mk (S5.out.keep k6 (by simp))
    have R6 := Hid.mk b6
    obtain ⟨z0, z1, z2, z3, z4⟩ := five_cells B6.out
    obtain ⟨y0, y1, y2⟩ := agg3' b6
    have C5 := Hid.mk (Settle_any (sc := c) w6 HBK.out (HSm.out.keep K6.out (by simp)) (HT.out.kept K6.out (by simp)) HTl.out)
    clear k6 b6
    go_wp2_with (fail)
    refine C5.out.mono ?_
    rintro e w7 ⟨G8, c8, rfl, hG8, hS8, k7⟩
    have K7 := Hid.mk (K6.out.trans k7)
    have B7 := Hid.mk (k7.heap B6.out (by simp))
    have R7 := Hid.mk (k7.heap R6.out (by simp))
    have G7 := Hid.mk (k7.heap G6.out (by simp))
    have S7 := Hid.mk (And.intro (S6.out.keep k7 (by simp)) hS8)
    clear hw6 hR1 hG8 hS8 k7 C5 z0 z1 z2 z3 z4 y0 y1 y2
    obtain ⟨w8, hw8, k8, b8⟩ := three_new w7 (.int .i64 (Wn : Int)) (.int .i64 (Hn : Int)) (.slice (some ⟨G8, 0, none⟩) n c8) 29
    obtain ⟨U, hU⟩ : ∃ U, w7.heap.size = U := ⟨_, rfl⟩
    rw [hU] at b8
    have K8 := Hid.mk (K7.out.trans k8)
    have B8 := Hid.mk (k8.heap B7.out (by simp))
    have R8 := Hid.mk (k8.heap R7.out (by simp))
    have G8' := Hid.mk (k8.heap G7.out (by simp))
    have S8 := Hid.mk (S7.out.1.keep k8 (by simp))
    obtain ⟨z0, z1, z2, z3, z4⟩ := five_cells B8.out
    obtain ⟨y0, y1, y2⟩ := agg3' R8.out
    obtain ⟨v0, v1, v2⟩ := agg3' b8
    have C7 := Hid.mk (sameB_yes (Wn : Int) (Hn : Int) G 0 n G8 0 c8 n b w8 S8.out (S7.out.2.keep k8 (by simp)) hnn)
    clear k8 b8
    go_wp2_with (go_at_call 8; refine (C6.out _).mono ?_; rintro e w' ⟨rfl, hw⟩; obtain rfl := hw.symm)
    refine C7.out.mono ?_
    rintro e w9 ⟨rfl, k9⟩
    have K9 := Hid.mk (K8.out.trans k9)
    have B9 := Hid.mk (k9.heap B8.out (by simp))
    have G9 := Hid.mk (k9.heap G8'.out (by simp))
    have C9 := Hid.mk (C8.out G w9 (S8.out.keep k9 (by simp)) K9.out)
    have R9 := Hid.mk (k9.heap R8.out (by simp))
    clear k9 C7 C6 C8 y0 y1 y2 v0 v1 v2 z0 z1 z2 z3 z4 hw8 hU
    obtain ⟨z0, z1, z2, z3, z4⟩ := five_cells B9.out
    obtain ⟨y0, y1, y2⟩ := agg3' R9.out
    have l1 : ¬ (L : Int) < 1 := by omega
    have l2 : ¬ R < (L : Int) := by rcases HKind.out with ⟨_, h⟩ | ⟨_, h, _⟩ <;> omega
    go_wp2_with (fail)
    refine C9.out.mono ?_
    rintro e w10 ⟨rfl, k10⟩
    have K10 := Hid.mk (K9.out.trans k10)
    have hc0 : w10.cell? ⟨g4, 0, none⟩ = some (.int .u8 (c0 : Int)) := by
      have h := k10.heap G9.out (by simp)
      rw [HCt.out] at h
      have h' : w10.cell? ⟨g4, 0, none⟩ = some (byt c0) := by simp [World.cell?, h]
      exact h'
    have B10 := k10.heap B9.out (by simp)
    clear y0 y1 y2 z0 z1 z2 z3 z4 k10 C9
    obtain ⟨z0, z1, z2, z3, z4⟩ := five_cells B10
    clear B10
    rcases HKind.out with ⟨rfl, h⟩ | ⟨rfl, h, hb⟩
    · have hFd : F ≤ d := HF.out.1.2
      replace hc0 : w10.cell? ⟨g4, 0, none⟩ = some (.int .u8 1) := hc0
      have i0 : (0 : Int) < L := by omega
      go_wp2
      go_ret
      exact ⟨rfl, K10.out⟩
    · obtain rfl : F = 0 := HF.out.2 hb
      replace hc0 : w10.cell? ⟨g4, 0, none⟩ = some (.int .u8 0) := hc0
      have i0 : (0 : Int) < L := by omega
      have hLR : ((L : Int) == R) = true := by simp [h]
      go_wp2
      go_ret
      exact ⟨rfl, K10.out⟩
end Go.Proofs.YtahoeodpjdbdkaaDoor
