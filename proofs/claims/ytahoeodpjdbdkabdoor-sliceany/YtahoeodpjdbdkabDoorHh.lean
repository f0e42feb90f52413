import Derived.Test.YtahoeodpjdbdkabDoorHg
import Derived.Test.YtahoeodpjdbdkabDoorFuZ
import Derived.Test.YtahoeodpjdbdkabDoorEdZ
namespace Go.Proofs.YtahoeodpjdbdkabDoor
open Go.RowKit

set_option maxHeartbeats 8000000 in
set_option maxRecDepth 1000000 in
theorem sliceAny_any (W H D d : Int) (ao : Option Addr) (m cap : Nat) (l : List Nat) (w : World) (hT : Tab w) (hr : Reads w ao l) (hby : Byts l) (hm : l.length = m) (hl : m ≤ 281474976710656) :
    Calls Tryd.prog 4 #[.agg #[.slice ao m cap, .int .i64 W, .int .i64 H, .int .i64 D, .int .i64 d]] w fun e w' => e = .returned (.bool true) ∧ Kept [] w w' := by
  obtain ⟨w1, hw1, k1, b1⟩ := five_new w (.slice ao m cap) (.int .i64 W) (.int .i64 H) (.int .i64 D) (.int .i64 d) 38
  obtain ⟨Q, hQ⟩ : ∃ Q, w.heap.size = Q := ⟨_, rfl⟩
  rw [hQ] at b1
  have K1 := Hid.mk k1
  have B1 := Hid.mk b1
  have HT := Hid.mk hT
  have HR := Hid.mk hr
  have C1 := Hid.mk (alive_any w1 (hT.kept k1 (by simp)))
  clear k1 b1 hT hr
  go_enter Tryd.func4, Tryd.ntmps4
  go_wp2_with (fail)
  refine C1.out.mono ?_
  rintro e w2 ⟨rfl, k2⟩
  have K2 := Hid.mk (K1.out.trans k2)
  have B2 := Hid.mk (k2.heap B1.out (by simp))
  obtain ⟨z0, z1, z2, z3, z4⟩ := five_cells B2.out
  clear k2 C1
  by_cases hg : ((D = 10 ∨ D = 12) ∧ 0 ≤ d ∧ d ≤ 63) ∧ szd W H = true
  · obtain ⟨⟨hDD, d0, d1⟩, hz⟩ := hg
    have hb := szd_in hz
    obtain ⟨Wn, rfl⟩ := Int.eq_ofNat_of_zero_le (show 0 ≤ W by omega)
    obtain ⟨Hn, rfl⟩ := Int.eq_ofNat_of_zero_le (show 0 ≤ H by omega)
    obtain ⟨T, hD⟩ : ∃ T, Dp D T := by
      rcases hDD with h | h
      · exact ⟨1023, .inl ⟨h, rfl⟩⟩
      · exact ⟨4095, .inr ⟨h, rfl⟩⟩
    obtain ⟨n, hn⟩ : ∃ n, n = Wn * Hn := ⟨_, rfl⟩
    have hcst : (Wn : Int) * (Hn : Int) = (n : Int) := by rw [hn]; simp
    rw [hcst] at hb
    have hwr : IntKind.i64.wrap ((Wn : Int) * (Hn : Int)) = (n : Int) := by rw [hcst]; exact wrap_i (by omega) (by omega)
    have hwr2 : wrap64 ((Wn : Int) * (Hn : Int)) = (n : Int) := by rw [hcst]; exact w64_in (by omega) (by omega)
    have CL := Hid.mk (Decode_all Wn Hn n ao cap m l D T d w2 (HR.out.keep K2.out) hby hm hl (HT.out.kept K2.out (by simp)) hz hn hD d0 d1)
    have HH := Hid.mk hcst
    clear hz hn hcst hwr HR HT
    have bw : (1 : Int) ≤ Wn ∧ (Wn : Int) ≤ 4096 := by omega
    have bh : (1 : Int) ≤ Hn ∧ (Hn : Int) ≤ 4096 := by omega
    have bn : n ≤ 4194304 := by omega
    clear hb
    generalize (Wn : Int) = a at *
    generalize (Hn : Int) = b at *
    go_wp2_with (fail)
    refine CL.out.mono ?_
    rintro e w3 ⟨E, s, -, k3, ⟨hE, rfl⟩ | ⟨rfl, G, rfl, -, hsm, hst, hin⟩⟩
    · obtain ⟨w4, hw4, k4, b4⟩ := three_new w3 (.int .i64 0) (.int .i64 0) (.slice none 0 0) 24
      obtain ⟨R, hR⟩ : ∃ R, w3.heap.size = R := ⟨_, rfl⟩
      rw [hR] at b4
      have K4 := Hid.mk (K2.out.trans (k3.trans k4))
      obtain ⟨x0, x1, x2, xf⟩ := cells_three b4
      have f0 := xf 0
      have f1 := xf 1
      have f2 := xf 2
      have hRw : w.heap.size ≤ R := by rw [← hR]; exact (K2.out.trans k3).size
      have hx' : (E != 0) = true := by simp; exact hE
      have hx2 : (E == 0) = false := by simp; exact hE
      clear k4 b4 k3 CL xf
      go_wp2
      go_ret
      have k7 : Kept [R] w4 (((w4.setCell ⟨R, 0, none⟩ (.int .i64 0)).setCell ⟨R, 1, none⟩ (.int .i64 0)).setCell ⟨R, 2, none⟩ (.slice none 0 0)) :=
        (((Kept.refl [R] w4).setCell (p := ⟨R, 0, none⟩) (by simp) _).setCell (p := ⟨R, 1, none⟩) (by simp) _).setCell (p := ⟨R, 2, none⟩) (by simp) _
      exact ⟨rfl, K4.out.step k7 (by simp; omega)⟩
    · obtain ⟨w4, hw4, k4, b4⟩ := three_new w3 (.int .i64 a) (.int .i64 b) (.slice (some ⟨G, 0, none⟩) n n) 24
      obtain ⟨R, hR⟩ : ∃ R, w3.heap.size = R := ⟨_, rfl⟩
      rw [hR] at b4
      have K4 := Hid.mk (K2.out.trans (k3.trans k4))
      have B4 := Hid.mk ((k3.trans k4).heap B2.out (by simp))
      have R4 := Hid.mk b4
      have S4 := Hid.mk (hsm.keep k4 (by simp))
      have HI : Hid (∀ i, i < n → 0 ≤ s.b i ∧ s.b i ≤ T) := Hid.mk (fun i hi => hin.bk i (by rw [hst]; exact hi))
      obtain ⟨x0, x1, x2⟩ := agg3' b4
      clear z0 z1 z2 z3 z4
      obtain ⟨z0, z1, z2, z3, z4⟩ := five_cells B4.out
      clear k4 b4 k3 CL hsm hst hin
      rcases hD with ⟨rfl, rfl⟩ | ⟨rfl, rfl⟩
      · go_wp2_with (fail)
        go_loopw [6] (fun i wr => ∃ k : Nat, k ≤ n ∧ i = .int .i64 (k : Int) ∧ Kept [] w4 wr) (fun i _ => n - (intOf i).toNat)
        case atStart => exact ⟨0, by omega, rfl, Kept.refl _ _⟩
        case round =>
          obtain ⟨k, hk, rfl, hkw⟩ := hrel
          obtain ⟨y0, y1, y2, y3, y4⟩ := five_cells (hkw.heap B4.out (by simp))
          obtain ⟨u0, u1, u2⟩ := agg3' (hkw.heap R4.out (by simp))
          have hsm := S4.out.keep hkw (by simp)
          have HK := Hid.mk hkw
          by_cases hlt : k < n
          · have a := hsm k hlt
            rw [Nat.zero_add] at a
            have fv := HI.out k hlt
            obtain ⟨v, hv⟩ : ∃ v, s.b k = v := ⟨_, rfl⟩
            rw [hv] at a fv
            have wv : IntKind.i64.wrap v = v := wrap_i (by omega) (by omega)
            have ix : (k : Int) < n := by omega
            have hc : ¬ 1024 ≤ v := by omega
            clear hkw hsm hv z0 z1 z2 z3 z4 x0 x1 x2 hwr2
            go_wp2
            go_quiet (fail)
            go_wp2
            go_roundw
            case rel => exact ⟨k + 1, by omega, by go_num, HK.out.drewN _⟩
            case measure => simp [intOf]; omega
          · obtain rfl : n = k := by omega
            have ix : ¬ (n : Int) < (n : Int) := by omega
            clear hkw hsm z0 z1 z2 z3 z4 x0 x1 x2
            go_wp2
            go_ret
            exact ⟨rfl, K4.out.trans HK.out⟩
      · go_wp2_with (fail)
        go_loopw [6] (fun i wr => ∃ k : Nat, k ≤ n ∧ i = .int .i64 (k : Int) ∧ Kept [] w4 wr) (fun i _ => n - (intOf i).toNat)
        case atStart => exact ⟨0, by omega, rfl, Kept.refl _ _⟩
        case round =>
          obtain ⟨k, hk, rfl, hkw⟩ := hrel
          obtain ⟨y0, y1, y2, y3, y4⟩ := five_cells (hkw.heap B4.out (by simp))
          obtain ⟨u0, u1, u2⟩ := agg3' (hkw.heap R4.out (by simp))
          have hsm := S4.out.keep hkw (by simp)
          have HK := Hid.mk hkw
          by_cases hlt : k < n
          · have a := hsm k hlt
            rw [Nat.zero_add] at a
            have fv := HI.out k hlt
            obtain ⟨v, hv⟩ : ∃ v, s.b k = v := ⟨_, rfl⟩
            rw [hv] at a fv
            have wv : IntKind.i64.wrap v = v := wrap_i (by omega) (by omega)
            have ix : (k : Int) < n := by omega
            have hc : ¬ 4096 ≤ v := by omega
            clear hkw hsm hv z0 z1 z2 z3 z4 x0 x1 x2 hwr2
            go_wp2
            go_quiet (fail)
            go_wp2
            go_roundw
            case rel => exact ⟨k + 1, by omega, by go_num, HK.out.drewN _⟩
            case measure => simp [intOf]; omega
          · obtain rfl : n = k := by omega
            have ix : ¬ (n : Int) < (n : Int) := by omega
            clear hkw hsm z0 z1 z2 z3 z4 x0 x1 x2
            go_wp2
            go_ret
            exact ⟨rfl, K4.out.trans HK.out⟩
  · have CL := Hid.mk (Decode_bad ao m cap W H D d w2 hg)
    clear hg
    go_wp2_with (fail)
    refine CL.out.mono ?_
    rintro e w3 ⟨E, hE, rfl, k3⟩
    obtain ⟨w4, hw4, k4, b4⟩ := three_new w3 (.int .i64 0) (.int .i64 0) (.slice none 0 0) 24
    obtain ⟨R, hR⟩ : ∃ R, w3.heap.size = R := ⟨_, rfl⟩
    rw [hR] at b4
    have K4 := Hid.mk (K2.out.trans (k3.trans k4))
    obtain ⟨x0, x1, x2, xf⟩ := cells_three b4
    have f0 := xf 0
    have f1 := xf 1
    have f2 := xf 2
    have hRw : w.heap.size ≤ R := by rw [← hR]; exact (K2.out.trans k3).size
    have hx' : (E != 0) = true := by simp; exact hE
    have hx2 : (E == 0) = false := by simp; exact hE
    clear k4 b4 k3 CL xf
    go_wp2
    go_ret
    have k7 : Kept [R] w4 (((w4.setCell ⟨R, 0, none⟩ (.int .i64 0)).setCell ⟨R, 1, none⟩ (.int .i64 0)).setCell ⟨R, 2, none⟩ (.slice none 0 0)) :=
      (((Kept.refl [R] w4).setCell (p := ⟨R, 0, none⟩) (by simp) _).setCell (p := ⟨R, 1, none⟩) (by simp) _).setCell (p := ⟨R, 2, none⟩) (by simp) _
    exact ⟨rfl, K4.out.step k7 (by simp; omega)⟩
end Go.Proofs.YtahoeodpjdbdkabDoor
