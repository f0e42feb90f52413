import Derived.Test.YthhcihcgefeblaaDoorD5Z
namespace Go.Proofs.YthhcihcgefeblaaDoor
open Go.RowKit

theorem refr_reads {w : World} {B g cap : Nat} {l : List Nat} {t : Nat} (h : RefR w B (.slice (some ⟨g, 0, none⟩) (8 * l.length) cap) l t) (a n : Nat) (hn : a + n ≤ 8 * l.length) : Reads w (some ⟨g, a, none⟩) (bitsAt l a n) := by
  refine .inr ⟨g, a, rfl, fun i hi => ?_⟩
  rw [bitsAt_length] at hi
  rw [bitsAt_getD _ _ _ _ hi, h.2.cellAt (a + i) (by omega), ← bin_next l (a + i) (by omega)]
  simp [bin_length, show a + i < 8 * l.length by omega]

/-- A slice of the bits from t on. -/
def Tail (w : World) (bo : Option Addr) (l : List Nat) (t : Nat) : Prop := t = 8 * l.length ∨ ∃ g, bo = some ⟨g, t, none⟩ ∧ ∀ i, t + i < 8 * l.length → w.cell? ⟨g, t + i, none⟩ = some (byt (nextN l (t + i) 1))

theorem tail_of {w : World} {B cap M : Nat} {ao : Option Addr} {l : List Nat} {t : Nat} (h : RefR w B (.slice ao M cap) l t) (hM : 8 * l.length = M) (_ht : t ≤ M) : Tail w (ao.map fun x => x.add t) l t := by
  by_cases e : t = 8 * l.length
  · exact .inl e
  · right
    obtain ⟨g, cap', e1, _⟩ := refr_cell h t (by omega)
    simp at e1
    obtain ⟨rfl, rfl, rfl⟩ := e1
    refine ⟨g, by simp [Addr.add]; omega, fun i hi => ?_⟩
    obtain ⟨g2, cap2, e2, hc⟩ := refr_cell h (t + i) hi
    simp at e2
    obtain ⟨rfl, _⟩ := e2
    exact hc

theorem Tail.drewN {w : World} {bo : Option Addr} {l : List Nat} {t : Nat} (h : Tail w bo l t) (q : Nat) : Tail (w.drewN q) bo l t := by
  rcases h with h | ⟨g, hb, hc⟩
  · exact .inl h
  · refine .inr ⟨g, hb, fun i hi => ?_⟩
    have h := hc i hi
    exact (World.cell?_of_block (a := ⟨g, t + i, none⟩) (((Kept.refl [] w).drewN q).block g (World.block_lt_of_cell? _ _ h) (by simp))).trans h

theorem tail_none {w : World} {l : List Nat} {t n : Nat} {ao : Option Addr} (x : Nat) (hn : n = 0) : Reads (w.drewN x) ao (bitsAt l t n) := .inl (List.eq_nil_of_length_eq_zero (by rw [bitsAt_length]; exact hn))
theorem tail_some {w : World} {g : Nat} {l : List Nat} {t M a n : Nat} (hc : ∀ i, t + i < 8 * l.length → w.cell? ⟨g, t + i, none⟩ = some (byt (nextN l (t + i) 1))) (hM : 8 * l.length = M) (hn : t + a + n ≤ M) (x : Nat) :
    Reads (w.drewN x) (some ⟨g, t + a, none⟩) (bitsAt l (t + a) n) := by
  refine .inr ⟨g, t + a, rfl, fun i hi => ?_⟩
  rw [bitsAt_length] at hi
  rw [bitsAt_getD _ _ _ _ hi]
  have h := hc (a + i) (by omega)
  rw [← Nat.add_assoc] at h
  exact (World.cell?_of_block (a := ⟨g, t + a + i, none⟩) (((Kept.refl [] w).drewN x).block g (World.block_lt_of_cell? _ _ h) (by simp))).trans h

/-- What the document's Get comes to. -/
def GDPost (w : World) (B : Nat) (V : Value) (l : List Nat) (t k wide : Nat) (e : Ending) (w' : World) : Prop :=
  ∃ (X E : Int) (t' : Nat), e = .returned (.tuple #[.int .i64 X, .int .i64 E]) ∧ RefR w' B V l t' ∧ Kept [B] w w' ∧ NumRes l t k wide X E t'

set_option maxHeartbeats 4000000 in
set_option maxRecDepth 1000000 in
theorem getD_any (B : Nat) (V : Value) (l : List Nat) (t M : Nat) (k wide : Int) (w : World) (hw : RefR w B V l t) (hM : 8 * l.length = M) (ht : t ≤ M) (hl : M ≤ 100000000000000) (k0 : 0 ≤ k) (k1 : k ≤ 15) (w0 : 1 ≤ wide) (w1 : wide ≤ 16) :
    Calls Tryd.prog 40 #[.pointer (some ⟨B, 0, none⟩), .int .i64 k, .int .i64 wide] w fun e w' => GDPost w B V l t k.toNat wide.toNat e w' := by
  have HW := Hid.mk hw
  have hown := hw.2
  rw [hM] at hown
  obtain ⟨ao, cap, rfl⟩ := row_form hown
  have hcap : (M : Int) ≤ (cap : Int) := by
    rcases hown.2 with ⟨h1, h2⟩ | ⟨g, cap', cur, h1, _, _, h3, _⟩
    · simp at h1; omega
    · simp at h1; omega
  have HM := Hid.mk hM
  obtain ⟨c0, c1, fz⟩ := cells_two hw.1
  have f1 := fz 1
  clear fz hw hown hM
  go_enter Tryd.func40, Tryd.ntmps40
  go_wp2_with (go_at_call 62; refine (params_ok k wide _ k0 k1 w0 w1).mono ?_; rintro e w' ⟨rfl, rfl⟩)
  go_cut [9] (fun s9 wc => ∃ (bo : Option Addr) (cp : Nat), s9 = .slice bo (M - t) cp ∧ ((M - t : Nat) : Int) ≤ (cp : Int) ∧ Tail w' bo l t ∧ ∃ q, wc = w'.drewN q)
  case first =>
    go_quiet (fail)
    go_wp2
    all_goals go_meet
    · exact ⟨ao, 0, rfl, by omega, .inl (by have := HM.out; omega), _, rfl⟩
    · exact ⟨_, _, rfl, by omega, tail_of HW.out HM.out ht, _, rfl⟩
  case rest =>
    obtain ⟨bo, cp, rfl, hcp, hTl, q, rfl⟩ := hcut
    have HTl := Hid.mk hTl
    clear hTl c0 c1 f1
    go_wp2_with fail
    go_loopw [10] (fun uu wr => ∃ u : Nat, uu = .int .i64 u ∧ u ≤ 24 ∧ t + u ≤ M ∧ (∀ i, i < u → nextN l (t + i) 1 = 0) ∧ RefR wr B (.slice ao M cap) l t ∧ Tail wr bo l t ∧ Kept [B] w' wr) (fun uu _ => 24 - (intOf uu).toNat)
    case atStart => exact ⟨0, rfl, by omega, by omega, fun i hi => by omega, refr_drewN HW.out q, HTl.out.drewN q, (Kept.refl _ _).drewN q⟩
    case round =>
      obtain ⟨u, rfl, hu, hum, hz, hWr, hTr, hKr⟩ := hrel
      have Hz := Hid.mk hz
      have HWr := Hid.mk hWr
      have HTr := Hid.mk hTr
      have HKr := Hid.mk hKr
      clear hz hWr hTr hKr
      by_cases hu24 : u < 24
      · by_cases huM : t + u < M
        · have hbit := bit_lt l (t + u)
          obtain ⟨g, rfl, hcl⟩ : ∃ g, bo = some ⟨g, t, none⟩ ∧ ∀ i, t + i < 8 * l.length → wr.cell? ⟨g, t + i, none⟩ = some (byt (nextN l (t + i) 1)) := by
            rcases HTr.out with h | h
            · have := HM.out; omega
            · exact h
          have hcu := hcl u (by have := HM.out; omega)
          have Hcl := Hid.mk hcl
          unfold byt at hcu
          clear hcl
          by_cases hb0 : nextN l (t + u) 1 = 0
          · rw [hb0] at hcu
            go_wp2_with fail
            go_roundw
            case rel =>
              refine ⟨u + 1, by go_num, by omega, by omega, fun i hi => ?_, HWr.out, HTr.out, HKr.out⟩
              by_cases e : i = u
              · subst e; exact hb0
              · exact Hz.out i (by omega)
            case measure => simp [intOf]; omega
          · have hb1 : nextN l (t + u) 1 = 1 := by omega
            rw [hb1] at hcu
            have Hb1 := Hid.mk hb1
            have hne : ¬ ((u : Int) = 24) := by omega
            clear hb0 hb1 hbit
            by_cases hend : ((M - t : Nat) : Int) < (u : Int) + 1 + k
            · go_wp2_with fail
              go_ret2
              exact ⟨_, _, _, rfl, HWr.out, HKr.out, .inr (.inr (.inl ⟨rfl, rfl, rfl, .inl ⟨u, hu24, Hz.out, Hb1.out, by have := HM.out; omega, by have := HM.out; omega⟩⟩))⟩
            · go_wp2_with fail
              obtain ⟨P, hP⟩ : ∃ P : Int, P = ((2 ^ k.toNat : Nat) : Int) := ⟨_, rfl⟩
              have Hp := Hid.mk (fun w => power_any k P w k0 (by omega) hP)
              have hP1 : 1 ≤ P := by have := Nat.two_pow_pos k.toNat; omega
              have hP2 : P ≤ 32768 := by
                have : 2 ^ k.toNat ≤ 2 ^ 15 := Nat.pow_le_pow_right (by decide) (by omega)
                omega
              have HP := Hid.mk hP
              clear hP hcu
              have hnx := num2_bits l (t + (u + 1)) k.toNat (by have := HM.out; omega)
              have hlow := nextN_lt l (t + (u + 1)) k.toNat
              obtain ⟨L, hL⟩ : ∃ L : Int, ((num2 (bitsAt l (t + (u + 1)) k.toNat) : Nat) : Int) = L := ⟨_, rfl⟩
              have HL : Hid (L = (nextN l (t + (u + 1)) k.toNat : Int)) := by rw [← hL, hnx]; exact Hid.mk rfl
              have L0 : 0 ≤ L := by omega
              have L1 : L < 32768 := by have := HL.out; have := HP.out; omega
              obtain ⟨Q, hQ⟩ : ∃ Q : Int, (u : Int) * P = Q := ⟨_, rfl⟩
              have HQ : Hid (Q = ((u * 2 ^ k.toNat : Nat) : Int)) := by rw [← hQ, HP.out, Int.natCast_mul]; exact Hid.mk rfl
              have hQ2 : u * 2 ^ k.toNat ≤ 24 * 32768 := Nat.mul_le_mul (by omega) (by have := HP.out; omega)
              have Q0 : 0 ≤ Q := by have := HQ.out; omega
              have Q1 : Q ≤ 786432 := by have := HQ.out; omega
              have hn40 : (u : Int) + 1 + k ≤ ((M - t : Nat) : Int) := by omega
              clear hnx hlow hQ2
              by_cases hcpu : cp = u + 1
              · subst hcpu
                go_cut [12] (fun s12 wc => s12 = .int .i64 (Q + L) ∧ ∃ y, wc = wr.drewN y)
                case first =>
                  go_quiet ((first | (go_at_call 63; refine Calls.quiet_of_same (Hp.out _)) | (go_at_call 65; refine Calls.quiet_of_same (numberD_any _ _ _ (bitsAt l (t + (u + 1)) k.toNat) _ ?_ (bitsAt_lt _ _ _) ?_ ?_); (first | exact tail_none _ (by omega) | exact tail_some Hcl.out HM.out (by omega) _); rw [bitsAt_length]; omega; omega)))
                  go_wp2
                  all_goals go_meet
                  all_goals exact ⟨rfl, _, rfl⟩
                case rest =>
                  obtain ⟨rfl, y, rfl⟩ := hcut
                  have HRy := Hid.mk (refr_drewN HWr.out y)
                  have HKy := Hid.mk (HKr.out.drewN y)
                  obtain ⟨_, d1, dz⟩ := cells_two HRy.out.1
                  have z1 := dz 1
                  obtain ⟨X, hX⟩ : ∃ X : Int, X = ((2 ^ wide.toNat : Nat) : Int) := ⟨_, rfl⟩
                  have HpX := Hid.mk (fun w => power_any wide X w (by omega) (by omega) hX)
                  have HX := Hid.mk hX
                  have hX1 := pow16 wide w1
                  have X1 : X ≤ 65536 := by omega
                  have X0 : 0 ≤ X := by rw [hX]; exact Int.natCast_nonneg _
                  clear dz hX hX1 hL hQ
                  by_cases hv : X ≤ Q + L
                  · go_wp2_with (go_at_call 63; refine (HpX.out _).mono ?_; rintro e w5 ⟨rfl, rfl⟩)
                    go_ret2
                    refine ⟨_, _, _, rfl, HRy.out, HKy.out, .inr (.inr (.inr ⟨rfl, rfl, rfl, .inl ⟨u, hu24, Hz.out, Hb1.out, by have := HM.out; omega, ?_⟩⟩))⟩
                    have e1 := HX.out
                    have e2 := HQ.out
                    have e3 := HL.out
                    rw [Nat.add_assoc t u 1]
                    generalize u * 2 ^ k.toNat = A at e2 ⊢
                    omega
                  · go_wp2_with (go_at_call 63; refine (HpX.out _).mono ?_; rintro e w5 ⟨rfl, rfl⟩)
                    go_ret2
                    have et : (t : Int) + ((u : Int) + 1 + k) = ((t + u + 1 + k.toNat : Nat) : Int) := by omega
                    rw [et]
                    refine ⟨_, _, _, rfl, refr_set HRy.out _, HKy.out.setCell (by simp) _, .inl ⟨u, hu24, Hz.out, Hb1.out, by have := HM.out; omega, ?_, ?_, rfl, rfl⟩⟩
                    · have e1 := HX.out
                      have e2 := HQ.out
                      have e3 := HL.out
                      rw [Nat.add_assoc t u 1]
                      generalize u * 2 ^ k.toNat = A at e2 ⊢
                      omega
                    · have e2 := HQ.out
                      have e3 := HL.out
                      rw [Nat.add_assoc t u 1]
                      generalize u * 2 ^ k.toNat = A at e2 ⊢
                      omega
              · go_cut [12] (fun s12 wc => s12 = .int .i64 (Q + L) ∧ ∃ y, wc = wr.drewN y)
                case first =>
                  go_quiet ((first | (go_at_call 63; refine Calls.quiet_of_same (Hp.out _)) | (go_at_call 65; refine Calls.quiet_of_same (numberD_any _ _ _ (bitsAt l (t + (u + 1)) k.toNat) _ ?_ (bitsAt_lt _ _ _) ?_ ?_); (first | exact tail_none _ (by omega) | exact tail_some Hcl.out HM.out (by omega) _); rw [bitsAt_length]; omega; omega)))
                  go_wp2
                  all_goals go_meet
                  all_goals exact ⟨rfl, _, rfl⟩
                case rest =>
                  obtain ⟨rfl, y, rfl⟩ := hcut
                  have HRy := Hid.mk (refr_drewN HWr.out y)
                  have HKy := Hid.mk (HKr.out.drewN y)
                  obtain ⟨_, d1, dz⟩ := cells_two HRy.out.1
                  have z1 := dz 1
                  obtain ⟨X, hX⟩ : ∃ X : Int, X = ((2 ^ wide.toNat : Nat) : Int) := ⟨_, rfl⟩
                  have HpX := Hid.mk (fun w => power_any wide X w (by omega) (by omega) hX)
                  have HX := Hid.mk hX
                  have hX1 := pow16 wide w1
                  have X1 : X ≤ 65536 := by omega
                  have X0 : 0 ≤ X := by rw [hX]; exact Int.natCast_nonneg _
                  clear dz hX hX1 hL hQ
                  by_cases hv : X ≤ Q + L
                  · go_wp2_with (go_at_call 63; refine (HpX.out _).mono ?_; rintro e w5 ⟨rfl, rfl⟩)
                    go_ret2
                    refine ⟨_, _, _, rfl, HRy.out, HKy.out, .inr (.inr (.inr ⟨rfl, rfl, rfl, .inl ⟨u, hu24, Hz.out, Hb1.out, by have := HM.out; omega, ?_⟩⟩))⟩
                    have e1 := HX.out
                    have e2 := HQ.out
                    have e3 := HL.out
                    rw [Nat.add_assoc t u 1]
                    generalize u * 2 ^ k.toNat = A at e2 ⊢
                    omega
                  · go_wp2_with (go_at_call 63; refine (HpX.out _).mono ?_; rintro e w5 ⟨rfl, rfl⟩)
                    go_ret2
                    have et : (t : Int) + ((u : Int) + 1 + k) = ((t + u + 1 + k.toNat : Nat) : Int) := by omega
                    rw [et]
                    refine ⟨_, _, _, rfl, refr_set HRy.out _, HKy.out.setCell (by simp) _, .inl ⟨u, hu24, Hz.out, Hb1.out, by have := HM.out; omega, ?_, ?_, rfl, rfl⟩⟩
                    · have e1 := HX.out
                      have e2 := HQ.out
                      have e3 := HL.out
                      rw [Nat.add_assoc t u 1]
                      generalize u * 2 ^ k.toNat = A at e2 ⊢
                      omega
                    · have e2 := HQ.out
                      have e3 := HL.out
                      rw [Nat.add_assoc t u 1]
                      generalize u * 2 ^ k.toNat = A at e2 ⊢
                      omega
        · have hbl : ((M - t : Nat) : Int) = (u : Int) := by omega
          have hne : ¬ ((u : Int) = 24) := by omega
          have hend : ((M - t : Nat) : Int) < (u : Int) + 1 + k := by omega
          have hge : ¬ ((u : Int) < ((M - t : Nat) : Int)) := by omega
          go_wp2_with fail
          go_ret2
          exact ⟨_, _, _, rfl, HWr.out, HKr.out, .inr (.inr (.inl ⟨rfl, rfl, rfl, .inr (.inr ⟨by have := HM.out; omega, fun i hi => Hz.out i (by have := HM.out; omega)⟩)⟩))⟩
      · obtain rfl : u = 24 := by omega
        by_cases hend : ((M - t : Nat) : Int) < 24 + wide
        · go_wp2_with fail
          go_ret2
          exact ⟨_, _, _, rfl, HWr.out, HKr.out, .inr (.inr (.inl ⟨rfl, rfl, rfl, .inr (.inl ⟨Hz.out, by have := HM.out; omega, by have := HM.out; omega⟩)⟩))⟩
        · obtain ⟨g, rfl, hcl⟩ : ∃ g, bo = some ⟨g, t, none⟩ ∧ ∀ i, t + i < 8 * l.length → wr.cell? ⟨g, t + i, none⟩ = some (byt (nextN l (t + i) 1)) := by
            rcases HTr.out with h | h
            · have := HM.out; omega
            · exact h
          have Hcl := Hid.mk hcl
          obtain ⟨P, hP⟩ : ∃ P : Int, P = ((2 ^ k.toNat : Nat) : Int) := ⟨_, rfl⟩
          have Hp := Hid.mk (fun w => power_any k P w k0 (by omega) hP)
          have hP1 : 1 ≤ P := by have := Nat.two_pow_pos k.toNat; omega
          have HP := Hid.mk hP
          have hnx := num2_bits l (t + 24) wide.toNat (by have := HM.out; omega)
          have hlow := nextN_lt l (t + 24) wide.toNat
          have h16 := pow16 wide w1
          obtain ⟨L, hL⟩ : ∃ L : Int, ((num2 (bitsAt l (t + 24) wide.toNat) : Nat) : Int) = L := ⟨_, rfl⟩
          have HL : Hid (L = (nextN l (t + 24) wide.toNat : Int)) := by rw [← hL, hnx]; exact Hid.mk rfl
          have L0 : 0 ≤ L := by omega
          have L1 : L < 65536 := by have := HL.out; omega
          clear hnx hlow h16 hP hcl
          have hn40 : 24 + wide ≤ ((M - t : Nat) : Int) := by omega
          by_cases hcpu : cp = 24
          · exfalso; omega
          · go_wp2_with fail
            refine (numberD_any _ _ _ (bitsAt l (t + 24) wide.toNat) _ ?_ (bitsAt_lt _ _ _) ?_ ?_).mono ?_
            · first | exact tail_none (w := wr) 0 (by omega) | exact tail_some (w := wr) Hcl.out HM.out (by omega) 0
            · rw [bitsAt_length]; omega
            · omega
            rw [hL]
            rintro e w4 ⟨rfl, rfl⟩
            obtain ⟨_, d1, dz⟩ := cells_two HWr.out.1
            have z1 := dz 1
            clear dz hL
            obtain ⟨D, hD⟩ : ∃ D : Int, L / P = D := ⟨_, rfl⟩
            have HD : Hid (D = ((nextN l (t + 24) wide.toNat / 2 ^ k.toNat : Nat) : Int)) := by rw [← hD, HL.out, HP.out, Int.natCast_ediv]; exact Hid.mk rfl
            have D0 : 0 ≤ D := by have := HD.out; rw [this]; exact Int.natCast_nonneg _
            have D1 : D ≤ L := by rw [← hD]; exact Int.ediv_le_self _ L0
            by_cases hv : D < 24
            · go_wp2_with (go_at_call 63; refine (Hp.out _).mono ?_; rintro e w5 ⟨rfl, rfl⟩)
              go_ret2
              exact ⟨_, _, _, rfl, HWr.out, HKr.out, .inr (.inr (.inr ⟨rfl, rfl, rfl, .inr ⟨Hz.out, by have := HM.out; omega, by have := HD.out; omega⟩⟩))⟩
            · go_wp2_with (go_at_call 63; refine (Hp.out _).mono ?_; rintro e w5 ⟨rfl, rfl⟩)
              go_ret2
              have et : (t : Int) + (24 + wide) = ((t + 24 + wide.toNat : Nat) : Int) := by omega
              rw [et]
              exact ⟨_, _, _, rfl, refr_set HWr.out _, HKr.out.setCell (by simp) _, .inr (.inl ⟨Hz.out, by have := HM.out; omega, by have := HD.out; omega, HL.out, rfl, rfl⟩)⟩
end Go.Proofs.YthhcihcgefeblaaDoor
