import Derived.Test.YthhcihcgefeblaaDoorE4
namespace Go.Proofs.YthhcihcgefeblaaDoor
open Go.RowKit

/-- What the document's Get of a run comes to. -/
def RGDPost (w : World) (Y B : Nat) (V : Value) (l : List Nat) (t r room : Nat) (e : Ending) (w' : World) : Prop :=
  ∃ (X E : Int) (t' r' : Nat), e = .returned (.tuple #[.int .i64 X, .int .i64 E]) ∧ RefR w' B V l t' ∧ RefX w' Y r' ∧ Kept [B, Y] w w' ∧ RunRes l t r room X E t' r'

theorem kept0 {ks : List Nat} {w w' : World} (h : Kept [] w w') : Kept ks w w' := h.mono (fun x hx => by simp at hx)

theorem refr_readsM {w : World} {B g cap M : Nat} {l : List Nat} {t : Nat} (h : RefR w B (.slice (some ⟨g, 0, none⟩) M cap) l t) (hM : 8 * l.length = M) (a n : Nat) (hn : a + n ≤ M) : Reads w (some ⟨g, a, none⟩) (bitsAt l a n) := by
  subst hM; exact refr_reads h a n hn

theorem refr_readsIf {w : World} {B g cap M : Nat} {l : List Nat} {t : Nat} (h : RefR w B (.slice (some ⟨g, 0, none⟩) M cap) l t) (hM : 8 * l.length = M) (a n : Nat) (hn : a + n ≤ M) (hc : M ≤ cap) (A : Nat) (hA : A = a) :
    Reads w (if cap = A then some ⟨g, 0, none⟩ else some ⟨g, A, none⟩) (bitsAt l a n) := by
  subst hA
  by_cases e : cap = A
  · have : n = 0 := by omega
    exact .inl (List.eq_nil_of_length_eq_zero (by rw [bitsAt_length]; exact this))
  · rw [if_neg e]; exact refr_readsM h hM A n hn

theorem rgetD_fin {w wr : World} {Y B : Nat} {V : Value} {l : List Nat} {t r : Nat} (hX : RefX wr Y r) (hW : RefR wr B V l t) (hk : Kept [] w wr) (t' r' : Nat) (hr : r' ≤ 22) :
    RefR ((wr.setCell ⟨B, 1, none⟩ (.int .i64 (t' : Int))).setCell ⟨Y, 0, none⟩ (.int .i64 (r' : Int))) B V l t' ∧ RefX ((wr.setCell ⟨B, 1, none⟩ (.int .i64 (t' : Int))).setCell ⟨Y, 0, none⟩ (.int .i64 (r' : Int))) Y r' ∧
      Kept [B, Y] w ((wr.setCell ⟨B, 1, none⟩ (.int .i64 (t' : Int))).setCell ⟨Y, 0, none⟩ (.int .i64 (r' : Int))) := by
  have hne : Y ≠ B := by
    intro e
    have h1 := hX.1
    have h2 := hW.1
    rw [e, h2] at h1
    simp at h1
  have h1 := refr_set hW t'
  have h2 : RefX (wr.setCell ⟨B, 1, none⟩ (.int .i64 (t' : Int))) Y r := ⟨by rw [Below.heap_setCell _ _ _ _ hne]; exact hX.1, hX.2⟩
  refine ⟨?_, ⟨?_, hr⟩, ((kept0 (ks := [B, Y]) hk).setCell (p := ⟨B, 1, none⟩) (by simp) _).setCell (p := ⟨Y, 0, none⟩) (by simp) _⟩
  · exact ⟨by rw [Below.heap_setCell _ _ _ _ (Ne.symm hne)]; exact h1.1, ownsRow_setCell_other h1.2 (own_ne2 h2.1 (by decide) h1.2) _⟩
  · rw [heap_setCell_at h2.1]; rfl

set_option maxHeartbeats 4000000 in
set_option maxRecDepth 1000000 in
theorem rgetD_any (Y B : Nat) (V : Value) (l : List Nat) (t r M : Nat) (room : Int) (w : World) (hx : RefX w Y r) (hw : RefR w B V l t) (hM : 8 * l.length = M) (ht : t ≤ M) (hl : M ≤ 100000000000000) (r0 : 1 ≤ room) (r1 : room ≤ 4096) :
    Calls Tryd.prog 42 #[.pointer (some ⟨Y, 0, none⟩), .pointer (some ⟨B, 0, none⟩), .int .i64 room] w fun e w' => RGDPost w Y B V l t r room.toNat e w' := by
  have hr22 := hx.2
  have HW := Hid.mk hw
  have HX := Hid.mk hx
  have hown := hw.2
  rw [hM] at hown
  obtain ⟨ao, cap, rfl⟩ := row_form hown
  have hcap : (M : Int) ≤ (cap : Int) := by
    rcases hown.2 with ⟨h1, h2⟩ | ⟨g, cap', cur, h1, _, _, h3, _⟩
    · simp at h1; omega
    · simp at h1; omega
  have HM := Hid.mk hM
  obtain ⟨c0, c1, fz⟩ := cells_two hw.1
  obtain ⟨x0, xz⟩ := cells_one hx.1
  have t1 : decide (room < 1) = false := by simp; omega
  clear fz xz hw hx hown hM
  go_enter Tryd.func42, Tryd.ntmps42
  go_wp2_with fail
  go_loopw [8, 9, 10] (fun a b c wr => ∃ i : Nat, S r i ≤ room.toNat ∧ t + i ≤ M ∧ (∀ a, a < i → nextN l (t + a) 1 = 1) ∧ a = .int .i64 (ri r i : Int) ∧ b = .int .i64 ((t : Int) + (i : Int)) ∧ c = .int .i64 (room - (S r i : Int)) ∧ RefX wr Y r ∧ RefR wr B (.slice ao M cap) l t ∧ Kept [] w wr) (fun _ _ c _ => (intOf c).toNat)
  case atStart => exact ⟨0, Nat.zero_le _, by omega, fun a ha => by omega, by unfold ri; congr 1; omega, by simp, by simp [S], HX.out, HW.out, Kept.refl _ _⟩
  case round =>
    obtain ⟨i, hS, hti, hones, rfl, rfl, rfl, hXr, hWr, hkr⟩ := hrel
    clear c0 c1 x0
    have hrr := ri_le r i
    have hJ := J_le (ri r i)
    have HSs := Hid.mk (S_succ r i)
    have Hones := Hid.mk hones
    have Hpow := Hid.mk (Nat.pow_le_pow_right (n := 2) (by decide) hJ)
    have Hri : Hid (ri r (i + 1) = min (ri r i + 1) 22) := by unfold ri; exact Hid.mk (by omega)
    obtain ⟨s, hs⟩ : ∃ s : Nat, s = S r i := ⟨_, rfl⟩
    have Hs := Hid.mk hs
    rw [← hs] at hS HSs ⊢
    obtain ⟨P, hP⟩ : ∃ P : Int, P = ((2 ^ J (ri r i) : Nat) : Int) := ⟨_, rfl⟩
    have Hp := Hid.mk (fun w => power_any (J (ri r i) : Int) P w (by omega) (by omega) (by rw [hP, Int.toNat_natCast]))
    have HP := Hid.mk hP
    have Hri0 := Hid.mk (rfl : ri r i = ri r i)
    have HXr := Hid.mk hXr
    have HWr := Hid.mk hWr
    have Hkr := Hid.mk hkr
    obtain ⟨c0, c1, fz⟩ := cells_two hWr.1
    obtain ⟨x0, xz⟩ := cells_one hXr.1
    have f1 := fz 1
    clear fz hs hP hXr hWr hkr hones
    by_cases hfull : s = room.toNat
    · have hz : room - (s : Int) = 0 := by omega
      go_wp2_with fail
      go_ret2
      rw [show (t : Int) + (i : Int) = ((t + i : Nat) : Int) by omega]
      obtain ⟨p1, p2, p3⟩ := rgetD_fin HXr.out HWr.out Hkr.out (t + i) (ri r i) hrr
      exact ⟨_, _, t + i, ri r i, rfl, p1, p2, p3, i, Hones.out, by have := Hs.out; omega, by have := HM.out; omega, .inl ⟨by have := Hs.out; omega, by omega, rfl, rfl, rfl⟩⟩
    · have hpos : (0 : Int) < room - (s : Int) := by omega
      by_cases hend : t + i = M
      · have hge : (M : Int) ≤ (t : Int) + (i : Int) := by omega
        go_wp2_with fail
        go_ret2
        exact ⟨_, _, t, r, rfl, HWr.out, HXr.out, kept0 Hkr.out, i, Hones.out, by have := Hs.out; omega, by have := HM.out; omega, .inr (.inr (.inr (.inl ⟨by have := Hs.out; omega, rfl, rfl, rfl, rfl, .inl (by have := HM.out; omega)⟩)))⟩
      · have hlt : ¬ (M : Int) ≤ (t : Int) + (i : Int) := by omega
        have hlt2 : (t : Int) + (i : Int) < (M : Int) := by omega
        have hlt0 : (0 : Int) ≤ (t : Int) + (i : Int) := by omega
        obtain ⟨g, cp, hV, hcell⟩ := refr_cell HWr.out (t + i) (by have := HM.out; omega)
        simp at hV
        obtain ⟨rfl, hjunk, rfl⟩ := hV
        clear hjunk
        unfold byt at hcell
        have hb2 := bit_lt l (t + i)
        have hP1 : 1 ≤ P := by have := Nat.two_pow_pos (J (ri r i)); have := HP.out; omega
        have hP2 : P ≤ 4096 := by have := Hpow.out; have := HP.out; omega
        by_cases hb1 : nextN l (t + i) 1 = 1
        · rw [hb1] at hcell
          by_cases hst : P ≤ room - (s : Int)
          · go_wp2_with (first | (go_at_call 66; refine (jD_any (ri r i) _ hrr).mono ?_; rintro e w4 ⟨rfl, hk4⟩; replace HXr := Hid.mk (HXr.out.kept hk4 (by simp)); replace HWr := Hid.mk (refr_kept HWr.out hk4 (by simp) (by simp)); replace Hkr := Hid.mk (Hkr.out.trans hk4); clear hk4; obtain ⟨c0, c1, fz⟩ := cells_two HWr.out.1; obtain ⟨x0, xz⟩ := cells_one HXr.out.1; have f1 := fz 1; clear fz) | (go_at_call 63; refine (Hp.out _).mono ?_; rintro e w5 ⟨rfl, rfl⟩))
            go_roundw
            case rel =>
              refine ⟨i + 1, ?_, by omega, fun a ha => ?_, ?_, by go_num, ?_, HXr.out, HWr.out, Hkr.out⟩
              · have := HSs.out; have := HP.out; omega
              · by_cases e : a = i
                · subst e; exact hb1
                · exact Hones.out a (by omega)
              · rw [Hri.out]; congr 1; omega
              · rw [HSs.out]; congr 1; have := HP.out; omega
            case measure => simp [intOf]; omega
          · go_wp2_with (first | (go_at_call 66; refine (jD_any (ri r i) _ hrr).mono ?_; rintro e w4 ⟨rfl, hk4⟩; replace HXr := Hid.mk (HXr.out.kept hk4 (by simp)); replace HWr := Hid.mk (refr_kept HWr.out hk4 (by simp) (by simp)); replace Hkr := Hid.mk (Hkr.out.trans hk4); clear hk4; obtain ⟨c0, c1, fz⟩ := cells_two HWr.out.1; obtain ⟨x0, xz⟩ := cells_one HXr.out.1; have f1 := fz 1; clear fz) | (go_at_call 63; refine (Hp.out _).mono ?_; rintro e w5 ⟨rfl, rfl⟩))
            go_ret2
            rw [show (t : Int) + (i : Int) + 1 = ((t + i + 1 : Nat) : Int) by omega]
            obtain ⟨p1, p2, p3⟩ := rgetD_fin HXr.out HWr.out Hkr.out (t + i + 1) (ri r i) hrr
            exact ⟨_, _, t + i + 1, ri r i, rfl, p1, p2, p3, i, Hones.out, by have := Hs.out; omega, by have := HM.out; omega, .inr (.inl ⟨by have := Hs.out; omega, by have := HM.out; omega, hb1, by have := HSs.out; have := HP.out; omega, by omega, rfl, rfl, rfl⟩)⟩
        · have hb0 : nextN l (t + i) 1 = 0 := by omega
          rw [hb0] at hcell
          go_wp2_with (first | (go_at_call 66; refine (jD_any (ri r i) _ hrr).mono ?_; rintro e w4 ⟨rfl, hk4⟩; replace HXr := Hid.mk (HXr.out.kept hk4 (by simp)); replace HWr := Hid.mk (refr_kept HWr.out hk4 (by simp) (by simp)); replace Hkr := Hid.mk (Hkr.out.trans hk4); clear hk4; obtain ⟨c0, c1, fz⟩ := cells_two HWr.out.1; obtain ⟨x0, xz⟩ := cells_one HXr.out.1; have f1 := fz 1; clear fz) | (go_at_call 63; refine (Hp.out _).mono ?_; rintro e w5 ⟨rfl, rfl⟩))
          clear hcell
          have hJi : (0 : Int) ≤ (J (ri r i) : Int) := by omega
          have hwr : IntKind.i64.wrap ((t : Int) + (i : Int) + 1 + (J (ri r i) : Int)) = (t : Int) + (i : Int) + 1 + (J (ri r i) : Int) := by rw [IntKind.wrap_i64]; omega
          by_cases hover : (M : Int) < (t : Int) + (i : Int) + 1 + (J (ri r i) : Int)
          · go_region_held3 (fun w' => w'.cell? ⟨B, 0, none⟩ = some (Value.slice (some ⟨g, 0, none⟩) M cap)) (first | exact c0 | exact d0 | go_keep) (first | (go_at_call 66; refine (jD_any (ri r i) _ hrr).mono ?_; rintro e w6 ⟨rfl, hk6⟩; replace HXr := Hid.mk (HXr.out.kept hk6.undrew (by simp)); replace HWr := Hid.mk (refr_kept HWr.out hk6.undrew (by simp) (by simp)); replace Hkr := Hid.mk (Hkr.out.trans hk6.undrew); obtain ⟨d0, d1, fz⟩ := cells_two HWr.out.1; obtain ⟨y0, yz⟩ := cells_one HXr.out.1; have e1 := fz 1; clear fz))
            go_wp2_with fail
            go_ret2
            exact ⟨_, _, t, r, rfl, HWr.out, HXr.out, kept0 Hkr.out, i, Hones.out, by have := Hs.out; omega, by have := HM.out; omega, .inr (.inr (.inr (.inl ⟨by have := Hs.out; omega, rfl, rfl, rfl, rfl, .inr ⟨by have := HM.out; omega, hb0, by have := HM.out; omega⟩⟩)))⟩
          · go_region_held3 (fun w' => w'.cell? ⟨B, 0, none⟩ = some (Value.slice (some ⟨g, 0, none⟩) M cap)) (first | exact c0 | exact d0 | go_keep) (first | (go_at_call 66; refine (jD_any (ri r i) _ hrr).mono ?_; rintro e w6 ⟨rfl, hk6⟩; replace HXr := Hid.mk (HXr.out.kept hk6.undrew (by simp)); replace HWr := Hid.mk (refr_kept HWr.out hk6.undrew (by simp) (by simp)); replace Hkr := Hid.mk (Hkr.out.trans hk6.undrew); obtain ⟨d0, d1, fz⟩ := cells_two HWr.out.1; obtain ⟨y0, yz⟩ := cells_one HXr.out.1; have e1 := fz 1; clear fz))
            go_wp2_with fail
            have hnx := num2_bits l (t + i + 1) (J (ri r i)) (by have := HM.out; omega)
            obtain ⟨L, hL⟩ : ∃ L : Int, ((num2 (bitsAt l (t + i + 1) (J (ri r i))) : Nat) : Int) = L := ⟨_, rfl⟩
            have HL : Hid (L = (nextN l (t + i + 1) (J (ri r i)) : Int)) := by rw [← hL, hnx]; exact Hid.mk rfl
            have L0 : 0 ≤ L := by omega
            have L1 : L < P := by have := nextN_lt l (t + i + 1) (J (ri r i)); have := HL.out; have := HP.out; omega
            clear hnx
            have q0 : (0 : Int) ≤ (t : Int) + (i : Int) + 1 := by omega
            have q1 : (t : Int) + (i : Int) + 1 ≤ (t : Int) + (i : Int) + 1 + (J (ri r i) : Int) := by omega
            have q2 : (t : Int) + (i : Int) + 1 + (J (ri r i) : Int) ≤ (cap : Int) := by omega
            have htn : ((t : Int) + (i : Int) + 1).toNat = t + i + 1 := by omega
            by_cases hcq : cap = t + i + 1
            · have hJ0 : J (ri r i) = 0 := by omega
              have he : (t : Int) + (i : Int) + 1 = (cap : Int) := by omega
              have Hcq := Hid.mk hcq
              have Hov := Hid.mk hover
              have hcq0 : (cap : Int) ≤ 9223372036854775807 := by omega
              have hw1 : IntKind.i64.wrap (cap : Int) = (cap : Int) := by rw [IntKind.wrap_i64]; omega
              have q5 : (0 : Int) ≤ (cap : Int) := by omega
              have Hhe := Hid.mk he
              rw [he]
              clear hwr q0 q1 q2 htn hover hcq he
              go_region_held3 (fun w' => w'.cell? ⟨B, 0, none⟩ = some (Value.slice (some ⟨g, 0, none⟩) M cap)) (first | exact d0 | go_keep) (first | (go_at_call 66; refine (jD_any (ri r i) _ hrr).mono ?_; rw [hJ0]; rintro e w6 ⟨rfl, hk6⟩; replace HXr := Hid.mk (HXr.out.kept hk6.undrew (by simp)); replace HWr := Hid.mk (refr_kept HWr.out hk6.undrew (by simp) (by simp)); replace Hkr := Hid.mk (Hkr.out.trans hk6.undrew); clear hk6; obtain ⟨d0, d1, fz⟩ := cells_two HWr.out.1; obtain ⟨y0, yz⟩ := cells_one HXr.out.1; have e1 := fz 1; clear fz) | (go_at_call 65; refine (numberD_any _ _ _ (bitsAt l (t + i + 1) (J (ri r i))) _ ?_ (bitsAt_lt _ _ _) ?_ ?_).mono ?_; exact .inl (List.eq_nil_of_length_eq_zero (by rw [bitsAt_length]; omega)); (first | (rw [bitsAt_length]; omega) | exact bitsAt_length _ _ _); omega; (rw [hL]; rintro e w7 ⟨rfl, rfl⟩)))
              by_cases hform : room - (s : Int) ≤ L
              · go_wp2_with fail
                go_ret2
                exact ⟨_, _, t, r, rfl, HWr.out, HXr.out, kept0 Hkr.out, i, Hones.out, by have := Hs.out; omega, by have := HM.out; omega, .inr (.inr (.inr (.inr ⟨by have := Hs.out; omega, by have := HM.out; omega, rfl, rfl, rfl, rfl, hb0, by have := HM.out; omega, by have := Hs.out; have := HL.out; omega⟩)))⟩
              · go_wp2_with fail
                refine (jD_any (ri r i) _ hrr).mono ?_
                rintro e w8 ⟨rfl, hk8⟩
                replace HXr := Hid.mk (HXr.out.kept hk8 (by simp))
                replace HWr := Hid.mk (refr_kept HWr.out hk8 (by simp) (by simp))
                replace Hkr := Hid.mk (Hkr.out.trans hk8)
                clear hk8
                obtain ⟨m0, m1, fz⟩ := cells_two HWr.out.1
                obtain ⟨n0, nz⟩ := cells_one HXr.out.1
                have fm := fz 1
                clear fz
                go_wp2_with fail
                go_ret2
                have he := Hhe.out
                rw [show (cap : Int) = ((t + i + 1 + J (ri r i) : Nat) : Int) by omega, show max ((ri r i : Int) - 1) 0 = ((ri r i - 1 : Nat) : Int) by omega]
                obtain ⟨p1, p2, p3⟩ := rgetD_fin HXr.out HWr.out Hkr.out (t + i + 1 + J (ri r i)) (ri r i - 1) (by omega)
                exact ⟨_, _, t + i + 1 + J (ri r i), ri r i - 1, rfl, p1, p2, p3, i, Hones.out, by have := Hs.out; omega, by have := HM.out; omega, .inr (.inr (.inl ⟨by have := Hs.out; omega, by have := HM.out; omega, hb0, by have := HM.out; omega, by have := Hs.out; have := HL.out; omega, by have := Hs.out; have := HL.out; omega, rfl, rfl, rfl⟩))⟩
            · skip
              go_region_held3 (fun w' => w'.cell? ⟨B, 0, none⟩ = some (Value.slice (some ⟨g, 0, none⟩) M cap)) (first | exact d0 | go_keep) (first | (go_at_call 66; refine (jD_any (ri r i) _ hrr).mono ?_; rintro e w6 ⟨rfl, hk6⟩; replace HXr := Hid.mk (HXr.out.kept hk6.undrew (by simp)); replace HWr := Hid.mk (refr_kept HWr.out hk6.undrew (by simp) (by simp)); replace Hkr := Hid.mk (Hkr.out.trans hk6.undrew); clear hk6; obtain ⟨d0, d1, fz⟩ := cells_two HWr.out.1; obtain ⟨y0, yz⟩ := cells_one HXr.out.1; have e1 := fz 1; clear fz) | (go_at_call 65; refine (numberD_any _ _ _ (bitsAt l (t + i + 1) (J (ri r i))) _ ?_ (bitsAt_lt _ _ _) ?_ ?_).mono ?_; exact refr_readsM HWr.out HM.out (t + i + 1) _ (by omega); (first | (rw [bitsAt_length]; omega) | exact bitsAt_length _ _ _); omega; (rw [hL]; rintro e w7 ⟨rfl, rfl⟩)))
              by_cases hform : room - (s : Int) ≤ L
              · go_wp2_with fail
                go_ret2
                exact ⟨_, _, t, r, rfl, HWr.out, HXr.out, kept0 Hkr.out, i, Hones.out, by have := Hs.out; omega, by have := HM.out; omega, .inr (.inr (.inr (.inr ⟨by have := Hs.out; omega, by have := HM.out; omega, rfl, rfl, rfl, rfl, hb0, by have := HM.out; omega, by have := Hs.out; have := HL.out; omega⟩)))⟩
              · go_wp2_with fail
                refine (jD_any (ri r i) _ hrr).mono ?_
                rintro e w8 ⟨rfl, hk8⟩
                replace HXr := Hid.mk (HXr.out.kept hk8 (by simp))
                replace HWr := Hid.mk (refr_kept HWr.out hk8 (by simp) (by simp))
                replace Hkr := Hid.mk (Hkr.out.trans hk8)
                clear hk8
                obtain ⟨m0, m1, fz⟩ := cells_two HWr.out.1
                obtain ⟨n0, nz⟩ := cells_one HXr.out.1
                have fm := fz 1
                clear fz
                go_wp2_with fail
                go_ret2
                rw [show (t : Int) + (i : Int) + 1 + (J (ri r i) : Int) = ((t + i + 1 + J (ri r i) : Nat) : Int) by omega, show max ((ri r i : Int) - 1) 0 = ((ri r i - 1 : Nat) : Int) by omega]
                obtain ⟨p1, p2, p3⟩ := rgetD_fin HXr.out HWr.out Hkr.out (t + i + 1 + J (ri r i)) (ri r i - 1) (by omega)
                exact ⟨_, _, t + i + 1 + J (ri r i), ri r i - 1, rfl, p1, p2, p3, i, Hones.out, by have := Hs.out; omega, by have := HM.out; omega, .inr (.inr (.inl ⟨by have := Hs.out; omega, by have := HM.out; omega, hb0, by have := HM.out; omega, by have := Hs.out; have := HL.out; omega, by have := Hs.out; have := HL.out; omega, rfl, rfl, rfl⟩))⟩
end Go.Proofs.YthhcihcgefeblaaDoor
