import Derived.Test.YthhcihcgefeblaaDoorF3
import Derived.Deep.RegionHeldLaw
namespace Go.Proofs.YthhcihcgefeblaaDoor
open Go.RowKit

/-- Both sides have the same. -/
structure Alike (s : Wo) : Prop where
  c01 : s.c 0 = s.c 1
  c23 : s.c 2 = s.c 3
  c45 : s.c 4 = s.c 5
  N : ∀ i, s.N 0 i = s.N 1 i
  len : ∀ i, s.len 0 i = s.len 1 i
  l : ∀ i, s.l 2 i = s.l 3 i
  t : ∀ i, s.t 2 i = s.t 3 i
  r : ∀ i, s.r 4 i = s.r 5 i

/-- Bounds. -/
structure Small (s : Wo) (b : Nat) : Prop where
  c : ∀ k, s.c k ≤ 100000000
  len : ∀ i, s.len 0 i ≤ b
  l : ∀ i, (s.l 2 i).length ≤ 10000000

/-- What is asked of a writer, on both sides. -/
theorem ends_both (N len : Nat) (hl : len ≤ 1000000000) : ∃ (D : Int) (M : Nat) (Tx : ByteArray),
    (∀ (B : Nat) (V : Value) (w : World), WriterAt w B V N len → Calls Tryd.prog 22 #[.pointer (some ⟨B, 0, none⟩)] w fun e w' => e = .returned (.int .i64 D) ∧ Kept [] w w') ∧
    (∀ (B : Nat) (V : Value) (w : World), RefW w B V (bin len N) → Calls Tryd.prog 47 #[.pointer (some ⟨B, 0, none⟩)] w fun e w' => e = .returned (.int .i64 D) ∧ Kept [] w w') ∧
    (∀ (B : Nat) (V : Value) (w : World), WriterAt w B V N len → Calls Tryd.prog 24 #[.pointer (some ⟨B, 0, none⟩)] w fun e w' => ∃ ao cp, e = .returned (.slice ao M cp) ∧ (∀ w'', Kept [] w' w'' → Sem.run Tryd.prog (convert 34 9 (.slice ao M cp)) w'' = .ok (.string Tx) w'') ∧ Kept [] w w') ∧
    (∀ (B : Nat) (V : Value) (w : World), RefW w B V (bin len N) → Calls Tryd.prog 48 #[.pointer (some ⟨B, 0, none⟩)] w fun e w' => ∃ ao cp, e = .returned (.slice ao M cp) ∧ (∀ w'', Kept [] w' w'' → Sem.run Tryd.prog (convert 34 9 (.slice ao M cp)) w'' = .ok (.string Tx) w'') ∧ Kept [] w w') := by
  have key : ∀ (w' w'' : World) (ao : Option Addr) (cp : Nat), Reads w' ao (big ((len + 7) / 8) (N * 2 ^ (8 * ((len + 7) / 8) - len))) → Kept [] w' w'' → Sem.run Tryd.prog (convert 34 9 (.slice ao ((len + 7) / 8) cp)) w'' = .ok (.string (bstr (big ((len + 7) / 8) (N * 2 ^ (8 * ((len + 7) / 8) - len))))) w'' := fun w' w'' ao cp hr hk => by
    have h := reads_str (hr.keep hk) cp
    rw [big_length] at h
    exact h
  refine ⟨(len : Int), (len + 7) / 8, bstr (big ((len + 7) / 8) (N * 2 ^ (8 * ((len + 7) / 8) - len))), fun B V w h => ?_, fun B V w h => ?_, fun B V w h => ?_, fun B V w h => ?_⟩
  · refine (len_any B V N len w h (by have : (2 : Nat) ^ 60 = 1152921504606846976 := by decide
                                      omega)).mono ?_
    rintro e w' ⟨rfl, q, rfl⟩
    exact ⟨rfl, (Kept.refl _ _).drewN q⟩
  · refine (refLen_any B V _ w h).mono ?_
    rintro e w' ⟨rfl, rfl⟩
    rw [bin_length]
    exact ⟨rfl, Kept.refl _ _⟩
  · refine (bytes_any B V N len w h (by have : (2 : Nat) ^ 50 = 1125899906842624 := by decide
                                        omega)).mono ?_
    rintro e w' ⟨rfl, hh, hk⟩
    refine ⟨_, _, rfl, fun w'' hk2 => key w' w'' _ _ ?_ hk2, hk⟩
    refine .inr ⟨w.heap.size, 0, rfl, fun i hi => ?_⟩
    rw [cell_of_row _ _ _ _ _ _ hh]
    simp [hi]
  · refine (refBytes_any B V N len _ w h rfl (by omega)).mono ?_
    rintro e w' ⟨V', rfl, ho, hk⟩
    obtain ⟨ao, cp, rfl⟩ := row_form ho
    exact ⟨ao, cp, rfl, fun w'' hk2 => key w' w'' _ _ (reads_row ho) hk2, hk⟩

theorem leftK (B g : Nat) (l : List Nat) (t : Nat) (w : World) (hw : ReaderAt w B g l t) : Calls Tryd.prog 49 #[.pointer (some ⟨B, 0, none⟩)] w fun e w' => e = .returned (.int .i64 (8 * (l.length : Int) - (t : Int))) ∧ Kept [] w w' := by
  refine (left_any B g l t w hw).mono ?_
  rintro e w' ⟨rfl, q, rfl⟩
  exact ⟨rfl, (Kept.refl _ _).drewN q⟩
theorem refLeftK (B : Nat) (V : Value) (l : List Nat) (t : Nat) (w : World) (hw : RefR w B V l t ∧ t ≤ 8 * l.length) (hl : l.length ≤ 10000000) : Calls Tryd.prog 50 #[.pointer (some ⟨B, 0, none⟩)] w fun e w' => e = .returned (.int .i64 (8 * (l.length : Int) - (t : Int))) ∧ Kept [] w w' := by
  refine (refLeft_any B V l t w hw.1 hw.2 (by omega)).mono ?_
  rintro e w' ⟨rfl, q, rfl⟩
  exact ⟨rfl, (Kept.refl _ _).drewN q⟩
theorem rateK (X r : Nat) (w : World) (hx : CoderAt w X r) : Calls Tryd.prog 31 #[.pointer (some ⟨X, 0, none⟩)] w fun e w' => e = .returned (.int .i64 (r : Int)) ∧ Kept [] w w' := by
  refine (rate_any X r w hx).mono ?_
  rintro e w' ⟨rfl, rfl⟩
  exact ⟨rfl, Kept.refl _ _⟩
theorem refRateK (X r : Nat) (w : World) (hx : RefX w X r) : Calls Tryd.prog 51 #[.pointer (some ⟨X, 0, none⟩)] w fun e w' => e = .returned (.int .i64 (r : Int)) ∧ Kept [] w w' := by
  refine (refRate_any X r w hx).mono ?_
  rintro e w' ⟨rfl, rfl⟩
  exact ⟨rfl, Kept.refl _ _⟩

set_option maxHeartbeats 16000000 in
set_option maxRecDepth 1000000 in
theorem same_any (W w : World) (A : Nat) (s : Wo) (b : Nat) (h : At W w A s) (ha : Alike s) (hs : Small s b) (hb : b ≤ 1000000000) :
    Calls Tryd.prog 14 #[.pointer (some ⟨A, 0, none⟩)] w fun e w' => e = .returned (.bool true) ∧ Kept [] w w' := by
  have Ha := Hid.mk ha
  have Hs := Hid.mk hs
  have Hh := Hid.mk h
  have k0 := h.cells.1 0 (by omega)
  obtain ⟨a0, p0, e0⟩ := h.form 0 (by omega)
  rw [e0] at k0
  have n0 := hs.c 0
  clear h ha hs
  go_enter Tryd.func14, Tryd.ntmps14
  go_wp2_with fail
  go_loopw [3] (fun i wr => ∃ j : Nat, j ≤ s.c 0 ∧ i = .int .i64 (j : Int) ∧ At W wr A s ∧ Kept [] w wr) (fun i _ => s.c 0 - (intOf i).toNat)
  case atStart => exact ⟨0, Nat.zero_le _, rfl, Hh.out, Kept.refl _ _⟩
  case round =>
    obtain ⟨j, hj, rfl, hA, hkr⟩ := hrel
    clear k0
    by_cases hlt : j < s.c 0
    · have hlt1 : j < s.c 1 := by have := Ha.out.c01; omega
      have k0 := hA.cells.1 0 (by omega)
      have k1 := hA.cells.1 1 (by omega)
      obtain ⟨G0, p0, e0, g0⟩ := hA.ptr 0 j (by omega) hlt
      obtain ⟨G1, p1, e1, g1⟩ := hA.ptr 1 j (by omega) hlt1
      obtain ⟨D, M, Tx, b22, b47, b24, b48⟩ := ends_both (s.N 0 j) (s.len 0 j) (Nat.le_trans (Hs.out.len j) hb)
      have H22 := Hid.mk b22
      have H47 := Hid.mk b47
      have H24 := Hid.mk b24
      have H48 := Hid.mk b48
      have HR : Hid (∀ w', At W w' A s → RefW w' (s.B 1 j) (s.V 1 j) (bin (s.len 0 j) (s.N 0 j))) := Hid.mk (fun w' h' => by rw [Ha.out.N, Ha.out.len]; exact h'.rw_ j hlt1)
      have HE : Hid (∀ w', At W w' A s → w'.cell? ⟨A, 0, none⟩ = some (.slice (some ⟨G0, 0, none⟩) (s.c 0) p0) ∧ w'.cell? ⟨A, 1, none⟩ = some (.slice (some ⟨G1, 0, none⟩) (s.c 1) p1) ∧ w'.cell? ⟨G0, j, none⟩ = some (.pointer (some ⟨s.B 0 j, 0, none⟩)) ∧ w'.cell? ⟨G1, j, none⟩ = some (.pointer (some ⟨s.B 1 j, 0, none⟩))) := Hid.mk (fun w' h' => by
        obtain ⟨G0', p0', f0, g0'⟩ := h'.ptr 0 j (by omega) hlt
        obtain ⟨G1', p1', f1, g1'⟩ := h'.ptr 1 j (by omega) hlt1
        rw [e0] at f0
        rw [e1] at f1
        simp at f0 f1
        obtain ⟨rfl, rfl⟩ := f0
        obtain ⟨rfl, rfl⟩ := f1
        exact ⟨by rw [← e0]; exact h'.cells.1 0 (by omega), by rw [← e1]; exact h'.cells.1 1 (by omega), g0', g1'⟩)
      rw [e0] at k0
      rw [e1] at k1
      have HA := Hid.mk hA
      have HA2 := Hid.mk (hA.keep ((Kept.refl _ _).drew))
      have Hkr := Hid.mk hkr
      obtain ⟨z0, z1, z2, z3⟩ := HE.out _ HA2.out
      have c1n : s.c 1 ≤ 100000000 := Hs.out.c 1
      have jj0 : (0 : Int) ≤ (j : Int) := by omega
      have jj1 : (j : Int) < (s.c 0 : Int) := by omega
      have jj2 : (j : Int) < (s.c 1 : Int) := by omega
      clear hA hkr e0 e1 b22 b47 b24 b48
      go_wp2_with fail
      go_region_held_law (fun w' => w'.cell? ⟨A, 0, none⟩ = some (.slice (some ⟨G0, 0, none⟩) (s.c 0) p0) ∧ w'.cell? ⟨A, 1, none⟩ = some (.slice (some ⟨G1, 0, none⟩) (s.c 1) p1) ∧ w'.cell? ⟨G0, j, none⟩ = some (.pointer (some ⟨s.B 0 j, 0, none⟩)) ∧ w'.cell? ⟨G1, j, none⟩ = some (.pointer (some ⟨s.B 1 j, 0, none⟩))) (first | exact ⟨z0, z1, z2, z3⟩ | exact HE.out _ HA8.out | exact HE.out _ HA7.out | exact HE.out _ HA6.out | exact HE.out _ HA5.out | assumption) (first | (go_at_call 22; refine (H22.out _ _ _ (HA2.out.wr j hlt)).mono ?_; rintro e w5 ⟨rfl, hk5⟩; have HA5 := Hid.mk (HA2.out.keep hk5)) | (go_at_call 47; refine (H47.out _ _ _ (HR.out _ HA5.out)).mono ?_; rintro e w6 ⟨rfl, hk6⟩; have HA6 := Hid.mk (HA5.out.keep hk6)) | (go_at_call 24; refine (H24.out _ _ _ (HA6.out.wr j hlt)).mono ?_; rintro e w7 ⟨ao7, cp7, rfl, hcv7, hk7⟩; have HA7 := Hid.mk (HA6.out.keep hk7); have v7 := hcv7 w7 (Kept.refl _ _)) | (go_at_call 48; refine (H48.out _ _ _ (HR.out _ HA7.out)).mono ?_; rintro e w8 ⟨ao8, cp8, rfl, hcv8, hk8⟩; have HA8 := Hid.mk (HA7.out.keep hk8); have v8 := hcv7 w8 hk8; have u8 := hcv8 w8 (Kept.refl _ _)))
      all_goals go_wp2
      all_goals go_roundw
      all_goals first
        | exact ⟨j + 1, by omega, by go_num, HA8.out, Hkr.out.trans (hk5.undrew.trans (hk6.trans (hk7.trans hk8)))⟩
        | (simp [intOf]; omega)
    · have hA0 := hA
      have k2 := hA.cells.1 2 (by omega)
      obtain ⟨a2, p2, e2⟩ := hA.form 2 (by omega)
      rw [e2] at k2
      have k0 := hA.cells.1 0 (by omega)
      rw [e0] at k0
      have n2 := Hs.out.c 2
      have HA := Hid.mk hA
      have Hkr := Hid.mk hkr
      clear hA hkr hA0
      go_wp2_with fail
      go_loopw [4] (fun i wr => ∃ j : Nat, j ≤ s.c 2 ∧ i = .int .i64 (j : Int) ∧ At W wr A s ∧ Kept [] w wr) (fun i _ => s.c 2 - (intOf i).toNat)
      case atStart => exact ⟨0, Nat.zero_le _, rfl, HA.out, Hkr.out⟩
      case round =>
        clear HA Hkr k0 k2
        obtain ⟨j, hj, rfl, hA, hkr⟩ := hrel
        by_cases hlt : j < s.c 2
        · skip
          have hlt1 : j < s.c 3 := by have := Ha.out.c23; omega
          obtain ⟨G0, p0, e0, g0⟩ := hA.ptr 2 j (by omega) hlt
          obtain ⟨G1, p1, e1, g1⟩ := hA.ptr 3 j (by omega) hlt1
          have HE : Hid (∀ w', At W w' A s → w'.cell? ⟨A, 2, none⟩ = some (.slice (some ⟨G0, 0, none⟩) (s.c 2) p0) ∧ w'.cell? ⟨A, 3, none⟩ = some (.slice (some ⟨G1, 0, none⟩) (s.c 3) p1) ∧ w'.cell? ⟨G0, j, none⟩ = some (.pointer (some ⟨s.B 2 j, 0, none⟩)) ∧ w'.cell? ⟨G1, j, none⟩ = some (.pointer (some ⟨s.B 3 j, 0, none⟩))) := Hid.mk (fun w' h' => by
            obtain ⟨G0', p0', f0, g0'⟩ := h'.ptr 2 j (by omega) hlt
            obtain ⟨G1', p1', f1, g1'⟩ := h'.ptr 3 j (by omega) hlt1
            rw [e0] at f0
            rw [e1] at f1
            simp at f0 f1
            obtain ⟨rfl, rfl⟩ := f0
            obtain ⟨rfl, rfl⟩ := f1
            exact ⟨by rw [← e0]; exact h'.cells.1 2 (by omega), by rw [← e1]; exact h'.cells.1 3 (by omega), g0', g1'⟩)
          have HR3 : Hid (∀ w', At W w' A s → RefR w' (s.B 3 j) (s.V 3 j) (s.l 2 j) (s.t 2 j) ∧ s.t 2 j ≤ 8 * (s.l 2 j).length) := Hid.mk (fun w' h' => by rw [Ha.out.l, Ha.out.t]; exact h'.rr j hlt1)
          have HA := Hid.mk hA
          have HA2 := Hid.mk (hA.keep ((Kept.refl _ _).drew))
          have Hkr := Hid.mk hkr
          obtain ⟨k0, _⟩ := HE.out _ HA.out
          obtain ⟨z0, z1, z2, z3⟩ := HE.out _ HA2.out
          have c1n : s.c 3 ≤ 100000000 := Hs.out.c 3
          have jj0 : (0 : Int) ≤ (j : Int) := by omega
          have jj1 : (j : Int) < (s.c 2 : Int) := by omega
          have jj2 : (j : Int) < (s.c 3 : Int) := by omega
          clear hA hkr e0 e1 g0 g1
          go_wp2_with fail
          go_region_held_law (fun w' => w'.cell? ⟨A, 2, none⟩ = some (.slice (some ⟨G0, 0, none⟩) (s.c 2) p0) ∧ w'.cell? ⟨A, 3, none⟩ = some (.slice (some ⟨G1, 0, none⟩) (s.c 3) p1) ∧ w'.cell? ⟨G0, j, none⟩ = some (.pointer (some ⟨s.B 2 j, 0, none⟩)) ∧ w'.cell? ⟨G1, j, none⟩ = some (.pointer (some ⟨s.B 3 j, 0, none⟩))) (first | exact ⟨z0, z1, z2, z3⟩ | exact HE.out _ HA6.out | exact HE.out _ HA5.out | assumption) (first | (go_at_call 49; refine (leftK (s.B 2 j) (s.g j) (s.l 2 j) (s.t 2 j) _ (HA2.out.rd j hlt)).mono ?_; rintro e w5 ⟨rfl, hk5⟩; have HA5 := Hid.mk (HA2.out.keep hk5)) | (go_at_call 50; refine (refLeftK (s.B 3 j) (s.V 3 j) (s.l 2 j) (s.t 2 j) _ (HR3.out _ HA5.out) (Hs.out.l j)).mono ?_; rintro e w6 ⟨rfl, hk6⟩; have HA6 := Hid.mk (HA5.out.keep hk6)))
          all_goals go_wp2
          all_goals go_roundw
          case rel => exact ⟨j + 1, by omega, by go_num, HA6.out, Hkr.out.trans (hk5.undrew.trans hk6)⟩
          case measure => simp [intOf]; omega
        · have k4 := hA.cells.1 4 (by omega)
          obtain ⟨a4, p4, e4⟩ := hA.form 4 (by omega)
          rw [e4] at k4
          have k2 := hA.cells.1 2 (by omega)
          rw [e2] at k2
          have n4 := Hs.out.c 4
          have HA := Hid.mk hA
          have Hkr := Hid.mk hkr
          clear hA hkr
          go_wp2_with fail
          go_loopw [5] (fun i wr => ∃ j : Nat, j ≤ s.c 4 ∧ i = .int .i64 (j : Int) ∧ At W wr A s ∧ Kept [] w wr) (fun i _ => s.c 4 - (intOf i).toNat)
          case atStart => exact ⟨0, Nat.zero_le _, rfl, HA.out, Hkr.out⟩
          case round =>
            clear HA Hkr k2 k4
            obtain ⟨j, hj, rfl, hA, hkr⟩ := hrel
            by_cases hlt : j < s.c 4
            · skip
              have hlt1 : j < s.c 5 := by have := Ha.out.c45; omega
              obtain ⟨G0, p0, e0, g0⟩ := hA.ptr 4 j (by omega) hlt
              obtain ⟨G1, p1, e1, g1⟩ := hA.ptr 5 j (by omega) hlt1
              have HE : Hid (∀ w', At W w' A s → w'.cell? ⟨A, 4, none⟩ = some (.slice (some ⟨G0, 0, none⟩) (s.c 4) p0) ∧ w'.cell? ⟨A, 5, none⟩ = some (.slice (some ⟨G1, 0, none⟩) (s.c 5) p1) ∧ w'.cell? ⟨G0, j, none⟩ = some (.pointer (some ⟨s.B 4 j, 0, none⟩)) ∧ w'.cell? ⟨G1, j, none⟩ = some (.pointer (some ⟨s.B 5 j, 0, none⟩))) := Hid.mk (fun w' h' => by
                obtain ⟨G0', p0', f0, g0'⟩ := h'.ptr 4 j (by omega) hlt
                obtain ⟨G1', p1', f1, g1'⟩ := h'.ptr 5 j (by omega) hlt1
                rw [e0] at f0
                rw [e1] at f1
                simp at f0 f1
                obtain ⟨rfl, rfl⟩ := f0
                obtain ⟨rfl, rfl⟩ := f1
                exact ⟨by rw [← e0]; exact h'.cells.1 4 (by omega), by rw [← e1]; exact h'.cells.1 5 (by omega), g0', g1'⟩)
              have HR5 : Hid (∀ w', At W w' A s → RefX w' (s.B 5 j) (s.r 4 j)) := Hid.mk (fun w' h' => by rw [Ha.out.r]; exact h'.rc j hlt1)
              have HA := Hid.mk hA
              have HA2 := Hid.mk (hA.keep ((Kept.refl _ _).drew))
              have Hkr := Hid.mk hkr
              obtain ⟨k0, _⟩ := HE.out _ HA.out
              obtain ⟨z0, z1, z2, z3⟩ := HE.out _ HA2.out
              have c1n : s.c 5 ≤ 100000000 := Hs.out.c 5
              have jj0 : (0 : Int) ≤ (j : Int) := by omega
              have jj1 : (j : Int) < (s.c 4 : Int) := by omega
              have jj2 : (j : Int) < (s.c 5 : Int) := by omega
              clear hA hkr e0 e1 g0 g1
              go_wp2_with fail
              go_region_held_law (fun w' => w'.cell? ⟨A, 4, none⟩ = some (.slice (some ⟨G0, 0, none⟩) (s.c 4) p0) ∧ w'.cell? ⟨A, 5, none⟩ = some (.slice (some ⟨G1, 0, none⟩) (s.c 5) p1) ∧ w'.cell? ⟨G0, j, none⟩ = some (.pointer (some ⟨s.B 4 j, 0, none⟩)) ∧ w'.cell? ⟨G1, j, none⟩ = some (.pointer (some ⟨s.B 5 j, 0, none⟩))) (first | exact ⟨z0, z1, z2, z3⟩ | exact HE.out _ HA6.out | exact HE.out _ HA5.out | assumption) (first | (go_at_call 31; refine (rateK (s.B 4 j) (s.r 4 j) _ (HA2.out.cd j hlt)).mono ?_; rintro e w5 ⟨rfl, hk5⟩; have HA5 := Hid.mk (HA2.out.keep hk5)) | (go_at_call 51; refine (refRateK (s.B 5 j) (s.r 4 j) _ (HR5.out _ HA5.out)).mono ?_; rintro e w6 ⟨rfl, hk6⟩; have HA6 := Hid.mk (HA5.out.keep hk6)))
              all_goals go_wp2
              all_goals go_roundw
              case rel => exact ⟨j + 1, by omega, by go_num, HA6.out, Hkr.out.trans (hk5.undrew.trans hk6)⟩
              case measure => simp [intOf]; omega
            · have k4 := hA.cells.1 4 (by omega)
              rw [e4] at k4
              have HA := Hid.mk hA
              have Hkr := Hid.mk hkr
              clear hA hkr
              go_wp2_with fail
              go_ret
              exact ⟨rfl, Hkr.out⟩
end Go.Proofs.YthhcihcgefeblaaDoor
