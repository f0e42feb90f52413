import Derived.Test.YtknkjhfemgiiaaaDoorTi
namespace Go.Proofs.YtknkjhfemgiiaaaDoor
open Go.RowKit Go.Lib

/-- The rates' words. -/
def rwd : Nat → ByteArray
  | 0 => ⟨#[]⟩
  | 1 => ⟨#[50, 52]⟩
  | 2 => ⟨#[50, 53]⟩
  | 3 => ⟨#[51, 48]⟩
  | 4 => ⟨#[51, 48, 100]⟩
  | 5 => ⟨#[53, 48]⟩
  | 6 => ⟨#[54, 48]⟩
  | 7 => ⟨#[54, 48, 100]⟩
  | _ => ⟨#[]⟩
def rtF : Nat → Nat → ByteArray → Option Nat
  | 0, _, _ => none
  | f + 1, j, s => if rwd j = s then some j else rtF f (j + 1) s
/-- They lie in the table. -/
def Wt (w : World) : Prop := ∀ j, j < 8 → w.cell? ⟨0, j, none⟩ = some (.string (rwd j))
def rtR (R : Option Nat) (X : Rr) (pl : Int) : Int × Rr := match R with
  | some j => ((j : Int), X)
  | none => (0, rf X pl 193)
def rtq (X : Rr) : Int × Rr := rtR (rtF 8 0 (nx X 0).1.sy) (nx X 0).2 (nx X 0).1.pl
theorem tabix0 (u : World) : (Instr.index 97 (.agg #[.string ⟨#[]⟩, .string ⟨#[50, 52]⟩, .string ⟨#[50, 53]⟩, .string ⟨#[51, 48]⟩, .string ⟨#[51, 48, 100]⟩, .string ⟨#[53, 48]⟩, .string ⟨#[54, 48]⟩, .string ⟨#[54, 48, 100]⟩]) (.int .i64 0)).run Tryd.prog u = .ok (.string ⟨#[]⟩) u := by kernel_rfl
theorem tabix1 (u : World) : (Instr.index 97 (.agg #[.string ⟨#[]⟩, .string ⟨#[50, 52]⟩, .string ⟨#[50, 53]⟩, .string ⟨#[51, 48]⟩, .string ⟨#[51, 48, 100]⟩, .string ⟨#[53, 48]⟩, .string ⟨#[54, 48]⟩, .string ⟨#[54, 48, 100]⟩]) (.int .i64 1)).run Tryd.prog u = .ok (.string ⟨#[50, 52]⟩) u := by kernel_rfl
theorem tabix2 (u : World) : (Instr.index 97 (.agg #[.string ⟨#[]⟩, .string ⟨#[50, 52]⟩, .string ⟨#[50, 53]⟩, .string ⟨#[51, 48]⟩, .string ⟨#[51, 48, 100]⟩, .string ⟨#[53, 48]⟩, .string ⟨#[54, 48]⟩, .string ⟨#[54, 48, 100]⟩]) (.int .i64 2)).run Tryd.prog u = .ok (.string ⟨#[50, 53]⟩) u := by kernel_rfl
theorem tabix3 (u : World) : (Instr.index 97 (.agg #[.string ⟨#[]⟩, .string ⟨#[50, 52]⟩, .string ⟨#[50, 53]⟩, .string ⟨#[51, 48]⟩, .string ⟨#[51, 48, 100]⟩, .string ⟨#[53, 48]⟩, .string ⟨#[54, 48]⟩, .string ⟨#[54, 48, 100]⟩]) (.int .i64 3)).run Tryd.prog u = .ok (.string ⟨#[51, 48]⟩) u := by kernel_rfl
theorem tabix4 (u : World) : (Instr.index 97 (.agg #[.string ⟨#[]⟩, .string ⟨#[50, 52]⟩, .string ⟨#[50, 53]⟩, .string ⟨#[51, 48]⟩, .string ⟨#[51, 48, 100]⟩, .string ⟨#[53, 48]⟩, .string ⟨#[54, 48]⟩, .string ⟨#[54, 48, 100]⟩]) (.int .i64 4)).run Tryd.prog u = .ok (.string ⟨#[51, 48, 100]⟩) u := by kernel_rfl
theorem tabix5 (u : World) : (Instr.index 97 (.agg #[.string ⟨#[]⟩, .string ⟨#[50, 52]⟩, .string ⟨#[50, 53]⟩, .string ⟨#[51, 48]⟩, .string ⟨#[51, 48, 100]⟩, .string ⟨#[53, 48]⟩, .string ⟨#[54, 48]⟩, .string ⟨#[54, 48, 100]⟩]) (.int .i64 5)).run Tryd.prog u = .ok (.string ⟨#[53, 48]⟩) u := by kernel_rfl
theorem tabix6 (u : World) : (Instr.index 97 (.agg #[.string ⟨#[]⟩, .string ⟨#[50, 52]⟩, .string ⟨#[50, 53]⟩, .string ⟨#[51, 48]⟩, .string ⟨#[51, 48, 100]⟩, .string ⟨#[53, 48]⟩, .string ⟨#[54, 48]⟩, .string ⟨#[54, 48, 100]⟩]) (.int .i64 6)).run Tryd.prog u = .ok (.string ⟨#[54, 48]⟩) u := by kernel_rfl
theorem tabix7 (u : World) : (Instr.index 97 (.agg #[.string ⟨#[]⟩, .string ⟨#[50, 52]⟩, .string ⟨#[50, 53]⟩, .string ⟨#[51, 48]⟩, .string ⟨#[51, 48, 100]⟩, .string ⟨#[53, 48]⟩, .string ⟨#[54, 48]⟩, .string ⟨#[54, 48, 100]⟩]) (.int .i64 7)).run Tryd.prog u = .ok (.string ⟨#[54, 48, 100]⟩) u := by kernel_rfl
theorem lit_ne (l : List UInt8) (s : ByteArray) (h : ¬ (⟨l.toArray⟩ : ByteArray) = s) : (l == s.toList) = false := by
  rw [ByteArray.toList_eq, Bool.eq_false_iff]
  intro he
  have he2 : l = s.data.toList := by simpa using he
  obtain ⟨⟨t⟩⟩ := s
  simp at he2
  exact h (by rw [he2])
theorem not_empty (s : ByteArray) (h : ¬ (⟨#[]⟩ : ByteArray) = s) : s.toList.isEmpty = false := by
  rw [ByteArray.toList_eq, Bool.eq_false_iff]
  intro he
  rw [List.isEmpty_iff] at he
  obtain ⟨⟨l⟩⟩ := s
  simp at he
  exact h (by rw [he])
set_option maxHeartbeats 8000000 in
set_option maxRecDepth 1000000 in
theorem rate_any (q : Nat) (w w0 : World) (X : Rr) (h : RP q w0 w X) (hT : Wt w0) (hq : 0 ≠ q) : Calls Tryd.prog 31 #[.pointer (some ⟨q, 0, none⟩)] w fun e w' => e = .returned (.int .i64 (rtq X).1) ∧ RP q w0 w' (rtq X).2 := by
  have CN := Hid.mk (next_any q 0 w w0 X h)
  unfold rtq
  unfold NxP at CN
  generalize hx : nx X 0 = R at *
  obtain ⟨⟨kd, pl, sy⟩, X1⟩ := R
  simp only at CN ⊢
  have TB : Hid (∀ u, Kept [q] w0 u → Wt u) := Hid.mk (fun u hu i hi => cell_keep hu (hT i hi) (by simpa using hq))
  obtain ⟨R, eR⟩ : ∃ R, rtF 8 0 sy = R := ⟨_, rfl⟩
  rw [eR]
  have ER := Hid.mk eR
  clear h hx hT hq eR
  go_enter Tryd.func31, Tryd.ntmps31
  go_wp2_with (fail)
  refine CN.out.mono ?_
  rintro e w1 ⟨rfl, h1⟩
  unfold wv
  obtain ⟨w2, e2, h2, k2, b2⟩ := word_new q w0 w1 X1 ⟨kd, pl, sy⟩ h1
  obtain ⟨c0, c1, c2⟩ := word_cells b2
  have HP := Hid.mk h2
  have HB := Hid.mk b2
  simp only at c0 c1 c2 e2
  have hW := TB.out w2 (by obtain ⟨_, _, _, _, k⟩ := h2; exact k)
  have t0 : w2.cell? ⟨0, 0, none⟩ = some (.string ⟨#[]⟩) := hW 0 (by decide)
  have t1 : w2.cell? ⟨0, 1, none⟩ = some (.string ⟨#[50, 52]⟩) := hW 1 (by decide)
  have t2 : w2.cell? ⟨0, 2, none⟩ = some (.string ⟨#[50, 53]⟩) := hW 2 (by decide)
  have t3 : w2.cell? ⟨0, 3, none⟩ = some (.string ⟨#[51, 48]⟩) := hW 3 (by decide)
  have t4 : w2.cell? ⟨0, 4, none⟩ = some (.string ⟨#[51, 48, 100]⟩) := hW 4 (by decide)
  have t5 : w2.cell? ⟨0, 5, none⟩ = some (.string ⟨#[53, 48]⟩) := hW 5 (by decide)
  have t6 : w2.cell? ⟨0, 6, none⟩ = some (.string ⟨#[54, 48]⟩) := hW 6 (by decide)
  have t7 : w2.cell? ⟨0, 7, none⟩ = some (.string ⟨#[54, 48, 100]⟩) := hW 7 (by decide)
  clear h1 h2 k2 b2 CN hW TB
  go_wp2_with (fail)
  clear t0 t1 t2 t3 t4 t5 t6 t7
  go_loopw [4, 5, 9] (fun _ _ v wr => ∃ (j : Nat) (z : Int), v = .int .i64 z ∧ z = (j : Int) ∧ j ≤ 8 ∧ rtF (8 - j) j sy = R ∧ wr = w2) (fun _ _ v _ => 8 - (intOf v).toNat)
  case atStart => exact ⟨0, 0, rfl, rfl, by omega, ER.out, rfl⟩
  case round =>
    obtain ⟨j, z, rfl, hz, hj8, hF, rfl⟩ := hrel
    have hj : j = 0 ∨ j = 1 ∨ j = 2 ∨ j = 3 ∨ j = 4 ∨ j = 5 ∨ j = 6 ∨ j = 7 ∨ j = 8 := by omega
    rcases hj with rfl | rfl | rfl | rfl | rfl | rfl | rfl | rfl | rfl
    · obtain rfl : z = 0 := by simpa using hz
      clear hz
      rw [show rtF (8 - 0) 0 sy = if (⟨#[]⟩ : ByteArray) = sy then some 0 else rtF 7 1 sy from rfl] at hF
      have hix := tabix0
      by_cases hs : (⟨#[]⟩ : ByteArray) = sy
      · rw [if_pos hs] at hF
        have HR := Hid.mk hF
        subst hs
        clear hF
        go_wp2
        go_ret
        rw [← HR.out]
        exact ⟨rfl, HP.out⟩
      · rw [if_neg hs] at hF
        have hem := not_empty sy hs
        have HF := Hid.mk hF
        clear hF
        go_wp2
        exact ⟨⟨1, 1, rfl, rfl, by decide, HF.out, trivial⟩, by simp [intOf]⟩
    · obtain rfl : z = 1 := by simpa using hz
      clear hz
      rw [show rtF (8 - 1) 1 sy = if (⟨#[50, 52]⟩ : ByteArray) = sy then some 1 else rtF 6 2 sy from rfl] at hF
      have hix := tabix1
      by_cases hs : (⟨#[50, 52]⟩ : ByteArray) = sy
      · rw [if_pos hs] at hF
        have HR := Hid.mk hF
        subst hs
        clear hF
        go_wp2
        go_ret
        rw [← HR.out]
        exact ⟨rfl, HP.out⟩
      · rw [if_neg hs] at hF
        have hem := lit_ne [50, 52] sy hs
        have HF := Hid.mk hF
        clear hF
        go_wp2
        exact ⟨⟨2, 2, rfl, rfl, by decide, HF.out, trivial⟩, by simp [intOf]⟩
    · obtain rfl : z = 2 := by simpa using hz
      clear hz
      rw [show rtF (8 - 2) 2 sy = if (⟨#[50, 53]⟩ : ByteArray) = sy then some 2 else rtF 5 3 sy from rfl] at hF
      have hix := tabix2
      by_cases hs : (⟨#[50, 53]⟩ : ByteArray) = sy
      · rw [if_pos hs] at hF
        have HR := Hid.mk hF
        subst hs
        clear hF
        go_wp2
        go_ret
        rw [← HR.out]
        exact ⟨rfl, HP.out⟩
      · rw [if_neg hs] at hF
        have hem := lit_ne [50, 53] sy hs
        have HF := Hid.mk hF
        clear hF
        go_wp2
        exact ⟨⟨3, 3, rfl, rfl, by decide, HF.out, trivial⟩, by simp [intOf]⟩
    · obtain rfl : z = 3 := by simpa using hz
      clear hz
      rw [show rtF (8 - 3) 3 sy = if (⟨#[51, 48]⟩ : ByteArray) = sy then some 3 else rtF 4 4 sy from rfl] at hF
      have hix := tabix3
      by_cases hs : (⟨#[51, 48]⟩ : ByteArray) = sy
      · rw [if_pos hs] at hF
        have HR := Hid.mk hF
        subst hs
        clear hF
        go_wp2
        go_ret
        rw [← HR.out]
        exact ⟨rfl, HP.out⟩
      · rw [if_neg hs] at hF
        have hem := lit_ne [51, 48] sy hs
        have HF := Hid.mk hF
        clear hF
        go_wp2
        exact ⟨⟨4, 4, rfl, rfl, by decide, HF.out, trivial⟩, by simp [intOf]⟩
    · obtain rfl : z = 4 := by simpa using hz
      clear hz
      rw [show rtF (8 - 4) 4 sy = if (⟨#[51, 48, 100]⟩ : ByteArray) = sy then some 4 else rtF 3 5 sy from rfl] at hF
      have hix := tabix4
      by_cases hs : (⟨#[51, 48, 100]⟩ : ByteArray) = sy
      · rw [if_pos hs] at hF
        have HR := Hid.mk hF
        subst hs
        clear hF
        go_wp2
        go_ret
        rw [← HR.out]
        exact ⟨rfl, HP.out⟩
      · rw [if_neg hs] at hF
        have hem := lit_ne [51, 48, 100] sy hs
        have HF := Hid.mk hF
        clear hF
        go_wp2
        exact ⟨⟨5, 5, rfl, rfl, by decide, HF.out, trivial⟩, by simp [intOf]⟩
    · obtain rfl : z = 5 := by simpa using hz
      clear hz
      rw [show rtF (8 - 5) 5 sy = if (⟨#[53, 48]⟩ : ByteArray) = sy then some 5 else rtF 2 6 sy from rfl] at hF
      have hix := tabix5
      by_cases hs : (⟨#[53, 48]⟩ : ByteArray) = sy
      · rw [if_pos hs] at hF
        have HR := Hid.mk hF
        subst hs
        clear hF
        go_wp2
        go_ret
        rw [← HR.out]
        exact ⟨rfl, HP.out⟩
      · rw [if_neg hs] at hF
        have hem := lit_ne [53, 48] sy hs
        have HF := Hid.mk hF
        clear hF
        go_wp2
        exact ⟨⟨6, 6, rfl, rfl, by decide, HF.out, trivial⟩, by simp [intOf]⟩
    · obtain rfl : z = 6 := by simpa using hz
      clear hz
      rw [show rtF (8 - 6) 6 sy = if (⟨#[54, 48]⟩ : ByteArray) = sy then some 6 else rtF 1 7 sy from rfl] at hF
      have hix := tabix6
      by_cases hs : (⟨#[54, 48]⟩ : ByteArray) = sy
      · rw [if_pos hs] at hF
        have HR := Hid.mk hF
        subst hs
        clear hF
        go_wp2
        go_ret
        rw [← HR.out]
        exact ⟨rfl, HP.out⟩
      · rw [if_neg hs] at hF
        have hem := lit_ne [54, 48] sy hs
        have HF := Hid.mk hF
        clear hF
        go_wp2
        exact ⟨⟨7, 7, rfl, rfl, by decide, HF.out, trivial⟩, by simp [intOf]⟩
    · obtain rfl : z = 7 := by simpa using hz
      clear hz
      rw [show rtF (8 - 7) 7 sy = if (⟨#[54, 48, 100]⟩ : ByteArray) = sy then some 7 else rtF 0 8 sy from rfl] at hF
      have hix := tabix7
      by_cases hs : (⟨#[54, 48, 100]⟩ : ByteArray) = sy
      · rw [if_pos hs] at hF
        have HR := Hid.mk hF
        subst hs
        clear hF
        go_wp2
        go_ret
        rw [← HR.out]
        exact ⟨rfl, HP.out⟩
      · rw [if_neg hs] at hF
        have hem := lit_ne [54, 48, 100] sy hs
        have HF := Hid.mk hF
        clear hF
        go_wp2
        exact ⟨⟨8, 8, rfl, rfl, by decide, HF.out, trivial⟩, by simp [intOf]⟩
    · obtain rfl : z = 8 := by simpa using hz
      clear hz
      have HR : Hid (R = none) := Hid.mk (by rw [← hF]; rfl)
      have CR := Hid.mk (refuse_rp q pl 193 _ _ X1 HP.out.refl)
      clear hF
      go_wp2_with (fail)
      refine CR.out.mono ?_
      rintro e w3 ⟨rfl, h3⟩
      have H3 := Hid.mk (HP.out.trans h3)
      clear h3
      go_wp2
      go_ret
      rw [HR.out]
      exact ⟨rfl, H3.out⟩

def lsq (X : Rr) : Rr := match X.ws with
  | [] => X
  | x :: _ => rf X x.pl 193
set_option maxHeartbeats 4000000 in
set_option maxRecDepth 1000000 in
theorem last_any (q : Nat) (w w0 : World) (X : Rr) (h : RP q w0 w X) : Calls Tryd.prog 33 #[.pointer (some ⟨q, 0, none⟩)] w fun e w' => e = .returned (.tuple #[]) ∧ RP q w0 w' (lsq X) := by
  obtain ⟨ws, en, er⟩ := X
  have HP := Hid.mk h
  obtain ⟨a, c, ev, hr, hk⟩ := h
  obtain ⟨c0, -, -⟩ := hr.cells
  cases ws with
  | nil =>
    clear hr hk
    go_enter Tryd.func33, Tryd.ntmps33
    go_wp2
    go_end0
    exact ⟨rfl, HP.out⟩
  | cons x t =>
    obtain ⟨g, o, rfl, d0, d1, d2, -⟩ := hr.wd.head
    have CR := Hid.mk (refuse_rp q x.pl 193 w w0 _ HP.out)
    have hcm := hr.cm
    clear hr hk d0 d2
    go_enter Tryd.func33, Tryd.ntmps33
    go_wp2_with (fail)
    refine CR.out.mono ?_
    rintro e w3 ⟨rfl, h3⟩
    go_wp2
    go_end0
    exact ⟨rfl, h3⟩
end Go.Proofs.YtknkjhfemgiiaaaDoor
