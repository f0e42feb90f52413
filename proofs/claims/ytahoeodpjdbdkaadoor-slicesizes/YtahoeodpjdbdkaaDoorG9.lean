import Derived.Test.YtahoeodpjdbdkaaDoorG8
namespace Go.Proofs.YtahoeodpjdbdkaaDoor
open Go.RowKit

set_option maxHeartbeats 1000000 in
set_option maxRecDepth 100000 in
/-- How many samples more a run has that ends ahead of its room's end. -/
theorem short_any (X B g : Nat) (l : List Nat) (t r : Nat) (left : Int) (w : World) (hx : CoderAt w X r) (hw : ReaderAt w B g l t) (hT : Tab w) :
    Calls Tryd.prog 93 #[.pointer (some ⟨X, 0, none⟩), .pointer (some ⟨B, 0, none⟩), .int .i64 left] w fun e w' => ∃ (Y E : Int) (t' r' : Nat), e = .returned (.tuple #[.int .i64 Y, .int .i64 E]) ∧ ReaderAt w' B g l t' ∧ CoderAt w' X r' ∧ Kept [X, B] w w' ∧
      ((t + J r ≤ 8 * l.length ∧ (nextN l t (J r) : Int) < left ∧ Y = (nextN l t (J r) : Int) ∧ E = 0 ∧ t' = t + J r ∧ r' = r - 1) ∨
       (t + J r ≤ 8 * l.length ∧ left ≤ (nextN l t (J r) : Int) ∧ Y = 0 ∧ E = 24) ∨ (8 * l.length < t + J r ∧ Y = 0 ∧ E = 23)) := by
  have hXB : X ≠ B := by
    rintro rfl
    have h1 := hw.1
    rw [hx.1] at h1
    simp at h1
  have hXg : X ≠ g := by
    rintro rfl
    have h1 := hw.2.1
    rw [hx.1] at h1
    simp at h1
  obtain ⟨c0, f0⟩ := cells_one hx.1
  have hr := hx.2
  have hj := hT r (by omega)
  have j12 := J_le r
  obtain ⟨Y, E, t', hg⟩ := getRes_ex l t (J r)
  have HG := Hid.mk (fun w hw => get_res B g l t (J r : Int) Y E t' w hw (by omega) (by omega) (by rw [Int.toNat_natCast]; exact hg))
  have HW := Hid.mk hw
  have HX := Hid.mk hx
  clear hw hx hT
  rcases hg with ⟨h2, rfl, rfl, rfl⟩ | ⟨h2, rfl, rfl, rfl⟩
  · have hu := next_u32 l t (J r) (by omega)
    by_cases hq : left ≤ (nextN l t (J r) : Int)
    · go_enter Tryd.func93, Tryd.ntmps93
      go_wp2_with (go_at_call 35; refine (HG.out _ HW.out).mono ?_; rintro e w1 ⟨rfl, hr1, hk1⟩)
      go_ret2
      exact ⟨_, _, _, _, rfl, hr1, HX.out.kept hk1 (by simpa using hXB), hk1.mono (by simp), .inr (.inl ⟨h2, hq, rfl, rfl⟩)⟩
    · go_enter Tryd.func93, Tryd.ntmps93
      go_wp2_with (first
        | (go_at_call 35; refine (HG.out _ HW.out).mono ?_; rintro e w1 ⟨rfl, hr1, hk1⟩; have HR1 := Hid.mk hr1; have HK1 := Hid.mk hk1; clear hr1 hk1)
        | (go_at_call 87; refine (fall_any X r _ (HX.out.kept HK1.out (by simpa using hXB))).mono ?_; rintro e w2 ⟨rfl, hc2, hk2⟩))
      go_ret2
      exact ⟨_, _, _, _, rfl, reader_kept HR1.out hk2 (by simpa using hXB.symm) (by simpa using hXg.symm), hc2, (HK1.out.mono (by simp)).step hk2 (by simp), .inl ⟨h2, by omega, rfl, rfl, rfl, rfl⟩⟩
  · go_enter Tryd.func93, Tryd.ntmps93
    go_wp2_with (go_at_call 35; refine (HG.out _ HW.out).mono ?_; rintro e w1 ⟨rfl, hr1, hk1⟩)
    go_ret2
    exact ⟨_, _, _, _, rfl, hr1, HX.out.kept hk1 (by simpa using hXB), hk1.mono (by simp), .inr (.inr ⟨h2, rfl, rfl⟩)⟩
end Go.Proofs.YtahoeodpjdbdkaaDoor
