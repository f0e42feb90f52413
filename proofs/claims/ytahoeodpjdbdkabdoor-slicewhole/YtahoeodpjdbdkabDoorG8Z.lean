import Derived.Test.YtahoeodpjdbdkabDoorG6Z
namespace Go.Proofs.YtahoeodpjdbdkabDoor
open Go.RowKit

theorem shr_nat (a : Nat) (k : Int) : (a : Int) / 2 ^ k.toNat = ((a / 2 ^ k.toNat : Nat) : Int) := by rw [pow_two_int, Int.natCast_ediv]
theorem shl_nat (a : Nat) (k : Int) : (a : Int) * 2 ^ k.toNat = ((a * 2 ^ k.toNat : Nat) : Int) := by rw [pow_two_int, Int.natCast_mul]

theorem pos_shr (x wide : Int) (h : ((2 ^ wide.toNat : Nat) : Int) ≤ x) : 0 < x / 2 ^ wide.toNat := by
  rw [pow_two_int]
  have hp : (0 : Int) < ((2 ^ wide.toNat : Nat) : Int) := by have := Nat.two_pow_pos wide.toNat; omega
  have := Int.le_ediv_of_mul_le hp (show 1 * ((2 ^ wide.toNat : Nat) : Int) ≤ x by omega)
  omega

set_option maxHeartbeats 1000000 in
set_option maxRecDepth 100000 in
/-- What stands behind the noughts of a long form. -/
theorem long_any (B g : Nat) (l : List Nat) (t : Nat) (k wide : Int) (w : World) (hw : ReaderAt w B g l t) (k0 : 0 ≤ k) (k1 : k ≤ 15) (w0 : 1 ≤ wide) (w1 : wide ≤ 16) :
    Calls Tryd.prog 94 #[.pointer (some ⟨B, 0, none⟩), .int .i64 k, .int .i64 wide] w fun e w' => ∃ (X E : Int) (t' : Nat), e = .returned (.tuple #[.int .i64 X, .int .i64 E]) ∧ ReaderAt w' B g l t' ∧ Kept [B] w w' ∧
      ((t + wide.toNat ≤ 8 * l.length ∧ 24 ≤ nextN l t wide.toNat / 2 ^ k.toNat ∧ X = (nextN l t wide.toNat : Int) ∧ E = 0 ∧ t' = t + wide.toNat) ∨
       (t + wide.toNat ≤ 8 * l.length ∧ nextN l t wide.toNat / 2 ^ k.toNat < 24 ∧ X = 0 ∧ E = 24) ∨ (8 * l.length < t + wide.toNat ∧ X = 0 ∧ E = 23)) := by
  obtain ⟨Y, E, t', hg⟩ := getRes_ex l t wide.toNat
  have HG := Hid.mk (fun w hw => get_res B g l t wide Y E t' w hw (by omega) (by omega) hg)
  have HW := Hid.mk hw
  clear hw
  rcases hg with ⟨h2, rfl, rfl, rfl⟩ | ⟨h2, rfl, rfl, rfl⟩
  · have hu := next_u32 l t wide.toNat (by omega)
    by_cases hq : nextN l t wide.toNat / 2 ^ k.toNat < 24
    · have hq' : (nextN l t wide.toNat : Int) / 2 ^ k.toNat < 24 := by rw [shr_nat]; omega
      have Hq := Hid.mk hq
      clear hq
      go_enter Tryd.func94, Tryd.ntmps94
      go_wp2_with (go_at_call 34; refine (HG.out _ HW.out).mono ?_; rintro e w1 ⟨rfl, hr1, hk1⟩)
      go_ret2
      exact ⟨_, _, _, rfl, hr1, hk1, .inr (.inl ⟨h2, Hq.out, rfl, rfl⟩)⟩
    · have hq' : ¬ (nextN l t wide.toNat : Int) / 2 ^ k.toNat < 24 := by rw [shr_nat]; omega
      have Hq := Hid.mk hq
      clear hq
      go_enter Tryd.func94, Tryd.ntmps94
      go_wp2_with (go_at_call 34; refine (HG.out _ HW.out).mono ?_; rintro e w1 ⟨rfl, hr1, hk1⟩)
      go_ret2
      exact ⟨_, _, _, rfl, hr1, hk1, .inl ⟨h2, by have := Hq.out; omega, rfl, rfl, rfl⟩⟩
  · go_enter Tryd.func94, Tryd.ntmps94
    go_wp2_with (go_at_call 34; refine (HG.out _ HW.out).mono ?_; rintro e w1 ⟨rfl, hr1, hk1⟩)
    go_ret2
    exact ⟨_, _, _, rfl, hr1, hk1, .inr (.inr ⟨h2, rfl, rfl⟩)⟩

theorem zeros_cases {l : List Nat} {t : Nat} {Z E : Int} {t' : Nat} (h : ZerosRes l t 24 Z E t') :
    (∃ u : Nat, u < 24 ∧ t + u < 8 * l.length ∧ (∀ i, i < u → nextN l (t + i) 1 = 0) ∧ nextN l (t + u) 1 = 1 ∧ Z = (u : Int) ∧ E = 0 ∧ t' = t + u + 1) ∨
    (t + 24 ≤ 8 * l.length ∧ (∀ i, i < 24 → nextN l (t + i) 1 = 0) ∧ Z = 24 ∧ E = 0 ∧ t' = t + 24) ∨
    (8 * l.length < t + 24 ∧ (∀ i, t + i < 8 * l.length → nextN l (t + i) 1 = 0) ∧ Z = 0 ∧ E = 13 ∧ t' = t) := h

set_option maxHeartbeats 2000000 in
set_option maxRecDepth 100000 in
theorem form_any (B g : Nat) (l : List Nat) (t : Nat) (k wide : Int) (w : World) (hw : ReaderAt w B g l t) (k0 : 0 ≤ k) (k1 : k ≤ 15) (w0 : 1 ≤ wide) (w1 : wide ≤ 16) :
    Calls Tryd.prog 82 #[.pointer (some ⟨B, 0, none⟩), .int .i64 k, .int .i64 wide] w fun e w' => ∃ (X E : Int) (t' t2 : Nat), e = .returned (.tuple #[.int .i64 X, .int .i64 E]) ∧ ReaderAt w' B g l t' ∧ Kept [B] w w' ∧
      NumRes l t k.toNat wide.toNat X E t2 ∧ (E = 0 → t2 = t') := by
  obtain ⟨Z, E, t', hzr, HC⟩ := zeros_res l t 24 hw.2.2.2.1 (by decide) (by decide)
  rcases zeros_cases hzr with ⟨u, hu, hul, hz, ho, rfl, rfl, rfl⟩ | ⟨hl, hz, rfl, rfl, rfl⟩ | ⟨hl, hz, rfl, rfl, rfl⟩
  · obtain ⟨Y, E, t', hg⟩ := getRes_ex l (t + u + 1) k.toNat
    have HG := Hid.mk (fun w hw => get_res B g l (t + u + 1) k Y E t' w hw (by omega) (by omega) hg)
    have HC := Hid.mk HC
    have HW := Hid.mk hw
    have Hz := Hid.mk hz
    have Ho := Hid.mk ho
    clear hw hz ho
    have hne : ¬ ((u : Int) = 24) := by omega
    rcases hg with ⟨h2, rfl, rfl, rfl⟩ | ⟨h2, rfl, rfl, rfl⟩
    · have hlow := nextN_lt l (t + u + 1) k.toNat
      have hpk : 2 ^ k.toNat ≤ 32768 := by
        have : 2 ^ k.toNat ≤ 2 ^ 15 := Nat.pow_le_pow_right (by decide) (by omega)
        exact this
      have hum : u * 2 ^ k.toNat ≤ 24 * 32768 := Nat.mul_le_mul (by omega) hpk
      obtain ⟨M, hM⟩ : ∃ M : Int, (u : Int) * 2 ^ k.toNat = M := ⟨_, rfl⟩
      have hM2 : M = ((u * 2 ^ k.toNat : Nat) : Int) := by rw [← hM, shl_nat]
      have M0 : 0 ≤ M := by omega
      have M1 : M ≤ 786432 := by omega
      have y1 : (nextN l (t + u + 1) k.toNat : Int) ≤ 32768 := by omega
      by_cases hv : u * 2 ^ k.toNat + nextN l (t + u + 1) k.toNat < 2 ^ wide.toNat
      · have hv' : (M + (nextN l (t + u + 1) k.toNat : Int)) / 2 ^ wide.toNat = 0 := by
          rw [pow_two_int]; exact Int.ediv_eq_zero_of_lt (by omega) (by omega)
        have Hv := Hid.mk hv
        have HM := Hid.mk hM2
        clear hv hlow hpk hum hM2
        go_enter Tryd.func82, Tryd.ntmps82
        go_wp2_with (first
          | (go_at_call 93; refine (HC.out B g _ HW.out).mono ?_; rintro e w1 ⟨rfl, hr1, hk1⟩)
          | (go_at_call 34; refine (HG.out _ hr1).mono ?_; rintro e w2 ⟨rfl, hr2, hk2⟩))
        go_ret2
        refine ⟨_, _, _, _, rfl, hr2, hk1.trans hk2, .inl ⟨u, hu, Hz.out, Ho.out, by omega, Hv.out, ?_, rfl, rfl⟩, fun _ => rfl⟩
        rw [HM.out]; omega
      · have hv' : 0 < (M + (nextN l (t + u + 1) k.toNat : Int)) / 2 ^ wide.toNat := pos_shr _ _ (by omega)
        have Hv := Hid.mk hv
        clear hv hlow hpk hum hM2
        go_enter Tryd.func82, Tryd.ntmps82
        go_wp2_with (first
          | (go_at_call 93; refine (HC.out B g _ HW.out).mono ?_; rintro e w1 ⟨rfl, hr1, hk1⟩)
          | (go_at_call 34; refine (HG.out _ hr1).mono ?_; rintro e w2 ⟨rfl, hr2, hk2⟩))
        go_ret2
        exact ⟨_, _, _, _, rfl, hr2, hk1.trans hk2, .inr (.inr (.inr ⟨rfl, rfl, rfl, .inl ⟨u, hu, Hz.out, Ho.out, by omega, by have := Hv.out; omega⟩⟩)), fun h => by cases h⟩
    · go_enter Tryd.func82, Tryd.ntmps82
      go_wp2_with (first
        | (go_at_call 93; refine (HC.out B g _ HW.out).mono ?_; rintro e w1 ⟨rfl, hr1, hk1⟩)
        | (go_at_call 34; refine (HG.out _ hr1).mono ?_; rintro e w2 ⟨rfl, hr2, hk2⟩))
      go_ret2
      exact ⟨_, _, _, _, rfl, hr2, hk1.trans hk2, .inr (.inr (.inl ⟨rfl, rfl, rfl, .inl ⟨u, hu, Hz.out, Ho.out, by omega, by omega⟩⟩)), fun h => by cases h⟩
  · have HC := Hid.mk HC
    have HW := Hid.mk hw
    have Hz := Hid.mk hz
    have HL := Hid.mk (fun w hw => long_any B g l (t + 24) k wide w hw k0 k1 w0 w1)
    clear hw hz
    go_enter Tryd.func82, Tryd.ntmps82
    go_wp2_with (go_at_call 93; refine (HC.out B g _ HW.out).mono ?_; rintro e w1 ⟨rfl, hr1, hk1⟩)
    refine (HL.out _ hr1).mono ?_
    rintro e w2 ⟨X, E, t', rfl, hr2, hk2, hres⟩
    go_wp2_with fail
    go_ret2
    rcases hres with ⟨h1, h2, rfl, rfl, rfl⟩ | ⟨h1, h2, rfl, rfl⟩ | ⟨h1, rfl, rfl⟩
    · exact ⟨_, _, _, _, rfl, hr2, hk1.trans hk2, .inr (.inl ⟨Hz.out, by omega, h2, rfl, rfl, rfl⟩), fun _ => rfl⟩
    · exact ⟨_, _, _, _, rfl, hr2, hk1.trans hk2, .inr (.inr (.inr ⟨rfl, rfl, rfl, .inr ⟨Hz.out, by omega, h2⟩⟩)), fun h => by cases h⟩
    · exact ⟨_, _, _, _, rfl, hr2, hk1.trans hk2, .inr (.inr (.inl ⟨rfl, rfl, rfl, .inr (.inl ⟨Hz.out, by omega, by omega⟩)⟩)), fun h => by cases h⟩
  · have HC := Hid.mk HC
    have HW := Hid.mk hw
    have Hz := Hid.mk hz
    clear hw hz
    go_enter Tryd.func82, Tryd.ntmps82
    go_wp2_with (go_at_call 93; refine (HC.out B g _ HW.out).mono ?_; rintro e w1 ⟨rfl, hr1, hk1⟩)
    go_ret2
    exact ⟨_, _, _, _, rfl, hr1, hk1, .inr (.inr (.inl ⟨rfl, rfl, rfl, .inr (.inr ⟨by omega, Hz.out⟩)⟩)), fun h => by cases h⟩

theorem numRes_err {l : List Nat} {t k wide : Nat} {X E : Int} {t' : Nat} (h : NumRes l t k wide X E t') (hE : E ≠ 0) : X = 0 ∧ t' = t := by
  rcases h with ⟨_, _, _, _, _, _, _, h, _⟩ | ⟨_, _, _, _, h, _⟩ | ⟨h1, h2, _⟩ | ⟨h1, h2, _⟩
  · exact absurd h hE
  · exact absurd h hE
  · exact ⟨h1, h2⟩
  · exact ⟨h1, h2⟩

/-- What the copy of a reader is. -/
theorem reader_at {w : World} {B A g : Nat} {l : List Nat} {t : Nat} (h : ReaderAt w B g l t) (h2 : w.heap[A]? = some (.cells #[.slice (some ⟨g, 0, none⟩) l.length l.length, .int .i64 (t : Int)] 95 (0, 0))) : ReaderAt w A g l t := ⟨h2, h.2⟩

set_option maxHeartbeats 2000000 in
set_option maxRecDepth 100000 in
theorem gget_any (B g : Nat) (l : List Nat) (t : Nat) (k wide : Int) (w : World) (hw : ReaderAt w B g l t) (k0 : 0 ≤ k) (k1 : k ≤ 15) (w0 : 1 ≤ wide) (w1 : wide ≤ 16) :
    Calls Tryd.prog 55 #[.pointer (some ⟨B, 0, none⟩), .int .i64 k, .int .i64 wide] w fun e w' => ∃ (X E : Int) (t' : Nat), e = .returned (.tuple #[.int .i64 X, .int .i64 E]) ∧ ReaderAt w' B g l t' ∧ Kept [B] w w' ∧
      NumRes l t k.toNat wide.toNat X E t' := by
  obtain ⟨c0, c1, fz⟩ := cells_two hw.1
  have f0 := fz 0
  have f1 := fz 1
  have HW := Hid.mk hw
  have hBl := lt_of_block hw.1
  clear hw fz
  go_enter Tryd.func55, Tryd.ntmps55
  go_wp2_with (go_at_call 81; refine (formed_ok k wide _ k0 k1 w0 w1).mono ?_; rintro e w' ⟨rfl, rfl⟩)
  have hra : ReaderAt (w'.alloc (.cells #[.slice (some ⟨g, 0, none⟩) l.length l.length, .int .i64 (t : Int)] 95)) w'.heap.size g l t := ⟨by rw [heap_alloc_new], by rw [Below.heap_alloc _ _ _ (lt_of_block HW.out.2.1)]; exact HW.out.2.1, HW.out.2.2⟩
  refine (form_any w'.heap.size g l t k wide _ hra k0 k1 w0 w1).mono ?_
  rintro e w2 ⟨X, E, t', t2, rfl, hr2, hk2, hres, hE⟩
  have hK : Kept [] w' w2 := ((Kept.refl _ _).alloc _).step hk2 (by simp)
  have hB2 := hK.heap HW.out.1 (by simp)
  obtain ⟨a0, a1, _⟩ := cells_two hr2.1
  obtain ⟨d0, d1, fz⟩ := cells_two hB2
  have g0 := fz 0
  have g1 := fz 1
  have HR2 := Hid.mk hr2
  have HK := Hid.mk hK
  have HB2 := Hid.mk hB2
  have HE := Hid.mk hE
  have Hres := Hid.mk hres
  have hne : w'.heap.size ≠ B := by omega
  clear hr2 hk2 hK hB2 fz hra hE hres c0 c1 f0 f1
  by_cases hE0 : E = 0
  · subst hE0
    go_wp2_with fail
    go_ret2
    obtain rfl := HE.out (by simp)
    refine ⟨_, _, _, rfl, ⟨?_, ?_, HR2.out.2.2⟩, ((HK.out.mono (l2 := [B]) (by simp)).setCell (by simp) _).setCell (by simp) _, Hres.out⟩
    · rw [heap_setCell_at (heap_setCell_at HB2.out)]; simp
    · have hgb : g ≠ B := by
        rintro rfl
        have h1 := HW.out.2.1
        rw [HW.out.1] at h1
        simp at h1
      rw [Below.heap_setCell _ _ _ _ hgb, Below.heap_setCell _ _ _ _ hgb]
      exact HR2.out.2.1
  · go_wp2_with fail
    go_ret2
    obtain ⟨rfl, rfl⟩ := numRes_err Hres.out hE0
    exact ⟨_, _, _, rfl, reader_kept HW.out HK.out (by simp) (by simp), HK.out.mono (by simp), Hres.out⟩
end Go.Proofs.YtahoeodpjdbdkabDoor

namespace Go.Proofs.YtahoeodpjdbdkabDoor
open Go.RowKit

set_option maxHeartbeats 1000000 in
set_option maxRecDepth 100000 in
/-- How many samples more a run has that ends ahead of its room's end. -/
theorem short_any (X B g : Nat) (l : List Nat) (t r : Nat) (left : Int) (w : World) (hx : CoderAt w X r) (hw : ReaderAt w B g l t) (hT : Tab w) :
    Calls Tryd.prog 92 #[.pointer (some ⟨X, 0, none⟩), .pointer (some ⟨B, 0, none⟩), .int .i64 left] w fun e w' => ∃ (Y E : Int) (t' r' : Nat), e = .returned (.tuple #[.int .i64 Y, .int .i64 E]) ∧ ReaderAt w' B g l t' ∧ CoderAt w' X r' ∧ Kept [X, B] w w' ∧
      ((t + J r ≤ 8 * l.length ∧ (nextN l t (J r) : Int) < left ∧ Y = (nextN l t (J r) : Int) ∧ E = 0 ∧ t' = t + J r ∧ r' = r - 1) ∨
       (t + J r ≤ 8 * l.length ∧ left ≤ (nextN l t (J r) : Int) ∧ Y = 0 ∧ E = 24) ∨ (8 * l.length < t + J r ∧ Y = 0 ∧ E = 23)) := by
  have hXB : X ≠ B := by
    rintro rfl
    have h1 := hw.1
    rw [hx.1] at h1
    simp at h1
  have hXg : X ≠ g := by
    rintro rfl
    have h1 := hw.2.1
    rw [hx.1] at h1
    simp at h1
  obtain ⟨c0, f0⟩ := cells_one hx.1
  have hr := hx.2
  have hj := hT r (by omega)
  have j12 := J_le r
  obtain ⟨Y, E, t', hg⟩ := getRes_ex l t (J r)
  have HG := Hid.mk (fun w hw => get_res B g l t (J r : Int) Y E t' w hw (by omega) (by omega) (by rw [Int.toNat_natCast]; exact hg))
  have HW := Hid.mk hw
  have HX := Hid.mk hx
  clear hw hx hT
  rcases hg with ⟨h2, rfl, rfl, rfl⟩ | ⟨h2, rfl, rfl, rfl⟩
  · have hu := next_u32 l t (J r) (by omega)
    by_cases hq : left ≤ (nextN l t (J r) : Int)
    · go_enter Tryd.func92, Tryd.ntmps92
      go_wp2_with (go_at_call 34; refine (HG.out _ HW.out).mono ?_; rintro e w1 ⟨rfl, hr1, hk1⟩)
      go_ret2
      exact ⟨_, _, _, _, rfl, hr1, HX.out.kept hk1 (by simpa using hXB), hk1.mono (by simp), .inr (.inl ⟨h2, hq, rfl, rfl⟩)⟩
    · go_enter Tryd.func92, Tryd.ntmps92
      go_wp2_with (first
        | (go_at_call 34; refine (HG.out _ HW.out).mono ?_; rintro e w1 ⟨rfl, hr1, hk1⟩; have HR1 := Hid.mk hr1; have HK1 := Hid.mk hk1; clear hr1 hk1)
        | (go_at_call 86; refine (fall_any X r _ (HX.out.kept HK1.out (by simpa using hXB))).mono ?_; rintro e w2 ⟨rfl, hc2, hk2⟩))
      go_ret2
      exact ⟨_, _, _, _, rfl, reader_kept HR1.out hk2 (by simpa using hXB.symm) (by simpa using hXg.symm), hc2, (HK1.out.mono (by simp)).step hk2 (by simp), .inl ⟨h2, by omega, rfl, rfl, rfl, rfl⟩⟩
  · go_enter Tryd.func92, Tryd.ntmps92
    go_wp2_with (go_at_call 34; refine (HG.out _ HW.out).mono ?_; rintro e w1 ⟨rfl, hr1, hk1⟩)
    go_ret2
    exact ⟨_, _, _, _, rfl, hr1, HX.out.kept hk1 (by simpa using hXB), hk1.mono (by simp), .inr (.inr ⟨h2, rfl, rfl⟩)⟩
end Go.Proofs.YtahoeodpjdbdkabDoor
