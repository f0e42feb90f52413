import Derived.Test.YthhcihcgefeblaaDoorX3
namespace Go.Proofs.YthhcihcgefeblaaDoor
open Go.RowKit

theorem bin_next (l : List Nat) (k : Nat) (h : k < 8 * l.length) : (bin (8 * l.length) (num l)).getD k 0 = nextN l k 1 := by
  rw [bin_getD _ _ _ h, nextN, show 8 * l.length - (k + 1) = 8 * l.length - 1 - k by omega]

theorem refr_cell {w : World} {B : Nat} {V : Value} {l : List Nat} {t : Nat} (h : RefR w B V l t) (k : Nat) (hk : k < 8 * l.length) :
    ∃ g cap, V = .slice (some ⟨g, 0, none⟩) (8 * l.length) cap ∧ w.cell? ⟨g, k, none⟩ = some (byt (nextN l k 1)) := by
  obtain ⟨g, cap, rfl⟩ := row_some h.2 (by omega)
  refine ⟨g, cap, rfl, ?_⟩
  rw [h.2.cellAt k (by omega), ← bin_next l k hk]
  simp [bin_length, hk]

theorem refr_drewN {w : World} {B : Nat} {V : Value} {l : List Nat} {t : Nat} (h : RefR w B V l t) (q : Nat) : RefR (w.drewN q) B V l t := by
  have hk := (Kept.refl [] w).drewN q
  exact ⟨hk.heap h.1 (by simp), hk.row h.2 (by simp)⟩

theorem refr_kept {w w' : World} {B : Nat} {V : Value} {l : List Nat} {t : Nat} {ks : List Nat} (h : RefR w B V l t) (hk : Kept ks w w') (h1 : B ∉ ks) (h2 : ∀ g, V.ownBlock = some g → g ∉ ks) : RefR w' B V l t :=
  ⟨hk.heap h.1 h1, hk.row h.2 h2⟩

theorem refr_set {w : World} {B : Nat} {V : Value} {l : List Nat} {t : Nat} (h : RefR w B V l t) (t' : Nat) : RefR (w.setCell ⟨B, 1, none⟩ (.int .i64 (t' : Int))) B V l t' :=
  ⟨by rw [heap_setCell_at h.1]; simp, ownsRow_setCell_other h.2 (own_ne2 h.1 (by decide) h.2) _⟩

set_option maxHeartbeats 1000000 in
theorem refLeft_any (B : Nat) (V : Value) (l : List Nat) (t : Nat) (w : World) (h : RefR w B V l t) (ht : t ≤ 8 * l.length) (hl : l.length ≤ 10000000000000) :
    Calls Tryd.prog 50 #[.pointer (some ⟨B, 0, none⟩)] w fun e w' => e = .returned (.int .i64 (8 * (l.length : Int) - (t : Int))) ∧ ∃ q, w' = w.drewN q := by
  obtain ⟨ao, cap, rfl⟩ := row_form h.2
  obtain ⟨c0, c1, _⟩ := cells_two h.1
  go_enter Tryd.func50, Tryd.ntmps50
  go_wp2_with fail
  go_quiet (fail)
  go_wp2
  go_ret
  exact ⟨ret_int (by omega), _, rfl⟩

set_option maxHeartbeats 1000000 in
theorem refGet_width (B : Nat) (n : Int) (w : World) (h : n < 0 ∨ 32 < n) :
    Calls Tryd.prog 45 #[.pointer (some ⟨B, 0, none⟩), .int .i64 n] w fun e w' => e = .returned (.tuple #[.int .u32 0, .int .i64 11]) ∧ w' = w := by
  rcases h with h | h
  · go_enter Tryd.func45, Tryd.ntmps45
    go_wp2
    go_ret2
    exact ⟨rfl, rfl⟩
  · have h' : decide (n < 0) = false := by simp; omega
    go_enter Tryd.func45, Tryd.ntmps45
    go_wp2
    go_ret2
    exact ⟨rfl, rfl⟩

set_option maxHeartbeats 1000000 in
theorem refGet_end (B : Nat) (V : Value) (l : List Nat) (t M : Nat) (n : Int) (w : World) (hw : RefR w B V l t) (hM : 8 * l.length = M) (ht : t ≤ M) (_hl : M ≤ 100000000000000) (h0 : 0 ≤ n) (h1 : n ≤ 32) (h : (M : Int) - (t : Int) < n) :
    Calls Tryd.prog 45 #[.pointer (some ⟨B, 0, none⟩), .int .i64 n] w fun e w' => e = .returned (.tuple #[.int .u32 0, .int .i64 13]) ∧ ∃ q, w' = w.drewN q := by
  obtain ⟨hw1, hw2⟩ := hw
  rw [hM] at hw2
  obtain ⟨ao, cap, rfl⟩ := row_form hw2
  obtain ⟨c0, c1, _⟩ := cells_two hw1
  have h' : decide (n < 0) = false := by simp; omega
  clear hM hw1 hw2
  go_enter Tryd.func45, Tryd.ntmps45
  go_wp2_with fail
  go_quiet (fail)
  go_wp2
  go_ret2
  exact ⟨rfl, _, rfl⟩

theorem next_step (l : List Nat) (t i : Nat) (h : t + i + 1 ≤ 8 * l.length) : nextN l t (i + 1) = nextN l t i * 2 + nextN l (t + i) 1 := by
  rw [nextN_join l t i 1 h]

set_option maxHeartbeats 2000000 in
set_option maxRecDepth 1000000 in
theorem refGet_any (B : Nat) (V : Value) (l : List Nat) (t M : Nat) (n : Int) (w : World) (hw : RefR w B V l t) (hM : 8 * l.length = M) (ht : t ≤ M) (hl : M ≤ 100000000000000) (h0 : 0 ≤ n) (h1 : n ≤ 32) (h : n ≤ (M : Int) - (t : Int)) :
    Calls Tryd.prog 45 #[.pointer (some ⟨B, 0, none⟩), .int .i64 n] w fun e w' => e = .returned (.tuple #[.int .u32 (nextN l t n.toNat : Int), .int .i64 0]) ∧ RefR w' B V l (t + n.toNat) ∧ Kept [B] w w' := by
  have Hw := Hid.mk hw
  obtain ⟨ao, cap, rfl⟩ : ∃ ao cap, V = .slice ao M cap := by rw [← hM]; exact row_form hw.2
  obtain ⟨c0, c1, fz⟩ := cells_two hw.1
  have f1 := fz 1
  have h' : decide (n < 0) = false := by simp; omega
  have HM := Hid.mk hM
  clear hM hw fz
  go_enter Tryd.func45, Tryd.ntmps45
  go_wp2_with fail
  go_quiet (fail)
  go_wp2
  go_loopw [6, 7] (fun v i wr => ∃ (j : Nat) (x : Int) (q : Nat), (j : Int) ≤ n ∧ i = .int .i64 j ∧ v = .int .u64 x ∧ x = (nextN l t j : Int) ∧ wr = w.drewN q) (fun _ i _ => n.toNat - (intOf i).toNat)
  case atStart => exact ⟨0, 0, nq, by omega, rfl, rfl, by simp [nextN, Nat.mod_one], rfl⟩
  case round =>
    obtain ⟨j, x, q, hj, rfl, rfl, hx, rfl⟩ := hrel
    have Hx := Hid.mk hx
    have hxl := nextN_lt l t j
    have hp32 : (2 : Nat) ^ j ≤ 2 ^ 32 := Nat.pow_le_pow_right (by decide) (by omega)
    have hx0 : 0 ≤ x := by omega
    have hx1 : x < 4294967296 := by have : (2 : Nat) ^ 32 = 4294967296 := by decide
                                    omega
    clear hxl hp32
    by_cases hlt : (j : Int) < n
    · obtain ⟨g, cap', he, hcell⟩ := refr_cell Hw.out (t + j) (by have := HM.out; omega)
      simp only [Value.slice.injEq] at he
      obtain ⟨rfl, _, rfl⟩ := he
      have hst := next_step l t j (by have := HM.out; omega)
      have hbit := nextN_lt l (t + j) 1
      obtain ⟨y, hy⟩ : ∃ y : Int, y = ((nextN l (t + j) 1 : Nat) : Int) := ⟨_, rfl⟩
      have hcell2 : w.cell? ⟨g, t + j, none⟩ = some (.int .u8 y) := by rw [hcell, hy]; rfl
      have y0 : 0 ≤ y := by omega
      have y1 : y < 2 := by omega
      have hfin : 2 * x + y = (nextN l t (j + 1) : Int) := by rw [hst]; omega
      have Hfin := Hid.mk hfin
      have tj0 : (0 : Int) ≤ (t : Int) + (j : Int) := by omega
      have tj1 : (t : Int) + (j : Int) < (M : Int) := by omega
      have tj2 : ((t : Int) + (j : Int)).toNat = t + j := by omega
      clear hx hcell hst hbit hy hfin
      go_wp2
      go_quiet (fail)
      go_wp2
      go_roundw
      case rel => exact ⟨j + 1, 2 * x + y, _, by omega, by go_num, by go_num, Hfin.out, rfl⟩
      case measure => simp [intOf]; omega
    · clear hx
      go_wp2
      go_ret2
      have e : (t : Int) + n = ((t + n.toNat : Nat) : Int) := by omega
      refine ⟨?_, ?_, ?_⟩
      · have hxx := Hx.out
        rw [show j = n.toNat by omega] at hxx
        rw [← hxx]
        first | rfl | (congr 4; omega)
      · rw [e]
        exact refr_set (refr_drewN Hw.out _) _
      · exact ((Kept.refl _ _).drewN _).setCell (p := ⟨B, 1, none⟩) (by simp) _

/-- The document's Get of a width that may be. -/
theorem refGet_res (B : Nat) (V : Value) (l : List Nat) (t : Nat) (n X E : Int) (t' : Nat) (w : World) (hw : RefR w B V l t) (ht : t ≤ 8 * l.length) (hl : l.length ≤ 10000000000000) (h0 : 0 ≤ n) (h1 : n ≤ 32) (h : GetRes l t n.toNat X E t') :
    Calls Tryd.prog 45 #[.pointer (some ⟨B, 0, none⟩), .int .i64 n] w fun e w' => e = .returned (.tuple #[.int .u32 X, .int .i64 E]) ∧ RefR w' B V l t' ∧ Kept [B] w w' := by
  rcases h with ⟨h2, rfl, rfl, rfl⟩ | ⟨h2, rfl, rfl, rfl⟩
  · exact refGet_any B V l t _ n w hw rfl ht (by omega) h0 h1 (by omega)
  · refine (refGet_end B V l t' _ n w hw rfl ht (by omega) h0 h1 (by omega)).mono ?_
    rintro e w' ⟨rfl, q, rfl⟩
    exact ⟨rfl, refr_drewN hw q, (Kept.refl _ _).drewN q⟩

end Go.Proofs.YthhcihcgefeblaaDoor
