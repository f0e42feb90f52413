import Derived.Test.YthihennifigchaaA4
import Derived.Deep.RegionHeldLaw
namespace Go.Proofs.Ythihennifigchaa
open Go.RowKit

/-- A rectangle is whole. -/
def whl (W H X Y rw rh : Int) : Bool := decide ((1 ≤ rw ∧ 1 ≤ rh ∧ 0 ≤ X ∧ 0 ≤ Y ∧ X + rw ≤ W ∧ Y + rh ≤ H) ∧ X % 2 = 0 ∧ (rw % 2 = 0 ∨ X + rw = W))
/-- A rectangle lies there. -/
structure Rat (w : World) (b : Nat) (X Y W H : Int) : Prop where
  c0 : w.cell? ⟨b, 0, none⟩ = some (.int .i64 X)
  c1 : w.cell? ⟨b, 1, none⟩ = some (.int .i64 Y)
  c2 : w.cell? ⟨b, 2, none⟩ = some (.int .i64 W)
  c3 : w.cell? ⟨b, 3, none⟩ = some (.int .i64 H)
theorem Rat.new (w : World) (X Y W H : Int) (t : Nat) : Rat (w.alloc (.cells #[.int .i64 X, .int .i64 Y, .int .i64 W, .int .i64 H] t (0, 0))) w.heap.size X Y W H :=
  ⟨alloc_cell _ _ _ _ _ rfl, alloc_cell _ _ _ _ _ rfl, alloc_cell _ _ _ _ _ rfl, alloc_cell _ _ _ _ _ rfl⟩
theorem Rat.keep {w w' : World} {b : Nat} {X Y W H : Int} {ks : List Nat} (h : Rat w b X Y W H) (hk : Kept ks w w') (hn : b ∉ ks) : Rat w' b X Y W H :=
  ⟨cell_keep hk h.c0 hn, cell_keep hk h.c1 hn, cell_keep hk h.c2 hn, cell_keep hk h.c3 hn⟩

set_option maxHeartbeats 4000000 in
set_option maxRecDepth 1000000 in
theorem whole_any (W H D X Y rw rh : Int) (A : Bool) (w : World) (hX : -9223372036854775808 ≤ X ∧ X ≤ 9223372036854775807) (hY : -9223372036854775808 ≤ Y ∧ Y ≤ 9223372036854775807) (hW : 1 ≤ W ∧ W ≤ 4096) (hH : 1 ≤ H ∧ H ≤ 4096) :
    Calls Try.prog 55 #[shv W H D A, rcv X Y rw rh] w fun e w' => e = .returned (.bool (whl W H X Y rw rh)) ∧ Kept [] w w' := by
  have C := Hid.mk (fun u => lies_any X Y rw rh W H u hX hY hW hH)
  have S0 := Hid.mk ((Sat.new w W H D A 23).keep (alloc_kept _ (.cells #[.int .i64 X, .int .i64 Y, .int .i64 rw, .int .i64 rh] 51)) (by simp))
  have R0 := Hid.mk (Rat.new (w.alloc (.cells #[.int .i64 W, .int .i64 H, .int .i64 D, .bool A] 23)) X Y rw rh 51)
  rw [World.size_alloc] at R0
  have K0 := Hid.mk ((alloc_kept w (.cells #[.int .i64 W, .int .i64 H, .int .i64 D, .bool A] 23)).trans (alloc_kept _ (.cells #[.int .i64 X, .int .i64 Y, .int .i64 rw, .int .i64 rh] 51)))
  obtain ⟨w1, ew1⟩ : ∃ w1, w1 = (w.alloc (.cells #[.int .i64 W, .int .i64 H, .int .i64 D, .bool A] 23)).alloc (.cells #[.int .i64 X, .int .i64 Y, .int .i64 rw, .int .i64 rh] 51) := ⟨_, rfl⟩
  rw [← ew1] at S0 R0 K0
  have EW := Hid.mk ew1
  clear ew1
  by_cases hl : 1 ≤ rw ∧ 1 ≤ rh ∧ 0 ≤ X ∧ 0 ≤ Y ∧ X + rw ≤ W ∧ Y + rh ≤ H
  · have e1 : lie X Y rw rh W H = true := decide_eq_true hl
    rw [e1] at C
    obtain ⟨l1, l2, l3, l4, l5, l6⟩ := hl
    clear e1
    by_cases hx : X % 2 = 0
    · have hx' : (X % 2 != 0) = false := by simp [hx]
      by_cases hr : rw % 2 = 0
      · have hr' : (rw % 2 == 0) = true := by simp [hr]
        have E : Hid (whl W H X Y rw rh = true) := Hid.mk (decide_eq_true ⟨⟨l1, l2, l3, l4, l5, l6⟩, hx, .inl hr⟩)
        clear hx hr
        go_enter Try.func55, Try.ntmps55
        go_wp2_with (go_at_call 62; rw [← EW.out]; refine (C.out _).mono ?_; rintro e w2 ⟨rfl, hk2⟩; obtain ⟨p0, p1, p2, p3⟩ := S0.out.keep hk2 (by simp); obtain ⟨t0, t1, t2, t3⟩ := R0.out.keep hk2 (by simp); have hk02 := Hid.mk (K0.out.trans hk2))
        go_ret
        exact ⟨ret_bool E.out.symm, hk02.out⟩
      · have hr' : (rw % 2 == 0) = false := by simpa using hr
        have E : Hid (whl W H X Y rw rh = (X + rw == W)) := Hid.mk (by
          by_cases hq : X + rw = W
          · rw [show whl W H X Y rw rh = true from decide_eq_true ⟨⟨l1, l2, l3, l4, l5, l6⟩, hx, .inr hq⟩]; simp [hq]
          · rw [show whl W H X Y rw rh = false from decide_eq_false (fun h => h.2.2.elim hr hq)]; simp [hq])
        clear hx hr
        go_enter Try.func55, Try.ntmps55
        go_wp2_with (go_at_call 62; rw [← EW.out]; refine (C.out _).mono ?_; rintro e w2 ⟨rfl, hk2⟩; obtain ⟨p0, p1, p2, p3⟩ := S0.out.keep hk2 (by simp); obtain ⟨t0, t1, t2, t3⟩ := R0.out.keep hk2 (by simp); have hk02 := Hid.mk (K0.out.trans hk2))
        go_ret
        exact ⟨ret_bool E.out.symm, hk02.out⟩
    · have hx' : (X % 2 != 0) = true := by simpa using hx
      have E : Hid (whl W H X Y rw rh = false) := Hid.mk (decide_eq_false (fun h => hx h.2.1))
      clear hx
      go_enter Try.func55, Try.ntmps55
      go_wp2_with (go_at_call 62; rw [← EW.out]; refine (C.out _).mono ?_; rintro e w2 ⟨rfl, hk2⟩; obtain ⟨p0, p1, p2, p3⟩ := S0.out.keep hk2 (by simp); obtain ⟨t0, t1, t2, t3⟩ := R0.out.keep hk2 (by simp); have hk02 := Hid.mk (K0.out.trans hk2))
      go_ret
      exact ⟨ret_bool E.out.symm, hk02.out⟩
  · have e1 : lie X Y rw rh W H = false := decide_eq_false hl
    rw [e1] at C
    have E : Hid (whl W H X Y rw rh = false) := Hid.mk (decide_eq_false (fun h => hl h.1))
    clear e1 hl
    go_enter Try.func55, Try.ntmps55
    go_wp2_with (go_at_call 62; rw [← EW.out]; refine (C.out _).mono ?_; rintro e w2 ⟨rfl, hk2⟩; obtain ⟨p0, p1, p2, p3⟩ := S0.out.keep hk2 (by simp); obtain ⟨t0, t1, t2, t3⟩ := R0.out.keep hk2 (by simp); have hk02 := Hid.mk (K0.out.trans hk2))
    go_ret
    exact ⟨ret_bool E.out.symm, hk02.out⟩

/-- What belongs to a rectangle. -/
def bX (p X : Int) : Int := if p = 1 ∨ p = 2 then X / 2 else X
def bW (p W : Int) : Int := if p = 1 ∨ p = 2 then hf W else W

/-- A struct as a result. -/
theorem Try.info51 : (Try.prog.info? 51).map (·.size) = some 4 := by kernel_rfl
/-- Four cells. -/
theorem set4 {w : World} {B t : Nat} {a b c d : Value} (a' b' c' d' : Value) (h : w.heap[B]? = some (.cells #[a, b, c, d] t (0, 0))) :
    ((((w.setCell ⟨B, 0, none⟩ a').setCell ⟨B, 1, none⟩ b').setCell ⟨B, 2, none⟩ c').setCell ⟨B, 3, none⟩ d').heap[B]? = some (.cells #[a', b', c', d'] t (0, 0)) ∧
    Kept [B] w ((((w.setCell ⟨B, 0, none⟩ a').setCell ⟨B, 1, none⟩ b').setCell ⟨B, 2, none⟩ c').setCell ⟨B, 3, none⟩ d') :=
  ⟨heap_setCell_at (heap_setCell_at (heap_setCell_at (heap_setCell_at h))), ((((Kept.refl [B] w).setCell (p := ⟨B, 0, none⟩) (.inl (by simp)) _).setCell (p := ⟨B, 1, none⟩) (.inl (by simp)) _).setCell (p := ⟨B, 2, none⟩) (.inl (by simp)) _).setCell (p := ⟨B, 3, none⟩) (.inl (by simp)) _⟩

/-- Four cells. -/
theorem four {w : World} {B t : Nat} {a b c d : Value} (h : w.heap[B]? = some (.cells #[a, b, c, d] t (0, 0))) :
    (w.cell? ⟨B, 0, none⟩ = some a ∧ w.cell? ⟨B, 1, none⟩ = some b ∧ w.cell? ⟨B, 2, none⟩ = some c ∧ w.cell? ⟨B, 3, none⟩ = some d) ∧
    w.frozen? ⟨B, 0, none⟩ = false ∧ w.frozen? ⟨B, 1, none⟩ = false ∧ w.frozen? ⟨B, 2, none⟩ = false ∧ w.frozen? ⟨B, 3, none⟩ = false := by
  refine ⟨⟨?_, ?_, ?_, ?_⟩, ?_, ?_, ?_, ?_⟩
  all_goals first | (rw [cell_of_row _ _ _ _ _ _ h]; rfl) | (simp [World.frozen?, h])
/-- Two blocks of four cells, the one behind the other. -/
theorem two_new (w : World) (a b c d a' b' c' d' : Value) (t t' : Nat) :
    ((w.alloc (.cells #[a, b, c, d] t (0, 0))).alloc (.cells #[a', b', c', d'] t' (0, 0))).heap[w.heap.size]? = some (.cells #[a, b, c, d] t (0, 0)) ∧ ((w.alloc (.cells #[a, b, c, d] t (0, 0))).alloc (.cells #[a', b', c', d'] t' (0, 0))).heap[w.heap.size + 1]? = some (.cells #[a', b', c', d'] t' (0, 0)) ∧ Kept [] w ((w.alloc (.cells #[a, b, c, d] t (0, 0))).alloc (.cells #[a', b', c', d'] t' (0, 0))) := by
  refine ⟨(alloc_kept _ _).heap (heap_alloc_new w _) (by simp), ?_, (alloc_kept _ _).trans (alloc_kept _ _)⟩
  have := heap_alloc_new (w.alloc (.cells #[a, b, c, d] t (0, 0))) (.cells #[a', b', c', d'] t' (0, 0))
  rwa [World.size_alloc] at this

set_option maxHeartbeats 4000000 in
set_option maxRecDepth 1000000 in
theorem belongs_any (p X Y rw rh : Int) (w : World) (hX : 0 ≤ X ∧ X ≤ 4096) (hr : 1 ≤ rw ∧ rw ≤ 4096) :
    Calls Try.prog 56 #[.int .i64 p, rcv X Y rw rh] w fun e w' => e = .returned (rcv (bX p X) Y (bW p rw) rh) ∧ Kept [] w w' := by
  have C := Hid.mk (fun u => chroma_any p u)
  have C2 := Hid.mk (fun u => half_any rw u (by omega) (by omega))
  have N := two_new w (.int .i64 X) (.int .i64 Y) (.int .i64 rw) (.int .i64 rh) (.int .i64 0) (.int .i64 0) (.int .i64 0) (.int .i64 0) 51 51
  obtain ⟨w1, ew1⟩ : ∃ w1, w1 = (w.alloc (.cells #[.int .i64 X, .int .i64 Y, .int .i64 rw, .int .i64 rh] 51 (0, 0))).alloc (.cells #[.int .i64 0, .int .i64 0, .int .i64 0, .int .i64 0] 51 (0, 0)) := ⟨_, rfl⟩
  rw [← ew1] at N
  have HN := Hid.mk N
  have EW := Hid.mk ew1
  clear N ew1
  by_cases hp : p = 1 ∨ p = 2
  · rw [decide_eq_true hp] at C
    rw [show bX p X = X / 2 from if_pos hp, show bW p rw = hf rw from if_pos hp]
    clear hp
    go_enter Try.func56, Try.ntmps56
    go_wp2_with (first | (go_at_call 59; refine (C.out _).mono ?_; rintro e w1 ⟨rfl, hw⟩; obtain rfl := hw.symm))
    rw [← EW.out]
    obtain ⟨⟨c0, c1, c2, c3⟩, _⟩ := four HN.out.1
    obtain ⟨⟨z0, z1, z2, z3⟩, f0, f1, f2, f3⟩ := four HN.out.2.1
    obtain ⟨b, eb⟩ : ∃ b, b = w.heap.size := ⟨_, rfl⟩
    rw [← eb] at c0 c1 c2 c3 z0 z1 z2 z3 f0 f1 f2 f3 HN ⊢
    have HEB := Hid.mk eb
    clear eb EW
    go_region_held_law (fun w' => w'.cell? ⟨b, 0, none⟩ = some (.int .i64 X) ∧ w'.cell? ⟨b, 1, none⟩ = some (.int .i64 Y) ∧ w'.cell? ⟨b, 2, none⟩ = some (.int .i64 rw) ∧ w'.cell? ⟨b, 3, none⟩ = some (.int .i64 rh)) (first | exact ⟨c0, c1, c2, c3⟩ | go_keep) (first | (go_at_call 60; refine (C2.out _).mono ?_; rintro e w2 ⟨rfl, hw⟩; obtain rfl := hw.symm))
    have hdv : IntKind.i64.wrap (X.tdiv 2) = X / 2 := by rw [Int.tdiv_eq_ediv_of_nonneg hX.1]; exact wrap_i (by omega) (by omega)
    rw [hdv]
    have s4 := set4 (.int .i64 (X / 2)) (.int .i64 Y) (.int .i64 (hf rw)) (.int .i64 rh) HN.out.2.1
    clear z0 z1 z2 z3 f0 f1 f2 f3 c0 c1 c2 c3
    go_wp2
    refine bodyPost_ret (v := rcv (X / 2) Y (hf rw) rh) ?_ rfl ⟨rfl, ?_⟩
    · exact results_cell_row rfl _ _ (b + 1) 51 _ (0, 0) _ rfl s4.1 Try.underlying51 rfl Try.info51
    · exact (HN.out.2.2.step s4.2 (fun x hx => by simp at hx; subst hx; exact .inr (by have := HEB.out; omega))).drew
  · rw [decide_eq_false hp] at C
    rw [show bX p X = X from if_neg hp, show bW p rw = rw from if_neg hp]
    clear hp
    go_enter Try.func56, Try.ntmps56
    go_wp2_with (first | (go_at_call 59; refine (C.out _).mono ?_; rintro e w1 ⟨rfl, hw⟩; obtain rfl := hw.symm))
    refine bodyPost_ret (v := rcv X Y rw rh) ?_ rfl ⟨rfl, ((Kept.refl [] w).alloc _).alloc _⟩
    exact results_cell_row rfl _ _ (w.heap.size + 1) 51 _ (0, 0) _ rfl (two_new w _ _ _ _ _ _ _ _ _ _).2.1 Try.underlying51 rfl Try.info51
end Go.Proofs.Ythihennifigchaa
