import Derived.Test.YthhegomjipbdbaaGreatDoortA3Z
import Derived.Deep.RegionHeldLaw
namespace Go.Proofs.YthhegomjipbdbaaGreatDoor.Tl
open Go.RowKit

/-- A rectangle is whole. -/
def whl (W H X Y rw rh : Int) : Bool := decide ((1 ≤ rw ∧ 1 ≤ rh ∧ 0 ≤ X ∧ 0 ≤ Y ∧ X + rw ≤ W ∧ Y + rh ≤ H) ∧ X % 2 = 0 ∧ (rw % 2 = 0 ∨ X + rw = W))
/-- A rectangle lies there. -/
structure Rat (w : World) (b : Nat) (X Y W H : Int) : Prop where
  c0 : w.cell? ⟨b, 0, none⟩ = some (.int .i64 X)
  c1 : w.cell? ⟨b, 1, none⟩ = some (.int .i64 Y)
  c2 : w.cell? ⟨b, 2, none⟩ = some (.int .i64 W)
  c3 : w.cell? ⟨b, 3, none⟩ = some (.int .i64 H)
theorem Rat.new (w : World) (X Y W H : Int) (t : Nat) : Rat (w.alloc (.cells #[.int .i64 X, .int .i64 Y, .int .i64 W, .int .i64 H] t (0, 0))) w.heap.size X Y W H :=
  ⟨alloc_cell _ _ _ _ _ rfl, alloc_cell _ _ _ _ _ rfl, alloc_cell _ _ _ _ _ rfl, alloc_cell _ _ _ _ _ rfl⟩
theorem Rat.keep {w w' : World} {b : Nat} {X Y W H : Int} {ks : List Nat} (h : Rat w b X Y W H) (hk : Kept ks w w') (hn : b ∉ ks) : Rat w' b X Y W H :=
  ⟨cell_keep hk h.c0 hn, cell_keep hk h.c1 hn, cell_keep hk h.c2 hn, cell_keep hk h.c3 hn⟩

set_option maxHeartbeats 4000000 in
set_option maxRecDepth 1000000 in
theorem whole_any (W H D X Y rw rh : Int) (A : Bool) (w : World) (hX : -9223372036854775808 ≤ X ∧ X ≤ 9223372036854775807) (hY : -9223372036854775808 ≤ Y ∧ Y ≤ 9223372036854775807) (hW : 1 ≤ W ∧ W ≤ 4096) (hH : 1 ≤ H ∧ H ≤ 4096) :
    Calls Tryz.prog 139 #[shv W H D A, rcv X Y rw rh] w fun e w' => e = .returned (.bool (whl W H X Y rw rh)) ∧ Kept [] w w' := by
  have C := Hid.mk (fun u => lies_any X Y rw rh W H u hX hY hW hH)
  have S0 := Hid.mk ((Sat.new w W H D A 23).keep (alloc_kept _ (.cells #[.int .i64 X, .int .i64 Y, .int .i64 rw, .int .i64 rh] 54)) (by simp))
  have R0 := Hid.mk (Rat.new (w.alloc (.cells #[.int .i64 W, .int .i64 H, .int .i64 D, .bool A] 23)) X Y rw rh 54)
  rw [World.size_alloc] at R0
  have K0 := Hid.mk ((alloc_kept w (.cells #[.int .i64 W, .int .i64 H, .int .i64 D, .bool A] 23)).trans (alloc_kept _ (.cells #[.int .i64 X, .int .i64 Y, .int .i64 rw, .int .i64 rh] 54)))
  obtain ⟨w1, ew1⟩ : ∃ w1, w1 = (w.alloc (.cells #[.int .i64 W, .int .i64 H, .int .i64 D, .bool A] 23)).alloc (.cells #[.int .i64 X, .int .i64 Y, .int .i64 rw, .int .i64 rh] 54) := ⟨_, rfl⟩
  rw [← ew1] at S0 R0 K0
  have EW := Hid.mk ew1
  clear ew1
  by_cases hl : 1 ≤ rw ∧ 1 ≤ rh ∧ 0 ≤ X ∧ 0 ≤ Y ∧ X + rw ≤ W ∧ Y + rh ≤ H
  · have e1 : lie X Y rw rh W H = true := decide_eq_true hl
    rw [e1] at C
    obtain ⟨l1, l2, l3, l4, l5, l6⟩ := hl
    clear e1
    by_cases hx : X % 2 = 0
    · have hx' : (X % 2 != 0) = false := by simp [hx]
      by_cases hr : rw % 2 = 0
      · have hr' : (rw % 2 == 0) = true := by simp [hr]
        have E : Hid (whl W H X Y rw rh = true) := Hid.mk (decide_eq_true ⟨⟨l1, l2, l3, l4, l5, l6⟩, hx, .inl hr⟩)
        clear hx hr
        go_enter Tryz.func139, Tryz.ntmps139
        go_wp2_with (go_at_call 162; rw [← EW.out]; refine (C.out _).mono ?_; rintro e w2 ⟨rfl, hk2⟩; obtain ⟨p0, p1, p2, p3⟩ := S0.out.keep hk2 (by simp); obtain ⟨t0, t1, t2, t3⟩ := R0.out.keep hk2 (by simp); have hk02 := Hid.mk (K0.out.trans hk2))
        go_ret
        exact ⟨ret_bool E.out.symm, hk02.out⟩
      · have hr' : (rw % 2 == 0) = false := by simpa using hr
        have E : Hid (whl W H X Y rw rh = (X + rw == W)) := Hid.mk (by
          by_cases hq : X + rw = W
          · rw [show whl W H X Y rw rh = true from decide_eq_true ⟨⟨l1, l2, l3, l4, l5, l6⟩, hx, .inr hq⟩]; simp [hq]
          · rw [show whl W H X Y rw rh = false from decide_eq_false (fun h => h.2.2.elim hr hq)]; simp [hq])
        clear hx hr
        go_enter Tryz.func139, Tryz.ntmps139
        go_wp2_with (go_at_call 162; rw [← EW.out]; refine (C.out _).mono ?_; rintro e w2 ⟨rfl, hk2⟩; obtain ⟨p0, p1, p2, p3⟩ := S0.out.keep hk2 (by simp); obtain ⟨t0, t1, t2, t3⟩ := R0.out.keep hk2 (by simp); have hk02 := Hid.mk (K0.out.trans hk2))
        go_ret
        exact ⟨ret_bool E.out.symm, hk02.out⟩
    · have hx' : (X % 2 != 0) = true := by simpa using hx
      have E : Hid (whl W H X Y rw rh = false) := Hid.mk (decide_eq_false (fun h => hx h.2.1))
      clear hx
      go_enter Tryz.func139, Tryz.ntmps139
      go_wp2_with (go_at_call 162; rw [← EW.out]; refine (C.out _).mono ?_; rintro e w2 ⟨rfl, hk2⟩; obtain ⟨p0, p1, p2, p3⟩ := S0.out.keep hk2 (by simp); obtain ⟨t0, t1, t2, t3⟩ := R0.out.keep hk2 (by simp); have hk02 := Hid.mk (K0.out.trans hk2))
      go_ret
      exact ⟨ret_bool E.out.symm, hk02.out⟩
  · have e1 : lie X Y rw rh W H = false := decide_eq_false hl
    rw [e1] at C
    have E : Hid (whl W H X Y rw rh = false) := Hid.mk (decide_eq_false (fun h => hl h.1))
    clear e1 hl
    go_enter Tryz.func139, Tryz.ntmps139
    go_wp2_with (go_at_call 162; rw [← EW.out]; refine (C.out _).mono ?_; rintro e w2 ⟨rfl, hk2⟩; obtain ⟨p0, p1, p2, p3⟩ := S0.out.keep hk2 (by simp); obtain ⟨t0, t1, t2, t3⟩ := R0.out.keep hk2 (by simp); have hk02 := Hid.mk (K0.out.trans hk2))
    go_ret
    exact ⟨ret_bool E.out.symm, hk02.out⟩

/-- What belongs to a rectangle. -/
def bX (p X : Int) : Int := if p = 1 ∨ p = 2 then X / 2 else X
def bW (p W : Int) : Int := if p = 1 ∨ p = 2 then hf W else W

/-- A struct as a result. -/
theorem Tryz.info54 : (Tryz.prog.info? 54).map (·.size) = some 4 := by kernel_rfl
/-- Four cells. -/
theorem set4 {w : World} {B t : Nat} {a b c d : Value} (a' b' c' d' : Value) (h : w.heap[B]? = some (.cells #[a, b, c, d] t (0, 0))) :
    ((((w.setCell ⟨B, 0, none⟩ a').setCell ⟨B, 1, none⟩ b').setCell ⟨B, 2, none⟩ c').setCell ⟨B, 3, none⟩ d').heap[B]? = some (.cells #[a', b', c', d'] t (0, 0)) ∧
    Kept [B] w ((((w.setCell ⟨B, 0, none⟩ a').setCell ⟨B, 1, none⟩ b').setCell ⟨B, 2, none⟩ c').setCell ⟨B, 3, none⟩ d') :=
  ⟨heap_setCell_at (heap_setCell_at (heap_setCell_at (heap_setCell_at h))), ((((Kept.refl [B] w).setCell (p := ⟨B, 0, none⟩) (.inl (by simp)) _).setCell (p := ⟨B, 1, none⟩) (.inl (by simp)) _).setCell (p := ⟨B, 2, none⟩) (.inl (by simp)) _).setCell (p := ⟨B, 3, none⟩) (.inl (by simp)) _⟩

/-- Four cells. -/
theorem four {w : World} {B t : Nat} {a b c d : Value} (h : w.heap[B]? = some (.cells #[a, b, c, d] t (0, 0))) :
    (w.cell? ⟨B, 0, none⟩ = some a ∧ w.cell? ⟨B, 1, none⟩ = some b ∧ w.cell? ⟨B, 2, none⟩ = some c ∧ w.cell? ⟨B, 3, none⟩ = some d) ∧
    w.frozen? ⟨B, 0, none⟩ = false ∧ w.frozen? ⟨B, 1, none⟩ = false ∧ w.frozen? ⟨B, 2, none⟩ = false ∧ w.frozen? ⟨B, 3, none⟩ = false := by
  refine ⟨⟨?_, ?_, ?_, ?_⟩, ?_, ?_, ?_, ?_⟩
  all_goals first | (rw [cell_of_row _ _ _ _ _ _ h]; rfl) | (simp [World.frozen?, h])
/-- Two blocks of four cells, the one behind the other. -/
theorem two_new (w : World) (a b c d a' b' c' d' : Value) (t t' : Nat) :
    ((w.alloc (.cells #[a, b, c, d] t (0, 0))).alloc (.cells #[a', b', c', d'] t' (0, 0))).heap[w.heap.size]? = some (.cells #[a, b, c, d] t (0, 0)) ∧ ((w.alloc (.cells #[a, b, c, d] t (0, 0))).alloc (.cells #[a', b', c', d'] t' (0, 0))).heap[w.heap.size + 1]? = some (.cells #[a', b', c', d'] t' (0, 0)) ∧ Kept [] w ((w.alloc (.cells #[a, b, c, d] t (0, 0))).alloc (.cells #[a', b', c', d'] t' (0, 0))) := by
  refine ⟨(alloc_kept _ _).heap (heap_alloc_new w _) (by simp), ?_, (alloc_kept _ _).trans (alloc_kept _ _)⟩
  have := heap_alloc_new (w.alloc (.cells #[a, b, c, d] t (0, 0))) (.cells #[a', b', c', d'] t' (0, 0))
  rwa [World.size_alloc] at this

set_option maxHeartbeats 4000000 in
set_option maxRecDepth 1000000 in
theorem belongs_any (p X Y rw rh : Int) (w : World) (hX : 0 ≤ X ∧ X ≤ 4096) (hr : 1 ≤ rw ∧ rw ≤ 4096) :
    Calls Tryz.prog 140 #[.int .i64 p, rcv X Y rw rh] w fun e w' => e = .returned (rcv (bX p X) Y (bW p rw) rh) ∧ Kept [] w w' := by
  have C := Hid.mk (fun u => chroma_any p u)
  have C2 := Hid.mk (fun u => half_any rw u (by omega) (by omega))
  have N := two_new w (.int .i64 X) (.int .i64 Y) (.int .i64 rw) (.int .i64 rh) (.int .i64 0) (.int .i64 0) (.int .i64 0) (.int .i64 0) 54 54
  obtain ⟨w1, ew1⟩ : ∃ w1, w1 = (w.alloc (.cells #[.int .i64 X, .int .i64 Y, .int .i64 rw, .int .i64 rh] 54 (0, 0))).alloc (.cells #[.int .i64 0, .int .i64 0, .int .i64 0, .int .i64 0] 54 (0, 0)) := ⟨_, rfl⟩
  rw [← ew1] at N
  have HN := Hid.mk N
  have EW := Hid.mk ew1
  clear N ew1
  by_cases hp : p = 1 ∨ p = 2
  · rw [decide_eq_true hp] at C
    rw [show bX p X = X / 2 from if_pos hp, show bW p rw = hf rw from if_pos hp]
    clear hp
    go_enter Tryz.func140, Tryz.ntmps140
    go_wp2_with (first | (go_at_call 102; refine (C.out _).mono ?_; rintro e w1 ⟨rfl, hw⟩; obtain rfl := hw.symm))
    rw [← EW.out]
    obtain ⟨⟨c0, c1, c2, c3⟩, _⟩ := four HN.out.1
    obtain ⟨⟨z0, z1, z2, z3⟩, f0, f1, f2, f3⟩ := four HN.out.2.1
    obtain ⟨b, eb⟩ : ∃ b, b = w.heap.size := ⟨_, rfl⟩
    rw [← eb] at c0 c1 c2 c3 z0 z1 z2 z3 f0 f1 f2 f3 HN ⊢
    have HEB := Hid.mk eb
    clear eb EW
    go_region_held_law (fun w' => w'.cell? ⟨b, 0, none⟩ = some (.int .i64 X) ∧ w'.cell? ⟨b, 1, none⟩ = some (.int .i64 Y) ∧ w'.cell? ⟨b, 2, none⟩ = some (.int .i64 rw) ∧ w'.cell? ⟨b, 3, none⟩ = some (.int .i64 rh)) (first | exact ⟨c0, c1, c2, c3⟩ | go_keep) (first | (go_at_call 103; refine (C2.out _).mono ?_; rintro e w2 ⟨rfl, hw⟩; obtain rfl := hw.symm))
    have hdv : IntKind.i64.wrap (X.tdiv 2) = X / 2 := by rw [Int.tdiv_eq_ediv_of_nonneg hX.1]; exact wrap_i (by omega) (by omega)
    rw [hdv]
    have s4 := set4 (.int .i64 (X / 2)) (.int .i64 Y) (.int .i64 (hf rw)) (.int .i64 rh) HN.out.2.1
    clear z0 z1 z2 z3 f0 f1 f2 f3 c0 c1 c2 c3
    go_wp2
    refine bodyPost_ret (v := rcv (X / 2) Y (hf rw) rh) ?_ rfl ⟨rfl, ?_⟩
    · exact results_cell_row rfl _ _ (b + 1) 54 _ (0, 0) _ rfl s4.1 Tryz.underlying54 rfl Tryz.info54
    · exact (HN.out.2.2.step s4.2 (fun x hx => by simp at hx; subst hx; exact .inr (by have := HEB.out; omega))).drew
  · rw [decide_eq_false hp] at C
    rw [show bX p X = X from if_neg hp, show bW p rw = rw from if_neg hp]
    clear hp
    go_enter Tryz.func140, Tryz.ntmps140
    go_wp2_with (first | (go_at_call 102; refine (C.out _).mono ?_; rintro e w1 ⟨rfl, hw⟩; obtain rfl := hw.symm))
    refine bodyPost_ret (v := rcv X Y rw rh) ?_ rfl ⟨rfl, ((Kept.refl [] w).alloc _).alloc _⟩
    exact results_cell_row rfl _ _ (w.heap.size + 1) 54 _ (0, 0) _ rfl (two_new w _ _ _ _ _ _ _ _ _ _).2.1 Tryz.underlying54 rfl Tryz.info54
end Go.Proofs.YthhegomjipbdbaaGreatDoor.Tl

namespace Go.Proofs.YthhegomjipbdbaaGreatDoor.Tl
open Go.RowKit

/-- Half's error. -/
def hE (W H D p X Y rw rh : Int) (A : Bool) : Int := if shE W H D A = 0 then (if (0 ≤ p ∧ p < (np A : Int)) ∧ whl W H X Y rw rh = true then 0 else 65) else 61
/-- Three blocks of four cells. -/
theorem three_new (w : World) (a b c d a' b' c' d' a2 b2 c2 d2 : Value) (t t' t2 : Nat) :
    ((((w.alloc (.cells #[a, b, c, d] t (0, 0))).alloc (.cells #[a', b', c', d'] t' (0, 0))).alloc (.cells #[a2, b2, c2, d2] t2 (0, 0)))).heap[w.heap.size]? = some (.cells #[a, b, c, d] t (0, 0)) ∧ ((((w.alloc (.cells #[a, b, c, d] t (0, 0))).alloc (.cells #[a', b', c', d'] t' (0, 0))).alloc (.cells #[a2, b2, c2, d2] t2 (0, 0)))).heap[w.heap.size + 1]? = some (.cells #[a', b', c', d'] t' (0, 0)) ∧ ((((w.alloc (.cells #[a, b, c, d] t (0, 0))).alloc (.cells #[a', b', c', d'] t' (0, 0))).alloc (.cells #[a2, b2, c2, d2] t2 (0, 0)))).heap[w.heap.size + 1 + 1]? = some (.cells #[a2, b2, c2, d2] t2 (0, 0)) ∧ Kept [] w ((((w.alloc (.cells #[a, b, c, d] t (0, 0))).alloc (.cells #[a', b', c', d'] t' (0, 0))).alloc (.cells #[a2, b2, c2, d2] t2 (0, 0)))) := by
  have h := two_new w a b c d a' b' c' d' t t'
  refine ⟨(alloc_kept _ _).heap h.1 (by simp), (alloc_kept _ _).heap h.2.1 (by simp), ?_, h.2.2.trans (alloc_kept _ _)⟩
  have := heap_alloc_new ((w.alloc (.cells #[a, b, c, d] t (0, 0))).alloc (.cells #[a', b', c', d'] t' (0, 0))) (.cells #[a2, b2, c2, d2] t2 (0, 0))
  rwa [World.size_alloc, World.size_alloc] at this

set_option maxHeartbeats 8000000 in
set_option maxRecDepth 1000000 in
theorem halfR_any (W H D p X Y rw rh : Int) (A : Bool) (w : World) (hX : -9223372036854775808 ≤ X ∧ X ≤ 9223372036854775807) (hY : -9223372036854775808 ≤ Y ∧ Y ≤ 9223372036854775807) :
    Calls Tryz.prog 124 #[shv W H D A, .int .i64 p, rcv X Y rw rh] w fun e w' => e = .returned (.tuple #[if hE W H D p X Y rw rh A = 0 then rcv (bX p X) Y (bW p rw) rh else rcv 0 0 0 0, .int .i64 (hE W H D p X Y rw rh A)]) ∧ Kept [] w w' := by
  have C := Hid.mk (fun u => shaped_any W H D A u)
  have N := three_new w (.int .i64 W) (.int .i64 H) (.int .i64 D) (.bool A) (.int .i64 X) (.int .i64 Y) (.int .i64 rw) (.int .i64 rh) (.int .i64 0) (.int .i64 0) (.int .i64 0) (.int .i64 0) 23 54 54
  obtain ⟨w1, ew1⟩ : ∃ w1, w1 = ((w.alloc (.cells #[.int .i64 W, .int .i64 H, .int .i64 D, .bool A] 23 (0, 0))).alloc (.cells #[.int .i64 X, .int .i64 Y, .int .i64 rw, .int .i64 rh] 54 (0, 0))).alloc (.cells #[.int .i64 0, .int .i64 0, .int .i64 0, .int .i64 0] 54 (0, 0)) := ⟨_, rfl⟩
  rw [← ew1] at N
  have HN := Hid.mk N
  have EW := Hid.mk ew1
  clear N ew1
  rcases shE_two W H D A with ⟨e1, h1⟩ | ⟨e1, h1⟩
  · rw [e1] at C
    have C2 := Hid.mk (fun u => there_any W H D p A u)
    by_cases hp : 0 ≤ p ∧ p < (np A : Int)
    · rw [decide_eq_true hp] at C2
      have C3 := Hid.mk (fun u => whole_any W H D X Y rw rh A u hX hY h1.1 h1.2.1)
      by_cases hw : whl W H X Y rw rh = true
      · have hd := of_decide_eq_true hw
        have C4 := Hid.mk (fun u => belongs_any p X Y rw rh u (by have := h1.1; omega) (by have := h1.1; omega))
        rw [hw] at C3
        rw [show hE W H D p X Y rw rh A = 0 by unfold hE; rw [if_pos e1, if_pos ⟨hp, hw⟩], if_pos rfl]
        clear e1 h1 hp hw hd
        go_enter Tryz.func124, Tryz.ntmps124
        go_wp2_with (first | (go_at_call 49; rw [← EW.out]; refine (C.out _).mono ?_; rintro e w2 ⟨rfl, hk2⟩; obtain ⟨⟨c0, c1, c2, c3⟩, _⟩ := four (hk2.heap HN.out.1 (by simp)); obtain ⟨⟨r0, r1, r2, r3⟩, _⟩ := four (hk2.heap HN.out.2.1 (by simp))) | (go_at_call 114; refine (C2.out _).mono ?_; rintro e w3 ⟨rfl, hk3⟩; obtain ⟨⟨d0, d1, d2, d3⟩, _⟩ := four ((hk2.trans hk3).heap HN.out.1 (by simp)); obtain ⟨⟨s0, s1, s2, s3⟩, _⟩ := four ((hk2.trans hk3).heap HN.out.2.1 (by simp))) | (go_at_call 139; refine (C3.out _).mono ?_; rintro e w4 ⟨rfl, hk4⟩; obtain ⟨⟨t0, t1, t2, t3⟩, _⟩ := four (((hk2.trans hk3).trans hk4).heap HN.out.2.1 (by simp))) | (go_at_call 140; refine (C4.out _).mono ?_; rintro e w5 ⟨rfl, hk5⟩; have HR := Hid.mk ((((hk2.trans hk3).trans hk4).trans hk5).heap HN.out.2.2.1 (by simp)); obtain ⟨⟨z0, z1, z2, z3⟩, f0, f1, f2, f3⟩ := four HR.out; have KK := Hid.mk (HN.out.2.2.2.trans (((hk2.trans hk3).trans hk4).trans hk5))))
        have s4 := set4 (.int .i64 (bX p X)) (.int .i64 Y) (.int .i64 (bW p rw)) (.int .i64 rh) HR.out
        refine bodyPost_ret (v := .tuple #[rcv (bX p X) Y (bW p rw) rh, .int .i64 0]) ?_ rfl ⟨rfl, KK.out.step s4.2 (fun x hx => by simp at hx; subst hx; exact .inr (by omega))⟩
        exact results_two rfl _ _ (w.heap.size + 1 + 1) 54 _ (0, 0) _ _ rfl s4.1 Tryz.underlying54 Tryz.info54 rfl
      · have hw2 : whl W H X Y rw rh = false := by simpa using hw
        rw [hw2] at C3
        rw [show hE W H D p X Y rw rh A = 65 by unfold hE; rw [if_pos e1, if_neg (fun h => hw h.2)], if_neg (by decide)]
        clear e1 h1 hp hw hw2
        go_enter Tryz.func124, Tryz.ntmps124
        go_wp2_with (first | (go_at_call 49; rw [← EW.out]; refine (C.out _).mono ?_; rintro e w2 ⟨rfl, hk2⟩; obtain ⟨⟨c0, c1, c2, c3⟩, _⟩ := four (hk2.heap HN.out.1 (by simp)); obtain ⟨⟨r0, r1, r2, r3⟩, _⟩ := four (hk2.heap HN.out.2.1 (by simp))) | (go_at_call 114; refine (C2.out _).mono ?_; rintro e w3 ⟨rfl, hk3⟩; obtain ⟨⟨d0, d1, d2, d3⟩, _⟩ := four ((hk2.trans hk3).heap HN.out.1 (by simp)); obtain ⟨⟨s0, s1, s2, s3⟩, _⟩ := four ((hk2.trans hk3).heap HN.out.2.1 (by simp))) | (go_at_call 139; refine (C3.out _).mono ?_; rintro e w4 ⟨rfl, hk4⟩; obtain ⟨⟨t0, t1, t2, t3⟩, _⟩ := four (((hk2.trans hk3).trans hk4).heap HN.out.2.1 (by simp)); have HR := Hid.mk (((hk2.trans hk3).trans hk4).heap HN.out.2.2.1 (by simp)); obtain ⟨⟨z0, z1, z2, z3⟩, f0, f1, f2, f3⟩ := four HR.out; have KK := Hid.mk (HN.out.2.2.2.trans ((hk2.trans hk3).trans hk4))) )
        have s4 := set4 (.int .i64 0) (.int .i64 0) (.int .i64 0) (.int .i64 0) HR.out
        refine bodyPost_ret (v := .tuple #[rcv 0 0 0 0, .int .i64 65]) ?_ rfl ⟨rfl, KK.out.step s4.2 (fun x hx => by simp at hx; subst hx; exact .inr (by omega))⟩
        exact results_two rfl _ _ (w.heap.size + 1 + 1) 54 _ (0, 0) _ _ rfl s4.1 Tryz.underlying54 Tryz.info54 rfl
    · rw [decide_eq_false hp] at C2
      rw [show hE W H D p X Y rw rh A = 65 by unfold hE; rw [if_pos e1, if_neg (fun h => hp h.1)], if_neg (by decide)]
      clear e1 h1 hp
      go_enter Tryz.func124, Tryz.ntmps124
      go_wp2_with (first | (go_at_call 49; rw [← EW.out]; refine (C.out _).mono ?_; rintro e w2 ⟨rfl, hk2⟩; obtain ⟨⟨c0, c1, c2, c3⟩, _⟩ := four (hk2.heap HN.out.1 (by simp)); obtain ⟨⟨r0, r1, r2, r3⟩, _⟩ := four (hk2.heap HN.out.2.1 (by simp))) | (go_at_call 114; refine (C2.out _).mono ?_; rintro e w3 ⟨rfl, hk3⟩; obtain ⟨⟨d0, d1, d2, d3⟩, _⟩ := four ((hk2.trans hk3).heap HN.out.1 (by simp)); obtain ⟨⟨s0, s1, s2, s3⟩, _⟩ := four ((hk2.trans hk3).heap HN.out.2.1 (by simp)); have HR := Hid.mk ((hk2.trans hk3).heap HN.out.2.2.1 (by simp)); obtain ⟨⟨z0, z1, z2, z3⟩, f0, f1, f2, f3⟩ := four HR.out; have KK := Hid.mk (HN.out.2.2.2.trans (hk2.trans hk3))) )
      have s4 := set4 (.int .i64 0) (.int .i64 0) (.int .i64 0) (.int .i64 0) HR.out
      refine bodyPost_ret (v := .tuple #[rcv 0 0 0 0, .int .i64 65]) ?_ rfl ⟨rfl, KK.out.step s4.2 (fun x hx => by simp at hx; subst hx; exact .inr (by omega))⟩
      exact results_two rfl _ _ (w.heap.size + 1 + 1) 54 _ (0, 0) _ _ rfl s4.1 Tryz.underlying54 Tryz.info54 rfl
  · rw [e1] at C
    rw [show hE W H D p X Y rw rh A = 61 by unfold hE; rw [e1]; rfl, if_neg (by decide)]
    clear e1 h1
    go_enter Tryz.func124, Tryz.ntmps124
    go_wp2_with (first | (go_at_call 49; rw [← EW.out]; refine (C.out _).mono ?_; rintro e w2 ⟨rfl, hk2⟩; obtain ⟨⟨c0, c1, c2, c3⟩, _⟩ := four (hk2.heap HN.out.1 (by simp)); obtain ⟨⟨r0, r1, r2, r3⟩, _⟩ := four (hk2.heap HN.out.2.1 (by simp)); have HR := Hid.mk ((hk2).heap HN.out.2.2.1 (by simp)); obtain ⟨⟨z0, z1, z2, z3⟩, f0, f1, f2, f3⟩ := four HR.out; have KK := Hid.mk (HN.out.2.2.2.trans (hk2))) )
    have s4 := set4 (.int .i64 0) (.int .i64 0) (.int .i64 0) (.int .i64 0) HR.out
    refine bodyPost_ret (v := .tuple #[rcv 0 0 0 0, .int .i64 61]) ?_ rfl ⟨rfl, KK.out.step s4.2 (fun x hx => by simp at hx; subst hx; exact .inr (by omega))⟩
    exact results_two rfl _ _ (w.heap.size + 1 + 1) 54 _ (0, 0) _ _ rfl s4.1 Tryz.underlying54 Tryz.info54 rfl
end Go.Proofs.YthhegomjipbdbaaGreatDoor.Tl

namespace Go.Proofs.YthhegomjipbdbaaGreatDoor.Tl
open Go.RowKit

set_option maxHeartbeats 4000000 in
set_option maxRecDepth 1000000 in
theorem rhalf_any (n : Int) (w : World) (h0 : 0 ≤ n) (h1 : n ≤ 9223372036854775807) : Calls Tryz.prog 89 #[.int .i64 n] w fun e w' => e = .returned (.int .i64 (hf n)) ∧ w' = w := by
  go_enter Tryz.func89, Tryz.ntmps89
  go_wp2
  go_ret
  exact ⟨rfl, rfl⟩

set_option maxHeartbeats 4000000 in
set_option maxRecDepth 1000000 in
theorem count_any (W H D : Int) (A : Bool) (w : World) : Calls Tryz.prog 65 #[shv W H D A] w fun e w' => e = .returned (.int .i64 (np A : Int)) ∧ Kept [] w w' := by
  cases A
  · go_enter Tryz.func65, Tryz.ntmps65
    go_wp2
    go_ret
    exact ⟨rfl, (Kept.refl _ _).alloc _⟩
  · go_enter Tryz.func65, Tryz.ntmps65
    go_wp2
    go_ret
    exact ⟨rfl, (Kept.refl _ _).alloc _⟩

set_option maxHeartbeats 4000000 in
set_option maxRecDepth 1000000 in
theorem wide_any (W H D p : Int) (A : Bool) (w : World) (h0 : 0 ≤ W) (h1 : W ≤ 4096) : Calls Tryz.prog 66 #[shv W H D A, .int .i64 p] w fun e w' => e = .returned (.int .i64 (wp W p)) ∧ Kept [] w w' := by
  have C2 := Hid.mk (fun u => rhalf_any W u h0 (by omega))
  by_cases h1 : p = 1
  · subst h1
    rw [show wp W 1 = hf W from if_pos (.inl rfl)]
    go_enter Tryz.func66, Tryz.ntmps66
    go_wp2_with (first | (go_at_call 89; refine (C2.out _).mono ?_; rintro e w1 ⟨rfl, hw⟩; obtain rfl := hw.symm))
    go_ret
    exact ⟨rfl, (Kept.refl _ _).alloc _⟩
  · by_cases h2 : p = 2
    · subst h2
      rw [show wp W 2 = hf W from if_pos (.inr rfl)]
      go_enter Tryz.func66, Tryz.ntmps66
      go_wp2_with (first | (go_at_call 89; refine (C2.out _).mono ?_; rintro e w1 ⟨rfl, hw⟩; obtain rfl := hw.symm))
      go_ret
      exact ⟨rfl, (Kept.refl _ _).alloc _⟩
    · have e1 : (p == 1) = false := by simpa using h1
      have e2 : (p == 2) = false := by simpa using h2
      rw [show wp W p = W from if_neg (by omega)]
      clear h1 h2
      go_enter Tryz.func66, Tryz.ntmps66
      go_wp2
      go_ret
      exact ⟨rfl, (Kept.refl _ _).alloc _⟩

set_option maxHeartbeats 4000000 in
set_option maxRecDepth 1000000 in
theorem rtotal_any (W H D : Int) (A : Bool) (w : World) (h0 : 1 ≤ W) (h1 : W ≤ 4096) (h2 : 1 ≤ H) (h3 : H ≤ 4096) : Calls Tryz.prog 86 #[shv W H D A] w fun e w' => e = .returned (.int .i64 (tot W H A)) ∧ Kept [] w w' := by
  have C := Hid.mk (fun u => count_any W H D A u)
  have C2 := Hid.mk (fun u (p : Nat) => wide_any W H D p A u (by omega) h1)
  have hn : np A ≤ 4 := by cases A <;> decide
  have E := Hid.mk (sT_np W H A)
  obtain ⟨n, en⟩ : ∃ n : Nat, n = np A := ⟨_, rfl⟩
  rw [← en] at C hn E
  clear en
  have HB := Hid.mk (sT_lo h0 h1 h2 h3)
  have HP := Hid.mk (fun p => wpH p h0 h1 h2 h3)
  have hcs := Hid.mk (Sat.new w W H D A 23)
  have HK := Hid.mk (alloc_kept w (.cells #[.int .i64 W, .int .i64 H, .int .i64 D, .bool A] 23))
  obtain ⟨w1, ew1⟩ : ∃ w1, w1 = w.alloc (.cells #[.int .i64 W, .int .i64 H, .int .i64 D, .bool A] 23) := ⟨_, rfl⟩
  rw [← ew1] at hcs HK
  have EW := Hid.mk ew1
  clear ew1
  go_enter Tryz.func86, Tryz.ntmps86
  go_wp2_with (fail)
  rw [← EW.out]
  obtain ⟨b, eb⟩ : ∃ b, b = w.heap.size := ⟨_, rfl⟩
  rw [← eb] at hcs ⊢
  clear eb EW
  go_loopw [3, 4] (fun s i wr => ∃ k : Nat, k ≤ n ∧ i = .int .i64 (k : Int) ∧ s = .int .i64 (sT W H k) ∧ Kept [] w1 wr) (fun _ i _ => n - (intOf i).toNat)
  case atStart => exact ⟨0, by omega, rfl, rfl, Kept.refl _ _⟩
  case round =>
    obtain ⟨k, hk, rfl, rfl, hkr⟩ := hrel
    have Hkr := Hid.mk hkr
    obtain ⟨q0, q1, q2, q3⟩ := hcs.out.keep hkr (by simp)
    by_cases hlt : k < n
    · have b1 := HP.out (k : Int)
      have b2 := HB.out k
      have ES := Hid.mk (show sT W H (k + 1) = sT W H k + wp W k * H from rfl)
      have D2 := Hid.mk (fun u => C2.out u k)
      obtain ⟨x, ex⟩ : ∃ x, x = wp W k := ⟨_, rfl⟩
      rw [← ex] at b1 ES D2
      have hwr : IntKind.i64.wrap (x * H) = x * H := wrap_i (by omega) (by omega)
      have hwr2 : IntKind.i64.wrap (sT W H k + x * H) = sT W H k + x * H := wrap_i (by omega) (by omega)
      clear ex hkr
      go_wp2_with (go_at_call 65; refine (C.out _).mono ?_; rintro e w2 ⟨rfl, hk2⟩; obtain ⟨r0, r1, r2, r3⟩ := Sat.keep ⟨q0, q1, q2, q3⟩ hk2 (by simp))
      have K2 := Hid.mk (Hkr.out.trans hk2)
      have R2 := Hid.mk (Sat.keep ⟨q0, q1, q2, q3⟩ hk2 (by simp))
      clear hk2 q0 q1 q2 q3 Hkr
      go_region_held_law (fun w' => w'.cell? ⟨b, 0, none⟩ = some (.int .i64 W) ∧ w'.cell? ⟨b, 1, none⟩ = some (.int .i64 H) ∧ w'.cell? ⟨b, 2, none⟩ = some (.int .i64 D) ∧ w'.cell? ⟨b, 3, none⟩ = some (.bool A)) (first | exact ⟨r0, r1, r2, r3⟩ | exact ⟨t0, t1, t2, t3⟩ | go_keep) (first | (go_at_call 66; refine (D2.out _).mono ?_; rintro e w3 ⟨rfl, hk3⟩; obtain ⟨t0, t1, t2, t3⟩ := R2.out.keep hk3.undrew (by simp)))
      all_goals go_wp2
      all_goals go_roundw
      all_goals first
        | exact ⟨k + 1, by omega, by go_num, by rw [ES.out], K2.out.trans hk3.undrew⟩
        | (simp [intOf]; omega)
    · obtain rfl : n = k := by omega
      go_wp2_with (go_at_call 65; refine (C.out _).mono ?_; rintro e w2 ⟨rfl, hk2⟩)
      go_ret
      exact ⟨ret_int E.out, (HK.out.trans Hkr.out).trans hk2⟩

set_option maxHeartbeats 4000000 in
set_option maxRecDepth 1000000 in
theorem rshaped_any (W H D : Int) (A : Bool) (w : World) : Calls Tryz.prog 60 #[shv W H D A] w fun e w' => e = .returned (.int .i64 (shE W H D A)) ∧ Kept [] w w' := by
  have hk0 := Hid.mk ((Kept.refl [] w).alloc (.cells #[.int .i64 W, .int .i64 H, .int .i64 D, .bool A] 23))
  by_cases k2 : W < 1
  · skip
    have E := Hid.mk (shE_no (W := W) (H := H) (D := D) (A := A) (fun h => by have := h.1; have := h.2.1; have := h.2.2.1; omega))
    go_enter Tryz.func60, Tryz.ntmps60
    go_wp2
    go_ret
    exact ⟨ret_int E.out.symm, hk0.out⟩
  · skip
    by_cases k4 : 4096 < W
    · skip
      have E := Hid.mk (shE_no (W := W) (H := H) (D := D) (A := A) (fun h => by have := h.1; have := h.2.1; have := h.2.2.1; omega))
      go_enter Tryz.func60, Tryz.ntmps60
      go_wp2
      go_ret
      exact ⟨ret_int E.out.symm, hk0.out⟩
    · skip
      by_cases k6 : H < 1
      · skip
        have E := Hid.mk (shE_no (W := W) (H := H) (D := D) (A := A) (fun h => by have := h.1; have := h.2.1; have := h.2.2.1; omega))
        go_enter Tryz.func60, Tryz.ntmps60
        go_wp2
        go_ret
        exact ⟨ret_int E.out.symm, hk0.out⟩
      · skip
        by_cases k8 : 4096 < H
        · skip
          have E := Hid.mk (shE_no (W := W) (H := H) (D := D) (A := A) (fun h => by have := h.1; have := h.2.1; have := h.2.2.1; omega))
          go_enter Tryz.func60, Tryz.ntmps60
          go_wp2
          go_ret
          exact ⟨ret_int E.out.symm, hk0.out⟩
        · skip
          by_cases hD : D = 10 ∨ D = 12
          · skip
            have C3 := Hid.mk (fun u => rtotal_any W H D A u (by omega) (by omega) (by omega) (by omega))
            by_cases hT : tot W H A ≤ 4194304
            · have E := Hid.mk (shE_ok (W := W) (H := H) (D := D) (A := A) ⟨by omega, by omega, hD, hT⟩)
              obtain ⟨T, eT⟩ : ∃ T, T = tot W H A := ⟨_, rfl⟩
              rw [← eT] at hT C3
              clear eT
              rcases hD with rfl | rfl
              · go_enter Tryz.func60, Tryz.ntmps60
                go_wp2_with (go_at_call 86; refine (C3.out _).mono ?_; rintro e w2 ⟨rfl, hk2⟩)
                go_ret
                exact ⟨ret_int E.out.symm, hk0.out.trans hk2⟩
              · go_enter Tryz.func60, Tryz.ntmps60
                go_wp2_with (go_at_call 86; refine (C3.out _).mono ?_; rintro e w2 ⟨rfl, hk2⟩)
                go_ret
                exact ⟨ret_int E.out.symm, hk0.out.trans hk2⟩
            · have E := Hid.mk (shE_no (W := W) (H := H) (D := D) (A := A) (fun h => hT h.2.2.2))
              obtain ⟨T, eT⟩ : ∃ T, T = tot W H A := ⟨_, rfl⟩
              rw [← eT] at hT C3
              clear eT
              rcases hD with rfl | rfl
              · go_enter Tryz.func60, Tryz.ntmps60
                go_wp2_with (go_at_call 86; refine (C3.out _).mono ?_; rintro e w2 ⟨rfl, hk2⟩)
                go_ret
                exact ⟨ret_int E.out.symm, hk0.out.trans hk2⟩
              · go_enter Tryz.func60, Tryz.ntmps60
                go_wp2_with (go_at_call 86; refine (C3.out _).mono ?_; rintro e w2 ⟨rfl, hk2⟩)
                go_ret
                exact ⟨ret_int E.out.symm, hk0.out.trans hk2⟩
          · skip
            have E := Hid.mk (shE_no (W := W) (H := H) (D := D) (A := A) (fun h => by have := h.1; have := h.2.1; have := h.2.2.1; omega))
            have d1 : (D != 10) = true := by simp; omega
            have d2 : (D != 12) = true := by simp; omega
            clear hD
            go_enter Tryz.func60, Tryz.ntmps60
            go_wp2
            go_ret
            exact ⟨ret_int E.out.symm, hk0.out⟩
end Go.Proofs.YthhegomjipbdbaaGreatDoor.Tl

namespace Go.Proofs.YthhegomjipbdbaaGreatDoor.Tl
open Go.RowKit

/-- A number by another one, rounded up. -/
def cl (a b : Int) : Int := (a + b - 1) / b
/-- A grid's numbers. -/
structure Gd (W H sw sh c r : Int) : Prop where
  w0 : 1 ≤ W
  w1 : W ≤ 4096
  h0 : 1 ≤ H
  h1 : H ≤ 4096
  s0 : 16 ≤ sw
  s1 : sw ≤ 4096
  se : sw % 2 = 0
  t0 : 16 ≤ sh
  t1 : sh ≤ 4096
  c0 : 1 ≤ c
  c1 : c ≤ 256
  r0 : 1 ≤ r
  r1 : r ≤ 256
  cw : (c - 1) * sw < W
  cx : W ≤ c * sw
  rh : (r - 1) * sh < H
  rx : H ≤ r * sh
theorem cl_lo {a b : Int} (h : 1 ≤ a) (h2 : 16 ≤ b) : 1 ≤ cl a b := by
  unfold cl
  exact Int.le_ediv_of_mul_le (by omega) (by omega)
theorem cl_hi {a b : Int} (h1 : a ≤ 4096) (h2 : 16 ≤ b) : cl a b ≤ 256 := by
  unfold cl
  have : (a + b - 1) / b < 257 := Int.ediv_lt_of_lt_mul (by omega) (by omega)
  omega
theorem cl_lt {a b : Int} (h2 : 16 ≤ b) : (cl a b - 1) * b < a := by
  unfold cl
  have h := Int.ediv_mul_le (a + b - 1) (b := b) (by omega)
  rw [Int.sub_mul]; omega
theorem cl_le {a b : Int} (h2 : 16 ≤ b) : a ≤ cl a b * b := by
  unfold cl
  have h := Int.lt_ediv_add_one_mul_self (a + b - 1) (b := b) (by omega)
  rw [Int.add_mul] at h; omega
theorem Gd.of {W H sw sh : Int} (w0 : 1 ≤ W) (w1 : W ≤ 4096) (h0 : 1 ≤ H) (h1 : H ≤ 4096) (s0 : 16 ≤ sw) (s1 : sw ≤ 4096) (se : sw % 2 = 0) (t0 : 16 ≤ sh) (t1 : sh ≤ 4096) : Gd W H sw sh (cl W sw) (cl H sh) :=
  ⟨w0, w1, h0, h1, s0, s1, se, t0, t1, cl_lo w0 s0, cl_hi w1 s0, cl_lo h0 t0, cl_hi h1 t0, cl_lt s0, cl_le s0, cl_lt t0, cl_le t0⟩

set_option maxHeartbeats 4000000 in
set_option maxRecDepth 1000000 in
theorem parts_any (a b : Int) (w : World) (a0 : 1 ≤ a) (a1 : a ≤ 4096) (b0 : 16 ≤ b) (b1 : b ≤ 4096) : Calls Tryz.prog 83 #[.int .i64 a, .int .i64 b] w fun e w' => e = .returned (.int .i64 (cl a b)) ∧ w' = w := by
  have hw : IntKind.i64.wrap ((a + b - 1).tdiv b) = cl a b := by
    rw [Int.tdiv_eq_ediv_of_nonneg (by omega)]
    have h0 := cl_lo a0 b0
    have h1 := cl_hi a1 b0
    unfold cl at h0 h1 ⊢
    exact wrap_i (by omega) (by omega)
  have hb : b ≠ 0 := by omega
  go_enter Tryz.func83, Tryz.ntmps83
  go_wp2
  go_ret
  exact ⟨by first | rfl | (rw [hw]) | (exact ret_int (by first | exact hw | (simp; done))), rfl⟩

set_option maxHeartbeats 4000000 in
theorem tsided_any (x : Int) (w : World) : Calls Tryz.prog 82 #[.int .i64 x] w fun e w' => e = .returned (.bool (decide (16 ≤ x ∧ x ≤ 4096))) ∧ w' = w := by
  by_cases h : 16 ≤ x
  · go_enter Tryz.func82, Tryz.ntmps82
    go_wp2
    go_ret
    exact ⟨ret_bool (by simp; try omega), rfl⟩
  · go_enter Tryz.func82, Tryz.ntmps82
    go_wp2
    go_ret
    exact ⟨ret_bool (by simp; try omega), rfl⟩

/-- Which of n things a raw number speaks of. -/
def pick (c n : Int) : Int := if c < 0 then (-(c + 1)) % n else c % n
theorem pick_lo (c n : Int) (h : 0 < n) : 0 ≤ pick c n := by
  unfold pick; split <;> exact Int.emod_nonneg _ (by omega)
theorem pick_hi (c n : Int) (h : 0 < n) : pick c n < n := by
  unfold pick; split <;> exact Int.emod_lt_of_pos _ h

/-- A grid in memory. -/
def Gr (w : World) (P : Nat) (W H D : Int) (A : Bool) (sw sh c r : Int) : Prop :=
  w.heap[P]? = some (.cells #[.int .i64 W, .int .i64 H, .int .i64 D, .bool A, .int .i64 sw, .int .i64 sh, .int .i64 c, .int .i64 r] 129 (0, 0))
theorem Gr.keep {w w' : World} {P : Nat} {W H D sw sh c r : Int} {A : Bool} {ks : List Nat} (h : Gr w P W H D A sw sh c r) (hk : Kept ks w w') (hn : P ∉ ks) : Gr w' P W H D A sw sh c r := hk.heap h hn
theorem eight {w : World} {B t : Nat} {a b c d e f g h : Value} (hh : w.heap[B]? = some (.cells #[a, b, c, d, e, f, g, h] t (0, 0))) :
    w.cell? ⟨B, 0, none⟩ = some a ∧ w.cell? ⟨B, 1, none⟩ = some b ∧ w.cell? ⟨B, 2, none⟩ = some c ∧ w.cell? ⟨B, 3, none⟩ = some d ∧ w.cell? ⟨B, 4, none⟩ = some e ∧ w.cell? ⟨B, 5, none⟩ = some f ∧ w.cell? ⟨B, 6, none⟩ = some g ∧ w.cell? ⟨B, 7, none⟩ = some h := by
  refine ⟨?_, ?_, ?_, ?_, ?_, ?_, ?_, ?_⟩
  all_goals (rw [cell_of_row _ _ _ _ _ _ hh]; rfl)

set_option maxHeartbeats 4000000 in
set_option maxRecDepth 1000000 in
theorem count_any' (P : Nat) (W H D sw sh c r : Int) (A : Bool) (w : World) (hg : Gr w P W H D A sw sh c r) (c0 : 1 ≤ c) (c1 : c ≤ 256) (r0 : 1 ≤ r) (r1 : r ≤ 256) :
    Calls Tryz.prog 43 #[.pointer (some ⟨P, 0, none⟩)] w fun e w' => e = .returned (.int .i64 (c * r)) ∧ Kept [] w w' := by
  obtain ⟨g0, g1, g2, g3, g4, g5, g6, g7⟩ := eight hg
  have hm : IntKind.i64.wrap (c * r) = c * r := by
    have h1 : 0 ≤ c * r := Int.mul_nonneg (by omega) (by omega)
    have h2 : c * r ≤ 256 * 256 := Int.mul_le_mul c1 r1 (by omega) (by omega)
    exact wrap_i (by omega) (by omega)
  clear c0 c1 r0 r1
  go_enter Tryz.func43, Tryz.ntmps43
  go_wp2
  go_quiet (fail)
  go_wp2
  go_ret
  exact ⟨rfl, (Kept.refl _ _).drewN _⟩


/-- A slice's place. -/
def sX (c sw k : Int) : Int := k % c * sw
def sY (c sh k : Int) : Int := k / c * sh
theorem sX_in {W H sw sh c r : Int} (g : Gd W H sw sh c r) (k : Int) : 0 ≤ sX c sw k ∧ sX c sw k < W ∧ sX c sw k % 2 = 0 := by
  unfold sX
  have m0 : 0 ≤ k % c := Int.emod_nonneg _ (by have := g.c0; omega)
  have m1 : k % c < c := Int.emod_lt_of_pos _ (by have := g.c0; omega)
  refine ⟨Int.mul_nonneg m0 (by have := g.s0; omega), Int.lt_of_le_of_lt (Int.mul_le_mul_of_nonneg_right (show k % c ≤ c - 1 by omega) (by have := g.s0; omega)) g.cw, ?_⟩
  rw [Int.mul_emod, g.se]; simp
theorem sY_in {W H sw sh c r : Int} (g : Gd W H sw sh c r) {k : Int} (h0 : 0 ≤ k) (h1 : k < c * r) : 0 ≤ sY c sh k ∧ sY c sh k < H := by
  unfold sY
  have m0 : 0 ≤ k / c := Int.ediv_nonneg h0 (by have := g.c0; omega)
  have m1 : k / c < r := Int.ediv_lt_of_lt_mul (by have := g.c0; omega) (by rwa [Int.mul_comm] at h1)
  exact ⟨Int.mul_nonneg m0 (by have := g.t0; omega), Int.lt_of_le_of_lt (Int.mul_le_mul_of_nonneg_right (show k / c ≤ r - 1 by omega) (by have := g.t0; omega)) g.rh⟩
/-- The slice in which a sample is. -/
def sA (c sw sh x y : Int) : Int := y / sh * c + x / sw
theorem at_x {W H sw sh c r : Int} (g : Gd W H sw sh c r) {x : Int} (h0 : 0 ≤ x) (h1 : x < W) : 0 ≤ x / sw ∧ x / sw < c := by
  refine ⟨Int.ediv_nonneg h0 (by have := g.s0; omega), Int.ediv_lt_of_lt_mul (by have := g.s0; omega) (by have := g.cx; omega)⟩
theorem at_y {W H sw sh c r : Int} (g : Gd W H sw sh c r) {y : Int} (h0 : 0 ≤ y) (h1 : y < H) : 0 ≤ y / sh ∧ y / sh < r := by
  refine ⟨Int.ediv_nonneg h0 (by have := g.t0; omega), Int.ediv_lt_of_lt_mul (by have := g.t0; omega) (by have := g.rx; omega)⟩
theorem sA_in {W H sw sh c r : Int} (g : Gd W H sw sh c r) {x y : Int} (h0 : 0 ≤ x) (h1 : x < W) (h2 : 0 ≤ y) (h3 : y < H) : 0 ≤ sA c sw sh x y ∧ sA c sw sh x y < c * r := by
  have ⟨a0, a1⟩ := at_x g h0 h1
  have ⟨b0, b1⟩ := at_y g h2 h3
  unfold sA
  have m := Int.mul_nonneg b0 (show 0 ≤ c by have := g.c0; omega)
  have m2 : (y / sh + 1) * c ≤ r * c := Int.mul_le_mul_of_nonneg_right (by omega) (by have := g.c0; omega)
  rw [Int.add_mul] at m2
  rw [Int.mul_comm c r]
  omega

theorem w64_in {x : Int} (h0 : -9223372036854775808 ≤ x) (h1 : x ≤ 9223372036854775807) : wrap64 x = x := by unfold wrap64; omega
theorem one_new (w : World) (cs : Array Value) (t : Nat) : ∃ w1, w1 = w.alloc (.cells cs t (0, 0)) ∧ Kept [] w w1 ∧ w1.heap[w.heap.size]? = some (.cells cs t (0, 0)) :=
  ⟨_, rfl, alloc_kept _ _, heap_alloc_new _ _⟩
theorem _root_.Go.Proofs.YthhegomjipbdbaaGreatDoor.Kept.new {w w1 : World} (h : Kept [] w w1) {ks : List Nat} {w2 : World} (h2 : Kept ks w1 w2) (hk : ∀ x ∈ ks, w.heap.size ≤ x) : Kept [] w w2 := h.step h2 (fun x hx => .inr (hk x hx))

end Go.Proofs.YthhegomjipbdbaaGreatDoor.Tl

namespace Go.Proofs.YthhegomjipbdbaaGreatDoor.Tl
open Go.RowKit

end Go.Proofs.YthhegomjipbdbaaGreatDoor.Tl

namespace Go.Proofs.YthhegomjipbdbaaGreatDoor.Tl
open Go.RowKit

/-- Which of n a raw number speaks of. -/
def plc (c n : Int) : Int := (if c < 0 then -(c + 1) else c) % n
theorem plc_lo (c : Int) {n : Int} (h : 1 ≤ n) : 0 ≤ plc c n := Int.emod_nonneg _ (by omega)
theorem plc_hi (c : Int) {n : Int} (h : 1 ≤ n) : plc c n < n := Int.emod_lt_of_pos _ (by omega)

/-- Two lists are the same. -/
def eqL (f g : Nat → Nat) (n m : Nat) : Bool := decide (n = m) && (List.range n).all fun i => decide (f i = g i)
theorem eqL_yes {f g : Nat → Nat} {n : Nat} (h : ∀ i, i < n → f i = g i) : eqL f g n n = true := by
  unfold eqL
  rw [decide_eq_true rfl, Bool.true_and, List.all_eq_true]
  intro i hi
  simpa using h i (by simpa using hi)
theorem eqL_no {f g : Nat → Nat} {n i : Nat} (hi : i < n) (h : f i ≠ g i) : eqL f g n n = false := by
  unfold eqL
  rw [decide_eq_true rfl, Bool.true_and, List.all_eq_false]
  exact ⟨i, by simpa using hi, by simpa using h⟩
theorem eqL_len {f g : Nat → Nat} {n m : Nat} (h : n ≠ m) : eqL f g n m = false := by
  unfold eqL
  rw [decide_eq_false h, Bool.false_and]

set_option maxHeartbeats 4000000 in
set_option maxRecDepth 1000000 in
/-- All planes are the same. -/
def alF (F G : Nat → Nat → Nat) (n : Nat) (ln lm : Nat → Nat) : Bool := (List.range n).all fun i => eqL (F i) (G i) (ln i) (lm i)
theorem alF_yes {F G : Nat → Nat → Nat} {n : Nat} {ln lm : Nat → Nat} (h : ∀ i, i < n → eqL (F i) (G i) (ln i) (lm i) = true) : alF F G n ln lm = true := by
  unfold alF
  rw [List.all_eq_true]
  intro i hi
  exact h i (by simpa using hi)
theorem alF_no {F G : Nat → Nat → Nat} {n i : Nat} {ln lm : Nat → Nat} (hi : i < n) (h : eqL (F i) (G i) (ln i) (lm i) = false) : alF F G n ln lm = false := by
  unfold alF
  rw [List.all_eq_false]
  exact ⟨i, by simpa using hi, by rw [h]; decide⟩

set_option maxHeartbeats 4000000 in
set_option maxRecDepth 1000000 in
set_option maxHeartbeats 4000000 in
set_option maxRecDepth 1000000 in
theorem top_any (D : Int) (w : World) (hD : D = 10 ∨ D = 12) : Calls Tryz.prog 90 #[.int .i64 D] w fun e w' => e = .returned (.int .i64 (mx D : Int)) ∧ w' = w := by
  rcases hD with rfl | rfl
  · go_enter Tryz.func90, Tryz.ntmps90
    go_wp2
    go_ret
    exact ⟨rfl, rfl⟩
  · go_enter Tryz.func90, Tryz.ntmps90
    go_wp2
    go_ret
    exact ⟨rfl, rfl⟩

set_option maxHeartbeats 4000000 in
set_option maxRecDepth 1000000 in
theorem beyond_any (ao : Option Addr) (n c : Nat) (f : Nat → Nat) (D : Int) (w : World) (hr : Rd w ao n f) (hD : D = 10 ∨ D = 12) (hn : n ≤ 9223372036854775807) (hf : ∀ i, i < n → f i < 65536) :
    Calls Tryz.prog 67 #[.slice ao n c, .int .i64 D] w fun e w' => e = .returned (.bool (abv f n (mx D))) ∧ Kept [] w w' := by
  have Hr := Hid.mk hr
  have Hf := Hid.mk hf
  have C := Hid.mk (fun u => top_any D u hD)
  obtain ⟨M, eM⟩ : ∃ M, M = mx D := ⟨_, rfl⟩
  rw [← eM] at C ⊢
  clear hr hf eM hD
  go_enter Tryz.func67, Tryz.ntmps67
  go_wp2
  go_loopw [5] (fun i wr => ∃ k : Nat, k ≤ n ∧ i = .int .i64 (k : Int) ∧ (∀ j, j < k → f j ≤ M) ∧ Kept [] w wr) (fun i _ => n - (intOf i).toNat)
  case atStart => exact ⟨0, by omega, rfl, fun j hj => by omega, Kept.refl _ _⟩
  case round =>
    obtain ⟨k, hk, rfl, hall, hkr⟩ := hrel
    have Hall := Hid.mk hall
    have Hkr := Hid.mk hkr
    clear hall
    by_cases hlt : k < n
    · obtain ⟨g1, o1, rfl, c1⟩ := (Hr.out.keep hkr).at hlt
      have ix : (k : Int) < (n : Int) := by omega
      have HY := Hid.mk (fun h => abv_yes (f := f) (M := M) hlt h)
      have HN : Hid (f k ≤ M → ∀ j, j < k + 1 → f j ≤ M) := Hid.mk (fun h j hj => by
        by_cases e : j = k
        · subst e; exact h
        · exact Hall.out j (by omega))
      have hx := Hf.out k hlt
      obtain ⟨x, ex⟩ : ∃ x, x = f k := ⟨_, rfl⟩
      rw [← ex] at c1 HN HY hx
      clear ex hkr
      by_cases hM : (M : Int) < (x : Int)
      · go_wp2
        go_quiet ((go_at_call 90; refine Calls.quiet_of_same (C.out _)))
        go_wp2
        go_ret
        exact ⟨ret_bool (HY.out (by omega)).symm, Hkr.out.drewN _⟩
      · go_wp2
        go_quiet ((go_at_call 90; refine Calls.quiet_of_same (C.out _)))
        go_wp2
        go_roundw
        case rel => exact ⟨k + 1, by omega, by go_num, HN.out (by omega), Hkr.out.drewN _⟩
        case measure => simp [intOf]; omega
    · obtain rfl : n = k := by omega
      have H2 := Hid.mk (abv_no.2 Hall.out)
      go_wp2
      go_ret
      exact ⟨ret_bool H2.out.symm, Hkr.out⟩
end Go.Proofs.YthhegomjipbdbaaGreatDoor.Tl

namespace Go.Proofs.YthhegomjipbdbaaGreatDoor.Tl
open Go.RowKit

/-- A frame lies there. -/
structure Fat (w : World) (b : Nat) (W H D : Int) (A : Bool) (v : Value) : Prop where
  c0 : w.cell? ⟨b, 0, none⟩ = some (.int .i64 W)
  c1 : w.cell? ⟨b, 1, none⟩ = some (.int .i64 H)
  c2 : w.cell? ⟨b, 2, none⟩ = some (.int .i64 D)
  c3 : w.cell? ⟨b, 3, none⟩ = some (.bool A)
  c4 : w.cell? ⟨b, 4, none⟩ = some v
theorem Fat.new (w : World) (W H D : Int) (A : Bool) (v : Value) (t : Nat) : Fat (w.alloc (.cells #[.int .i64 W, .int .i64 H, .int .i64 D, .bool A, v] t (0, 0))) w.heap.size W H D A v :=
  ⟨alloc_cell _ _ _ _ _ rfl, alloc_cell _ _ _ _ _ rfl, alloc_cell _ _ _ _ _ rfl, alloc_cell _ _ _ _ _ rfl, alloc_cell _ _ _ _ _ rfl⟩
theorem Fat.keep {w w' : World} {b : Nat} {W H D : Int} {A : Bool} {v : Value} {ks : List Nat} (h : Fat w b W H D A v) (hk : Kept ks w w') (hn : b ∉ ks) : Fat w' b W H D A v :=
  ⟨cell_keep hk h.c0 hn, cell_keep hk h.c1 hn, cell_keep hk h.c2 hn, cell_keep hk h.c3 hn, cell_keep hk h.c4 hn⟩

set_option maxHeartbeats 8000000 in
set_option maxRecDepth 1000000 in
theorem rvalid_any (W H D : Int) (A : Bool) (po : Option Addr) (n c : Nat) (ln : Nat → Nat) (F : Nat → Nat → Nat) (w : World) (hr : Pl w po n ln F) (hn : n ≤ 9223372036854775807) (hln : ∀ i, i < n → ln i ≤ 9223372036854775807) (hF : ∀ i, i < n → ∀ j, j < ln i → F i j < 65536) :
    Calls Tryz.prog 37 #[frv W H D A po n c] w fun e w' => e = .returned (.int .i64 (vE W H D A n ln F)) ∧ Kept [] w w' := by
  have Hr := Hid.mk hr
  have Hln := Hid.mk hln
  have HF := Hid.mk hF
  clear hr hln hF
  have C := Hid.mk (fun u => rshaped_any W H D A u)
  have CP := Hid.mk (fun u => count_any W H D A u)
  have hk0 := Hid.mk (alloc_kept w (.cells #[.int .i64 W, .int .i64 H, .int .i64 D, .bool A, .slice po n c] 42))
  have Q0 := Hid.mk (Fat.new w W H D A (.slice po n c) 42)
  rcases shE_two W H D A with ⟨e1, h1⟩ | ⟨e1, h1⟩
  · rw [e1] at C
    obtain ⟨N, eN⟩ : ∃ N : Nat, N = np A := ⟨_, rfl⟩
    rw [← eN] at CP
    have C3 := Hid.mk (fun u (p : Nat) => wide_any W H D p A u (by have := h1.1; omega) h1.1.2)
    have HP := Hid.mk (fun p => wpH p h1.1.1 h1.1.2 h1.2.1.1 h1.2.1.2)
    have EQ : Hid (n = N → vE W H D A n ln F = if lnO W H n ln = true then (if smB n ln F (mx D) = true then 64 else 0) else 63) := Hid.mk (fun hN => by unfold vE; rw [if_pos e1, if_pos (hN.trans eN)])
    have E2 : Hid (n ≠ N → vE W H D A n ln F = 62) := Hid.mk (fun hN => by unfold vE; rw [if_pos e1, if_neg (fun h => hN (h.trans eN.symm))])
    have CA := Hid.mk (fun u (i : Nat) (hi : i < n) bo cc (hrd : Rd u bo (ln i) (F i)) => beyond_any bo (ln i) cc (F i) D u hrd h1.2.2.1 (Hln.out i hi) (HF.out i hi))
    have hn4 : N ≤ 4 := by rw [eN]; exact np_hi A
    clear e1 h1 eN
    go_enter Tryz.func37, Tryz.ntmps37
    go_wp2_with (first | (go_at_call 60; refine (C.out _).mono ?_; rintro e w1 ⟨rfl, hk1⟩; obtain ⟨r0, r1, r2, r3, r4⟩ := Q0.out.keep hk1 (by simp)))
    have hk01 := Hid.mk (hk0.out.trans hk1)
    have Q1 := Hid.mk (Q0.out.keep hk1 (by simp))
    obtain ⟨b, eb⟩ : ∃ b, b = w.heap.size := ⟨_, rfl⟩
    rw [← eb] at r0 r1 r2 r3 r4 Q1 ⊢
    clear eb hk1 C Q0 hk0
    go_cut [19] (fun s wc => s = .bool ((n : Int) != (N : Int)) ∧ Kept [] w1 wc)
    case first =>
      go_region_held_law (fun w' => w'.cell? ⟨b, 0, none⟩ = some (.int .i64 W) ∧ w'.cell? ⟨b, 1, none⟩ = some (.int .i64 H) ∧ w'.cell? ⟨b, 2, none⟩ = some (.int .i64 D) ∧ w'.cell? ⟨b, 3, none⟩ = some (.bool A) ∧ w'.cell? ⟨b, 4, none⟩ = some (.slice po n c)) (first | exact ⟨r0, r1, r2, r3, r4⟩ | exact ⟨t0, t1, t2, t3, t4⟩ | go_keep) (first | (go_at_call 65; refine (CP.out _).mono ?_; rintro e w2 ⟨rfl, hk2⟩; obtain ⟨t0, t1, t2, t3, t4⟩ := Q1.out.keep hk2.undrew (by simp)))
      all_goals go_wp2
      all_goals go_meet
      all_goals exact ⟨rfl, hk2.undrew⟩
    case rest =>
      obtain ⟨rfl, hkc⟩ := hcut
      have hk0c := Hid.mk (hk01.out.trans hkc)
      have Q2 := Hid.mk (Q1.out.keep hkc (by simp))
      clear hkc r0 r1 r2 r3 r4 hk01 CP Q1
      by_cases hN : n = N
      · subst hN
        have EV := Hid.mk (EQ.out rfl)
        clear EQ E2
        rw [show ((n : Int) != (n : Int)) = false by simp]
        go_wp2
        go_loopw [4] (fun i wr => ∃ k : Nat, k ≤ n ∧ i = .int .i64 (k : Int) ∧ (∀ j, j < k → (ln j : Int) = wp W (j : Int) * H) ∧ Kept [] wc wr) (fun i _ => n - (intOf i).toNat)
        case atStart => exact ⟨0, by omega, rfl, fun j hj => by omega, Kept.refl _ _⟩
        case round =>
          obtain ⟨k, hk, rfl, hall, hkr⟩ := hrel
          have Hall := Hid.mk hall
          have Hkr := Hid.mk hkr
          have Q3 := Hid.mk (Q2.out.keep hkr (by simp))
          obtain ⟨t0, t1, t2, t3, t4⟩ := Q3.out
          clear hall
          by_cases hlt : k < n
          · obtain ⟨g, off, bo, cc, rfl, hc, _⟩ := (Hr.out.keep (hk0c.out.trans hkr)).at hlt
            have ix : (k : Int) < (n : Int) := by omega
            have b1 := HP.out (k : Int)
            have D2 := Hid.mk (fun u => C3.out u k)
            have HN := Hid.mk (fun h => lnO_no (W := W) (H := H) (ln := ln) hlt h)
            have HY : Hid ((ln k : Int) = wp W (k : Int) * H → ∀ j, j < k + 1 → (ln j : Int) = wp W (j : Int) * H) := Hid.mk (fun h j hj => by
              by_cases e : j = k
              · subst e; exact h
              · exact Hall.out j (by omega))
            obtain ⟨x, ex⟩ : ∃ x, x = wp W k := ⟨_, rfl⟩
            rw [← ex] at b1 HN HY D2
            obtain ⟨y, ey⟩ : ∃ y, y = ln k := ⟨_, rfl⟩
            rw [← ey] at hc HN HY
            have hwr : IntKind.i64.wrap (x * H) = x * H := wrap_i (by omega) (by omega)
            have HC := Hid.mk hc
            clear ex ey hkr
            go_upto_region 9 with (fail)
            go_cut [41] (fun s wd => s = .bool ((y : Int) != x * H) ∧ Kept [] wr wd)
            case first =>
              go_region_held_law (fun w' => w'.cell? ⟨b, 0, none⟩ = some (.int .i64 W) ∧ w'.cell? ⟨b, 1, none⟩ = some (.int .i64 H) ∧ w'.cell? ⟨b, 2, none⟩ = some (.int .i64 D) ∧ w'.cell? ⟨b, 3, none⟩ = some (.bool A) ∧ w'.cell? ⟨b, 4, none⟩ = some (.slice (some ⟨g, off, none⟩) n c) ∧ w'.cell? ⟨g, off + k, none⟩ = some (.slice bo y cc)) (first | exact ⟨t0, t1, t2, t3, t4, hc⟩ | exact ⟨z0, z1, z2, z3, z4, z5⟩ | go_keep) (first | (go_at_call 66; refine (D2.out _).mono ?_; rintro e w2 ⟨rfl, hk2⟩; obtain ⟨z0, z1, z2, z3, z4⟩ := Q3.out.keep hk2.undrew (by simp); have z5 := cell_keep hk2.undrew HC.out (by simp)))
              all_goals go_wp2
              all_goals go_meet
              all_goals exact ⟨rfl, hk2.undrew⟩
            case rest =>
              obtain ⟨rfl, hkd⟩ := hcut
              have Kd := Hid.mk (Hkr.out.trans hkd)
              clear hkd t0 t1 t2 t3 t4 hc Q3 HC
              by_cases hy : (y : Int) = x * H
              · have hy' : ((y : Int) != x * H) = false := by simpa using hy
                rw [hy']
                have HY2 := Hid.mk (HY.out hy)
                clear hy HY HN hy'
                go_wp2
                go_roundw
                case rel => exact ⟨k + 1, by omega, by go_num, HY2.out, Kd.out⟩
                case measure => simp [intOf]; omega
              · have hy' : ((y : Int) != x * H) = true := by simpa using hy
                rw [hy']
                have HN2 := Hid.mk (HN.out hy)
                clear hy HY HN hy'
                go_wp2
                go_ret
                rw [HN2.out] at EV
                exact ⟨ret_int EV.out.symm, hk0c.out.trans Kd.out⟩
          · obtain rfl : n = k := by omega
            have E3 := Hid.mk (EV.out.trans (if_pos (lnO_yes.2 Hall.out)))
            have K := Hid.mk (hk0c.out.trans hkr)
            clear EV Hall HP hkr Hkr hk0c C3
            go_wp2
            go_loopw [5] (fun i wz => ∃ k : Nat, k ≤ n ∧ i = .int .i64 (k : Int) ∧ (∀ j, j < k → abv (F j) (ln j) (mx D) = false) ∧ Kept [] wr wz) (fun i _ => n - (intOf i).toNat)
            case atStart => exact ⟨0, by omega, rfl, fun j hj => by omega, Kept.refl _ _⟩
            case round =>
              obtain ⟨k, hk2, rfl, hall, hkz⟩ := hrel
              have Hall := Hid.mk hall
              have Hkz := Hid.mk (K.out.trans hkz)
              have Hkz2 := Hid.mk hkz
              have Q4 := Hid.mk (Q3.out.keep hkz (by simp))
              obtain ⟨z0, z1, z2, z3, z4⟩ := Q4.out
              clear t0 t1 t2 t3 t4 hall
              by_cases hlt : k < n
              · obtain ⟨g, off, bo, cc, rfl, hc, hrd⟩ := (Hr.out.keep Hkz.out).at hlt
                have ix : (k : Int) < (n : Int) := by omega
                have D2 := Hid.mk (CA.out wr.drew k hlt bo cc (hrd.keep ((Kept.refl [] _).drew)))
                have HN := Hid.mk (fun h => smB_yes (F := F) (ln := ln) (M := mx D) hlt h)
                have HY : Hid (abv (F k) (ln k) (mx D) = false → ∀ j, j < k + 1 → abv (F j) (ln j) (mx D) = false) := Hid.mk (fun h j hj => by
                  by_cases e : j = k
                  · subst e; exact h
                  · exact Hall.out j (by omega))
                obtain ⟨x, ex⟩ : ∃ x, x = abv (F k) (ln k) (mx D) := ⟨_, rfl⟩
                rw [← ex] at D2 HN HY
                obtain ⟨y, ey⟩ : ∃ y, y = ln k := ⟨_, rfl⟩
                rw [← ey] at hc D2
                have HC := Hid.mk hc
                clear ex ey hkz hrd
                go_upto_region 14 with (fail)
                go_cut [6] (fun s wd => s = .bool x ∧ Kept [] wr wd)
                case first =>
                  go_region_held_law (fun w' => w'.cell? ⟨b, 0, none⟩ = some (.int .i64 W) ∧ w'.cell? ⟨b, 1, none⟩ = some (.int .i64 H) ∧ w'.cell? ⟨b, 2, none⟩ = some (.int .i64 D) ∧ w'.cell? ⟨b, 3, none⟩ = some (.bool A) ∧ w'.cell? ⟨b, 4, none⟩ = some (.slice (some ⟨g, off, none⟩) n c) ∧ w'.cell? ⟨g, off + k, none⟩ = some (.slice bo y cc)) (first | exact ⟨z0, z1, z2, z3, z4, hc⟩ | exact ⟨t0, t1, t2, t3, t4, t5⟩ | go_keep) (first | (go_at_call 67; refine D2.out.mono ?_; rintro e w2 ⟨rfl, hk2⟩; obtain ⟨t0, t1, t2, t3, t4⟩ := Q4.out.keep hk2.undrew (by simp); have t5 := cell_keep hk2.undrew HC.out (by simp)))
                  all_goals go_wp2
                  all_goals go_meet
                  all_goals exact ⟨rfl, hk2.undrew⟩
                case rest =>
                  obtain ⟨rfl, hkd⟩ := hcut
                  have Kd := Hid.mk (Hkz2.out.trans hkd)
                  have Kd2 := Hid.mk (Hkz.out.trans hkd)
                  clear hkd z0 z1 z2 z3 z4 hc Q4 HC
                  cases x
                  · have HY2 := Hid.mk (HY.out rfl)
                    clear HY HN
                    go_wp2
                    go_roundw
                    case rel => exact ⟨k + 1, by omega, by go_num, HY2.out, Kd.out⟩
                    case measure => simp [intOf]; omega
                  · have HN2 := Hid.mk (HN.out rfl)
                    clear HY HN
                    go_wp2
                    go_ret
                    rw [HN2.out] at E3
                    exact ⟨ret_int E3.out.symm, Kd2.out⟩
              · obtain rfl : n = k := by omega
                have HN2 := Hid.mk (smB_no.2 Hall.out)
                clear Hall
                go_wp2
                go_ret
                rw [HN2.out] at E3
                exact ⟨ret_int E3.out.symm, Hkz.out⟩
      · have EV := Hid.mk (E2.out hN)
        have hN' : ((n : Int) != (N : Int)) = true := by simp; omega
        clear EQ E2
        go_wp2
        go_ret
        exact ⟨ret_int EV.out.symm, hk0c.out⟩
  · rw [e1] at C
    have E : Hid (vE W H D A n ln F = 61) := Hid.mk (by unfold vE; rw [e1]; rfl)
    clear e1 h1
    go_enter Tryz.func37, Tryz.ntmps37
    go_wp2_with (first | (go_at_call 60; refine (C.out _).mono ?_; rintro e w1 ⟨rfl, hk1⟩))
    go_ret
    exact ⟨ret_int E.out.symm, hk0.out.trans hk1⟩
end Go.Proofs.YthhegomjipbdbaaGreatDoor.Tl
