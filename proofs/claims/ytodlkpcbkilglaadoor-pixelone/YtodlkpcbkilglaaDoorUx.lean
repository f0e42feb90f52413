import Derived.Test.YtodlkpcbkilglaaDoorUp
namespace Go.Proofs.YtodlkpcbkilglaaDoor
open Go.RowKit Go.Shelf
attribute [local go_sem] Oper.semAt_some

/-- The answers' boxes of an error. -/
theorem zero_fin {w w2 : World} {P6 P7 : Nat} (x : Int) (g6 : w2.heap[P6]? = some (.cells #[.int .i64 0, .int .i64 0, .int .i64 0, .bool false, .slice none 0 0] 31 (0, 0))) (g7 : w2.heap[P7]? = some (.cells #[.int .i64 0] 25 (0, 0))) (hk : Kept [] w w2) (n67 : P6 ≠ P7) (l6 : w.heap.size ≤ P6) (l7 : w.heap.size ≤ P7) :
    ((((((w2.setCell ⟨P6, 0, none⟩ (.int .i64 0)).setCell ⟨P6, 1, none⟩ (.int .i64 0)).setCell ⟨P6, 2, none⟩ (.int .i64 0)).setCell ⟨P6, 3, none⟩ (.bool false)).setCell ⟨P6, 4, none⟩ (.slice none 0 0)).setCell ⟨P7, 0, none⟩ (.int .i64 x)).heap[P6]? = some (.cells #[.int .i64 0, .int .i64 0, .int .i64 0, .bool false, .slice none 0 0] 31 (0, 0)) ∧ ((((((w2.setCell ⟨P6, 0, none⟩ (.int .i64 0)).setCell ⟨P6, 1, none⟩ (.int .i64 0)).setCell ⟨P6, 2, none⟩ (.int .i64 0)).setCell ⟨P6, 3, none⟩ (.bool false)).setCell ⟨P6, 4, none⟩ (.slice none 0 0)).setCell ⟨P7, 0, none⟩ (.int .i64 x)).cell? ⟨P7, 0, none⟩ = some (.int .i64 x) ∧ Kept [] w ((((((w2.setCell ⟨P6, 0, none⟩ (.int .i64 0)).setCell ⟨P6, 1, none⟩ (.int .i64 0)).setCell ⟨P6, 2, none⟩ (.int .i64 0)).setCell ⟨P6, 3, none⟩ (.bool false)).setCell ⟨P6, 4, none⟩ (.slice none 0 0)).setCell ⟨P7, 0, none⟩ (.int .i64 x)) := by
  have s5 := set5 (.int .i64 0) (.int .i64 0) (.int .i64 0) (.bool false) (.slice none 0 0) g6
  obtain ⟨wz, ewz⟩ : ∃ wz, wz = (((((w2.setCell ⟨P6, 0, none⟩ (.int .i64 0)).setCell ⟨P6, 1, none⟩ (.int .i64 0)).setCell ⟨P6, 2, none⟩ (.int .i64 0)).setCell ⟨P6, 3, none⟩ (.bool false)).setCell ⟨P6, 4, none⟩ (.slice none 0 0)) := ⟨_, rfl⟩
  rw [← ewz] at s5 ⊢
  have kz : Kept [P7] wz (wz.setCell ⟨P7, 0, none⟩ (.int .i64 x)) := (Kept.refl _ _).setCell (.inl (by simp)) _
  have g7z := s5.2.heap g7 (by simp; omega)
  have e7 : (wz.setCell ⟨P7, 0, none⟩ (.int .i64 x)).heap[P7]? = some (.cells #[.int .i64 x] 25 (0, 0)) := by rw [heap_setCell_at g7z]; rfl
  exact ⟨kz.heap s5.1 (by simp; omega), one_cell e7, (hk.step s5.2 (fun y hy => by simp at hy; right; omega)).step kz (fun y hy => by simp at hy; right; omega)⟩

set_option maxHeartbeats 16000000 in
set_option maxRecDepth 1000000 in
/-- unpack of a shape that is refused, or of bytes of another length. -/
theorem unpack_no (f1 f2 f3 f4 f5 : Nat) (W H D : Int) (A : Bool) (bo : Option Addr) (M cb : Nat) (Z E : Int) (w : World) (CZ : ∀ u, Calls Tryd.prog 36 #[fmv f1 f2 f3 f4 f5, shv W H D A] u fun e w' => e = .returned (.tuple #[.int .i64 Z, .int .i64 E]) ∧ Kept [] u w') (hno : E ≠ 0 ∨ (M : Int) ≠ Z) :
    Calls Tryd.prog 57 #[fmv f1 f2 f3 f4 f5, shv W H D A, .slice bo M cb] w fun e w' => e = .returned (.tuple #[frv 0 0 0 false none 0 0, .int .i64 (if E = 0 then 72 else E)]) ∧ Kept [] w w' := by
  have CZ := Hid.mk CZ
  obtain ⟨⟨a0, a1, a2, a3, a4⟩, ka, za⟩ := alloc5 w (.cells #[fnv f1, fnv f2, fnv f3, fnv f4, fnv f5] 65) (.cells #[.int .i64 W, .int .i64 H, .int .i64 D, .bool A] 24) (.cells #[.slice bo M cb] 37) (.cells #[.int .i64 0, .int .i64 0, .int .i64 0, .bool false, .slice none 0 0] 31) (.cells #[.int .i64 0] 25)
  obtain ⟨wa, ewa⟩ : ∃ wa, ((((w.alloc (.cells #[fnv f1, fnv f2, fnv f3, fnv f4, fnv f5] 65)).alloc (.cells #[.int .i64 W, .int .i64 H, .int .i64 D, .bool A] 24)).alloc (.cells #[.slice bo M cb] 37)).alloc (.cells #[.int .i64 0, .int .i64 0, .int .i64 0, .bool false, .slice none 0 0] 31)).alloc (.cells #[.int .i64 0] 25) = wa := ⟨_, rfl⟩
  rw [ewa] at a0 a1 a2 a3 a4 ka za
  refine (callsIn_wide (n := 0)).1 ?_
  refine callsIn_of_wp_marks Tryd.func57 rfl trivial ?_ rfl
  simp only [Tryd.ntmps57, List.size_toArray, List.length_cons, List.length_nil, Nat.reduceAdd, Nat.reduceSub, Array.replicate_succ, Array.replicate_zero, List.push_toArray, List.append_toArray, List.nil_append, List.cons_append]
  refine wpIn_wide.2 ?_
  obtain ⟨⟨p0, p1, p2, p3, p4⟩, _⟩ := five a0
  obtain ⟨q0, q1, q2, q3⟩ : wa.cell? ⟨w.heap.size + 1, 0, none⟩ = some (.int .i64 W) ∧ wa.cell? ⟨w.heap.size + 1, 1, none⟩ = some (.int .i64 H) ∧ wa.cell? ⟨w.heap.size + 1, 2, none⟩ = some (.int .i64 D) ∧ wa.cell? ⟨w.heap.size + 1, 3, none⟩ = some (.bool A) := by
    refine ⟨?_, ?_, ?_, ?_⟩ <;> (rw [cell_of_row _ _ _ _ _ _ a1]; rfl)
  have HA := Hid.mk (And.intro a2 (And.intro a3 (And.intro a4 ka)))
  clear a0 a1 a2 a3 a4 ka za
  go_wp2_with (fail)
  obtain ⟨P7, e7⟩ : ∃ P7, P7 = w.heap.size + 1 + 1 + 1 + 1 := ⟨_, rfl⟩
  obtain ⟨P6, e6⟩ : ∃ P6, P6 = w.heap.size + 1 + 1 + 1 := ⟨_, rfl⟩
  obtain ⟨P5, e5⟩ : ∃ P5, P5 = w.heap.size + 1 + 1 := ⟨_, rfl⟩
  obtain ⟨P4, e4⟩ : ∃ P4, P4 = w.heap.size + 1 := ⟨_, rfl⟩
  obtain ⟨P3, e3⟩ : ∃ P3, P3 = w.heap.size := ⟨_, rfl⟩
  have HP := Hid.mk (And.intro e3 (And.intro e4 (And.intro e5 (And.intro e6 e7))))
  rw [← e7, ← e6, ← e5, ← e4, ← e3]
  rw [← e7, ← e6, ← e5] at HA
  clear p0 p1 p2 p3 p4 q0 q1 q2 q3
  have n67 : P6 ≠ P7 := by omega
  have n76 : P7 ≠ P6 := by omega
  clear e3 e4 e5 e6 e7
  refine (CZ.out _).mono ?_
  rintro e w2 ⟨rfl, hk2⟩
  obtain ⟨a2, a3, a4, ka⟩ := HA.out
  have c5 := one_cell (hk2.heap a2 (by simp))
  have g6 := hk2.heap a3 (by simp)
  have g7 := hk2.heap a4 (by simp)
  obtain ⟨⟨r0, r1, r2, r3, r4⟩, s0, s1, s2, s3, s4⟩ := five g6
  have r7 := one_cell g7
  have s7 : w2.frozen? ⟨P7, 0, none⟩ = false := by simp [World.frozen?, g7]
  have HG := Hid.mk (And.intro g6 (And.intro g7 (ka.trans hk2)))
  clear a2 a3 a4 ka hk2 g6 g7 HA CZ
  by_cases hE : E = 0
  · subst hE
    have hm : (M : Int) ≠ Z := by simpa using hno
    have hm2 : ((M : Int) != Z) = true := by simpa using hm
    have hm3 : ¬ (M : Int) = Z := hm
    clear hno
    go_wp2
    obtain ⟨g6, g7, hk⟩ := HG.out
    obtain ⟨h3, h4, h5, h6, h7⟩ := HP.out
    obtain ⟨f6, f7, f8⟩ := zero_fin (w := w) 72 g6 g7 hk n67 (by omega) (by omega)
    exact ⟨_, results_two_cells rfl _ _ P6 P7 31 _ (0, 0) _ _ rfl f6 Tryd.underlying31 Tryd.info38 rfl f7, rfl, f8⟩
  · have hE2 : (E != 0) = true := by simpa using hE
    clear hno
    go_wp2
    obtain ⟨g6, g7, hk⟩ := HG.out
    obtain ⟨h3, h4, h5, h6, h7⟩ := HP.out
    obtain ⟨f6, f7, f8⟩ := zero_fin (w := w) E g6 g7 hk n67 (by omega) (by omega)
    exact ⟨_, results_two_cells rfl _ _ P6 P7 31 _ (0, 0) _ _ rfl f6 Tryd.underlying31 Tryd.info38 rfl f7, by first | rfl | rw [if_neg hE], f8⟩
end Go.Proofs.YtodlkpcbkilglaaDoor
