import Derived.Test.YthkpligodbkofaaGreatDoorqZ
namespace Go.Proofs.YthkpligodbkofaaGreatDoor.Pc
open Go.RowKit

set_option maxHeartbeats 8000000 in
set_option maxRecDepth 1000000 in
theorem ladder_no (W H D : Int) (A : Bool) (po : Option Addr) (m d : Nat) (ln : Nat → Nat) (F : Nat → Nat → Nat) (sw sh : Int) (lo : Option Addr) (n c : Nat) (L : Nat → Nat → Int) (cap p raw : Int) (w : World) (hT : Tab w)
    (hP : Tl.Pl w po m ln F) (hm : m ≤ 9223372036854775807) (hln : ∀ i, i < m → ln i ≤ 9223372036854775807) (hF : ∀ i, i < m → ∀ j, j < ln i → F i j < 65536) (hL : Ldr w lo n L) (hn9 : n ≤ 9223372036854775807)
    (hE : ¬ (cfE W H D A sw sh n L cap p = 0 ∧ Tl.vE W H D A m ln F = 0)) :
    Calls Tryz.prog 4 #[Tl.frv W H D A po m d, cfv sw sh lo n c cap p, .int .i64 raw] w fun e w' => e = .returned (.bool true) ∧ Kept [] w w' := by
  obtain ⟨w1, e1⟩ : ∃ w1, w.alloc (.cells #[.int .i64 W, .int .i64 H, .int .i64 D, .bool A, .slice po m d] 38 (0, 0)) = w1 := ⟨_, rfl⟩
  obtain ⟨w2, e2⟩ : ∃ w2, w1.alloc (.cells #[.int .i64 sw, .int .i64 sh, .slice lo n c, .int .i64 cap, .int .i64 p] 24 (0, 0)) = w2 := ⟨_, rfl⟩
  obtain ⟨B, eB⟩ : ∃ B, w.heap.size = B := ⟨_, rfl⟩
  have z1 : w1.heap.size = B + 1 := by rw [← e1, ← eB]; exact Array.size_push _
  have k1 : Kept [] w w1 := by rw [← e1]; exact (Kept.refl [] w).alloc _
  have k2 : Kept [] w1 w2 := by rw [← e2]; exact (Kept.refl [] w1).alloc _
  have HS := Hid.mk (k2.heap (show w1.heap[B]? = some (.cells #[.int .i64 W, .int .i64 H, .int .i64 D, .bool A, .slice po m d] 38 (0, 0)) by rw [← e1, ← eB]; exact heap_alloc_new _ _) (by simp))
  have HC := Hid.mk (show w2.heap[B + 1]? = some (.cells #[.int .i64 sw, .int .i64 sh, .slice lo n c, .int .i64 cap, .int .i64 p] 24 (0, 0)) by rw [← e2, ← z1]; exact heap_alloc_new _ _)
  have K2 := Hid.mk (k1.trans k2)
  have C0 := Hid.mk (pshown_any w2 (hT.kept K2.out (by simp)))
  have C1 := Hid.mk (fun u (ku : Kept [] w u) => rValid_any W H D A sw sh lo n c L cap p u (hL.keep ku) hn9)
  have C2 := Hid.mk (fun u (ku : Kept [] w u) => Tl.rvalid_any W H D A po m d ln F u (hP.keep ku) hm hln hF)
  obtain ⟨E1, eE1⟩ : ∃ E, Tl.vE W H D A m ln F = E := ⟨_, rfl⟩
  obtain ⟨E2, eE2⟩ : ∃ E, cfE W H D A sw sh n L cap p = E := ⟨_, rfl⟩
  rw [eE1] at C2 hE
  rw [eE2] at C1 hE
  obtain ⟨q0, q1, q2, q3, q4⟩ := cel5 HC.out
  obtain ⟨t0, t1, t2, t3, t4⟩ := cel5 HS.out
  clear hT hP hm hln hF hL hn9 k1 k2 eE1 eE2
  go_enter Tryz.func4, Tryz.ntmps4
  go_wp2_with (fail)
  clear e1 e2 z1 eB q0 q1 q2 q3 q4 t0 t1 t2 t3 t4
  refine C0.out.mono ?_
  rintro e w3 ⟨rfl, k3⟩
  have K3 := Hid.mk k3
  clear k3 C0
  obtain ⟨q0, q1, q2, q3, q4⟩ := cel5 (K3.out.heap HC.out (by simp))
  obtain ⟨t0, t1, t2, t3, t4⟩ := cel5 (K3.out.heap HS.out (by simp))
  go_wp2_with (fail)
  refine (C1.out _ (K2.out.trans K3.out)).mono ?_
  rintro e w4 ⟨rfl, k4⟩
  have K4 := Hid.mk (K3.out.trans k4)
  clear k4 q0 q1 q2 q3 q4 t0 t1 t2 t3 t4
  by_cases h2 : E2 = 0
  · subst h2
    have h1 : (E1 != 0) = true := by simpa using hE
    obtain ⟨t0, t1, t2, t3, t4⟩ := cel5 (K4.out.heap HS.out (by simp))
    clear hE
    go_wp2_with (fail)
    refine (C2.out _ (K2.out.trans K4.out)).mono ?_
    rintro e w5 ⟨rfl, k5⟩
    have K5 := Hid.mk (K4.out.trans k5)
    clear k5 t0 t1 t2 t3 t4
    go_wp2
    go_ret
    exact ⟨rfl, K2.out.trans K5.out⟩
  · have h1 : (E2 != 0) = true := by simpa using h2
    clear hE h2
    go_wp2
    go_ret
    exact ⟨rfl, K2.out.trans K4.out⟩

/-- PictureLadder holds of every frame, configuration and number. -/
theorem ladder_row (W H D : Int) (A : Bool) (po : Option Addr) (m d : Nat) (ln : Nat → Nat) (F : Nat → Nat → Nat) (sw sh : Int) (lo : Option Addr) (n c : Nat) (L : Nat → Nat → Int) (cap p raw : Int) (w : World) (hT : Tab w)
    (hP : Plc w po m ln F) (hm : m ≤ 9223372036854775807) (hln : ∀ i, i < m → ln i ≤ 9223372036854775807) (hF : ∀ i, i < m → ∀ j, j < ln i → F i j < 65536) (hL : Ldr w lo n L) (hn : n ≤ 9223372036854775807) (s : -9223372036854775808 ≤ sw ∧ sw ≤ 9223372036854775807)
    (_ : -9223372036854775808 ≤ sh ∧ sh ≤ 9223372036854775807) (_ : -9223372036854775808 ≤ cap ∧ cap ≤ 9223372036854775807) (_ : -9223372036854775808 ≤ p ∧ p ≤ 9223372036854775807) (x : -9223372036854775808 ≤ raw ∧ raw ≤ 9223372036854775807) :
    Calls Tryz.prog 4 #[Tl.frv W H D A po m d, cfv sw sh lo n c cap p, .int .i64 raw] w fun e w' => e = .returned (.bool true) ∧ Kept [] w w' := by
  by_cases hE : cfE W H D A sw sh n L cap p = 0 ∧ Tl.vE W H D A m ln F = 0
  · have hv := Tl.vE_zero.1 hE.2
    have hc := cfE_zero.1 hE.1
    have g := hc.gd
    have hpr : 0 ≤ p ∧ p ≤ 16 := by have h9 := hc.pr; unfold pmb at h9; exact (of_decide_eq_true h9).1
    obtain ⟨pn, rfl⟩ : ∃ pn : Nat, p = (pn : Int) := ⟨p.toNat, by omega⟩
    have hcr0 : 0 ≤ Tl.cl W sw * Tl.cl H sh := Int.mul_nonneg (by have := g.c0; omega) (by have := g.r0; omega)
    have hX0 : ∀ i, ∃ X, Cod W H D sw sh (Tl.cl W sw) (Tl.cl W sw * Tl.cl H sh).toNat m F (L i) X := fun i => cod_ex hv g (by omega) (L i)
    have hX := fun i => (hX0 i).choose_spec
    have hld := (lmb_yes.1 hc.ld).1
    have hbd := (rcl_bd hv hc rfl (fun i _ => hX i) (i := 0) (by omega)).2.2
    refine ladder_yes W H D A po m d ln F sw sh lo n c L cap (pn : Int) raw pn (Tl.cl W sw * Tl.cl H sh).toNat _ _ _ (bnd W H D sw sh A (pn : Int)) w hT hP.pl hm hln hF hL hld.1 hld.2 s.1 s.2 x.1 x.2 hE.2 hE.1 rfl
      (fun cap' h0 u P ku hG => jw_ok W H D A po m d ln F sw sh lo n c L cap' pn (Tl.cl W sw * Tl.cl H sh).toNat (fun i => (hX0 i).choose) w hv (cfE_zero.1 (cfE_cap hE.1 h0)) rfl (fun i _ => hX i) hP hT u P ku hG)
      (fun u ku => pBound_ok W H D A sw sh lo n c L cap (pn : Int) u (hL.keep ku) hn s.1 s.2 hc)
      (fun i hi => ?_) hbd
    have h1 := rcl_bd hv hc rfl (fun i _ => hX i) hi
    have h2 := rcl_top hv hc rfl (fun i _ => hX i) hi
    refine ⟨h1.1, h1.2.1, h2, ?_⟩
    rw [recB_len, psv_len]
  · exact ladder_no W H D A po m d ln F sw sh lo n c L cap p raw w hT hP.pl hm hln hF hL hn hE
end Go.Proofs.YthkpligodbkofaaGreatDoor.Pc
