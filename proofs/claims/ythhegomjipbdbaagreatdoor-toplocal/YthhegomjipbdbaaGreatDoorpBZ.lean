import Derived.Test.YthhegomjipbdbaaGreatDoorWZ
import Derived.Test.YthhegomjipbdbaaGreatDoortA1Z
import Derived.Deep.RegionHeldLaw
import Derived.Test.YthhegomjipbdbaaGreatDoortA5Z
namespace Go.Proofs.YthhegomjipbdbaaGreatDoor.Pc
open Go.RowKit

/-- A rung as a value. -/
abbrev rgv (r : Nat → Int) : Value := .agg #[.int .i64 (r 0), .int .i64 (r 1), .int .i64 (r 2), .int .i64 (r 3)]
/-- A configuration as a value. -/
abbrev cfv (sw sh : Int) (lo : Option Addr) (n c : Nat) (cap p : Int) : Value := .agg #[.int .i64 sw, .int .i64 sh, .slice lo n c, .int .i64 cap, .int .i64 p]
/-- A tolerance may be. -/
def tol (x : Int) : Bool := decide (0 ≤ x ∧ x ≤ 63)
theorem tol_yes {x : Int} : tol x = true ↔ 0 ≤ x ∧ x ≤ 63 := by unfold tol; simp
theorem tol_no {x : Int} (h : ¬ (0 ≤ x ∧ x ≤ 63)) : tol x = false := by unfold tol; simpa using h
/-- A rung may be. -/
def rmb (r : Nat → Int) (A : Bool) : Bool := tol (r 0) && tol (r 1) && tol (r 2) && tol (r 3) && (A || decide (r 3 = 0))
theorem rmb_no {r : Nat → Int} {A : Bool} {i : Nat} (hi : i < 4) (h : tol (r i) = false) : rmb r A = false := by
  unfold rmb
  rcases (show i = 0 ∨ i = 1 ∨ i = 2 ∨ i = 3 by omega) with rfl | rfl | rfl | rfl <;> simp [h]
theorem rmb_all {r : Nat → Int} {A : Bool} (h : ∀ i, i < 4 → tol (r i) = true) : rmb r A = (A || decide (r 3 = 0)) := by
  unfold rmb
  rw [h 0 (by omega), h 1 (by omega), h 2 (by omega), h 3 (by omega)]; simp
theorem rmb_tol {r : Nat → Int} {A : Bool} (h : rmb r A = true) {i : Nat} (hi : i < 4) : 0 ≤ r i ∧ r i ≤ 63 := by
  rw [← tol_yes]
  cases e : tol (r i)
  · rw [rmb_no hi e] at h; cases h
  · rfl
/-- A ladder that is read. -/
def Ldr (w : World) (lo : Option Addr) (n : Nat) (L : Nat → Nat → Int) : Prop := n = 0 ∨ ∃ g off, lo = some ⟨g, off, none⟩ ∧ ∀ i, i < n → ∀ j, j < 4 → w.cell? ⟨g, off + i * 4 + j, none⟩ = some (.int .i64 (L i j))
theorem Ldr.keep {w w' : World} {lo : Option Addr} {n : Nat} {L : Nat → Nat → Int} (h : Ldr w lo n L) (hk : Kept [] w w') : Ldr w' lo n L := by
  rcases h with h | ⟨g, off, e, hc⟩
  · exact .inl h
  · exact .inr ⟨g, off, e, fun i hi j hj => Tl.cell_keep hk (hc i hi j hj) (by simp)⟩
/-- A ladder may be. -/
def lmb (n : Nat) (L : Nat → Nat → Int) (A : Bool) : Bool := decide (1 ≤ n ∧ n ≤ 16) && (List.range n).all fun i => rmb (L i) A
theorem lmb_yes {n : Nat} {L : Nat → Nat → Int} {A : Bool} : lmb n L A = true ↔ (1 ≤ n ∧ n ≤ 16) ∧ ∀ i, i < n → rmb (L i) A = true := by
  unfold lmb; simp
theorem lmb_no {n i : Nat} {L : Nat → Nat → Int} {A : Bool} (hi : i < n) (h : rmb (L i) A = false) : lmb n L A = false := by
  cases e : lmb n L A
  · rfl
  · rw [(lmb_yes.1 e).2 i hi] at h; cases h
theorem lmb_len {n : Nat} {L : Nat → Nat → Int} {A : Bool} (h : ¬ (1 ≤ n ∧ n ≤ 16)) : lmb n L A = false := by
  unfold lmb; simp only [h, decide_false, Bool.false_and]
/-- So many parity rows may be. -/
def pmb (p n : Int) : Bool := decide ((0 ≤ p ∧ p ≤ 16) ∧ (p = 0 ∨ n ≤ 200))

set_option maxHeartbeats 4000000 in
set_option maxRecDepth 1000000 in
theorem rungMayBe_any (r : Nat → Int) (W H D : Int) (A : Bool) (w : World) :
    Calls Tryz.prog 42 #[rgv r, .agg #[.int .i64 W, .int .i64 H, .int .i64 D, .bool A]] w fun e w' => e = .returned (.bool (rmb r A)) ∧ Kept [] w w' := by
  have HW := Hid.mk (((Kept.refl [] w).alloc (.cells #[.int .i64 (r 0), .int .i64 (r 1), .int .i64 (r 2), .int .i64 (r 3)] 25 (0, 0))).alloc (.cells #[.int .i64 W, .int .i64 H, .int .i64 D, .bool A] 23 (0, 0)))
  have HN := Hid.mk (fun i hi h => rmb_no (r := r) (A := A) (i := i) hi h)
  have HA := Hid.mk (fun h => rmb_all (r := r) (A := A) h)
  have HT := Hid.mk (fun i h => tol_no (x := r i) h)
  have HY := Hid.mk (fun i h => (tol_yes (x := r i)).2 h)
  obtain ⟨R, eR⟩ : ∃ R, rmb r A = R := ⟨_, rfl⟩
  rw [eR] at HN HA ⊢
  go_enter Tryz.func42, Tryz.ntmps42
  go_wp2
  obtain ⟨w2, e2⟩ : ∃ w2, w2 = ((w.alloc (.cells #[.int .i64 (r 0), .int .i64 (r 1), .int .i64 (r 2), .int .i64 (r 3)] 25 (0, 0))).alloc (.cells #[.int .i64 W, .int .i64 H, .int .i64 D, .bool A] 23 (0, 0))) := ⟨_, rfl⟩
  have c3 : w2.cell? ⟨w.heap.size, 3, none⟩ = some (.int .i64 (r 3)) := by subst e2; go_simp
  have s3 : w2.cell? ⟨w.heap.size + 1, 3, none⟩ = some (.bool A) := by subst e2; go_simp
  rw [← e2] at HW ⊢
  clear e2
  obtain ⟨a0, g0⟩ : ∃ a, r 0 = a := ⟨_, rfl⟩
  obtain ⟨a1, g1⟩ : ∃ a, r 1 = a := ⟨_, rfl⟩
  obtain ⟨a2, g2⟩ : ∃ a, r 2 = a := ⟨_, rfl⟩
  obtain ⟨a3, g3⟩ : ∃ a, r 3 = a := ⟨_, rfl⟩
  have N0 : Hid (¬ (0 ≤ a0 ∧ a0 ≤ 63) → R = false) := Hid.mk (fun h => HN.out 0 (by omega) (HT.out 0 (by rw [g0]; exact h)))
  have N1 : Hid (¬ (0 ≤ a1 ∧ a1 ≤ 63) → R = false) := Hid.mk (fun h => HN.out 1 (by omega) (HT.out 1 (by rw [g1]; exact h)))
  have N2 : Hid (¬ (0 ≤ a2 ∧ a2 ≤ 63) → R = false) := Hid.mk (fun h => HN.out 2 (by omega) (HT.out 2 (by rw [g2]; exact h)))
  have N3 : Hid (¬ (0 ≤ a3 ∧ a3 ≤ 63) → R = false) := Hid.mk (fun h => HN.out 3 (by omega) (HT.out 3 (by rw [g3]; exact h)))
  have HF : Hid ((0 ≤ a0 ∧ a0 ≤ 63) → (0 ≤ a1 ∧ a1 ≤ 63) → (0 ≤ a2 ∧ a2 ≤ 63) → (0 ≤ a3 ∧ a3 ≤ 63) → R = (A || decide (a3 = 0))) := Hid.mk (fun h0 h1 h2 h3 => by
    rw [← g3]
    refine HA.out (fun i hi => HY.out i ?_)
    rcases (show i = 0 ∨ i = 1 ∨ i = 2 ∨ i = 3 by omega) with rfl | rfl | rfl | rfl
    · rw [g0]; exact h0
    · rw [g1]; exact h1
    · rw [g2]; exact h2
    · rw [g3]; exact h3)
  rw [g3] at c3
  simp only [g0, g1, g2, g3]
  clear g0 g1 g2 g3 HN HA HT HY eR
  have i0 : ∀ w, (Instr.index 25 (.agg #[.int .i64 a0, .int .i64 a1, .int .i64 a2, .int .i64 a3]) (.int .i64 0)).run Tryz.prog w = .ok (.int .i64 a0) w := fun _ => by kernel_rfl
  have i1 : ∀ w, (Instr.index 25 (.agg #[.int .i64 a0, .int .i64 a1, .int .i64 a2, .int .i64 a3]) (.int .i64 1)).run Tryz.prog w = .ok (.int .i64 a1) w := fun _ => by kernel_rfl
  have i2 : ∀ w, (Instr.index 25 (.agg #[.int .i64 a0, .int .i64 a1, .int .i64 a2, .int .i64 a3]) (.int .i64 2)).run Tryz.prog w = .ok (.int .i64 a2) w := fun _ => by kernel_rfl
  have i3 : ∀ w, (Instr.index 25 (.agg #[.int .i64 a0, .int .i64 a1, .int .i64 a2, .int .i64 a3]) (.int .i64 3)).run Tryz.prog w = .ok (.int .i64 a3) w := fun _ => by kernel_rfl
  go_loop [8] (fun i => ∃ k : Nat, k ≤ 4 ∧ i = .int .i64 (k : Int) ∧ Hid ((1 ≤ k → 0 ≤ a0 ∧ a0 ≤ 63) ∧ (2 ≤ k → 0 ≤ a1 ∧ a1 ≤ 63) ∧ (3 ≤ k → 0 ≤ a2 ∧ a2 ≤ 63) ∧ (4 ≤ k → 0 ≤ a3 ∧ a3 ≤ 63))) (fun i => 4 - (intOf i).toNat)
  case atStart => exact ⟨0, Nat.zero_le _, rfl, Hid.mk (by omega)⟩
  case round =>
    obtain ⟨k, hk, rfl, hall⟩ := hrel
    rcases (show k = 0 ∨ k = 1 ∨ k = 2 ∨ k = 3 ∨ k = 4 by omega) with rfl | rfl | rfl | rfl | rfl
    · by_cases h1 : 0 ≤ a0
      · by_cases h2 : a0 ≤ 63
        · go_wp2
          go_round
          case rel => exact ⟨1, by omega, rfl, Hid.mk (by omega)⟩
          case measure => simp [intOf]
        · go_wp2
          go_ret
          exact ⟨ret_bool (N0.out (by omega)).symm, HW.out⟩
      · go_wp2
        go_ret
        exact ⟨ret_bool (N0.out (by omega)).symm, HW.out⟩
    · by_cases h1 : 0 ≤ a1
      · by_cases h2 : a1 ≤ 63
        · go_wp2
          go_round
          case rel => exact ⟨2, by omega, rfl, Hid.mk (by have := hall.out; omega)⟩
          case measure => simp [intOf]
        · go_wp2
          go_ret
          exact ⟨ret_bool (N1.out (by omega)).symm, HW.out⟩
      · go_wp2
        go_ret
        exact ⟨ret_bool (N1.out (by omega)).symm, HW.out⟩
    · by_cases h1 : 0 ≤ a2
      · by_cases h2 : a2 ≤ 63
        · go_wp2
          go_round
          case rel => exact ⟨3, by omega, rfl, Hid.mk (by have := hall.out; omega)⟩
          case measure => simp [intOf]
        · go_wp2
          go_ret
          exact ⟨ret_bool (N2.out (by omega)).symm, HW.out⟩
      · go_wp2
        go_ret
        exact ⟨ret_bool (N2.out (by omega)).symm, HW.out⟩
    · by_cases h1 : 0 ≤ a3
      · by_cases h2 : a3 ≤ 63
        · go_wp2
          go_round
          case rel => exact ⟨4, by omega, rfl, Hid.mk (by have := hall.out; omega)⟩
          case measure => simp [intOf]
        · go_wp2
          go_ret
          exact ⟨ret_bool (N3.out (by omega)).symm, HW.out⟩
      · go_wp2
        go_ret
        exact ⟨ret_bool (N3.out (by omega)).symm, HW.out⟩
    · have HR := Hid.mk (HF.out (hall.out.1 (by omega)) (hall.out.2.1 (by omega)) (hall.out.2.2.1 (by omega)) (hall.out.2.2.2 (by omega)))
      cases A
      · go_wp2
        go_ret
        exact ⟨ret_bool (by rw [HR.out]; first | (simp; done) | (simp; rfl) | rfl), HW.out⟩
      · go_wp2
        go_ret
        exact ⟨ret_bool (by rw [HR.out]; first | (simp; done) | (simp; rfl) | rfl), HW.out⟩

set_option maxHeartbeats 4000000 in
theorem parityMayBe_any (p n : Int) (w : World) : Calls Tryz.prog 56 #[.int .i64 p, .int .i64 n] w fun e w' => e = .returned (.bool (pmb p n)) ∧ w' = w := by
  obtain ⟨R, eR⟩ : ∃ R, pmb p n = R := ⟨_, rfl⟩
  have H1 : Hid ((0 ≤ p ∧ p ≤ 16) ∧ (p = 0 ∨ n ≤ 200) → R = true) := Hid.mk (fun h => by rw [← eR]; unfold pmb; exact decide_eq_true h)
  have H2 : Hid (¬ ((0 ≤ p ∧ p ≤ 16) ∧ (p = 0 ∨ n ≤ 200)) → R = false) := Hid.mk (fun h => by rw [← eR]; unfold pmb; exact decide_eq_false h)
  rw [eR]
  clear eR
  by_cases h1 : 0 ≤ p
  · by_cases h2 : p ≤ 16
    · by_cases h3 : p = 0
      · subst h3
        go_enter Tryz.func56, Tryz.ntmps56
        go_wp2
        go_ret
        exact ⟨ret_bool (by rw [H1.out ⟨⟨h1, h2⟩, .inl (by first | rfl | trivial)⟩]), rfl⟩
      · have e3 : (p == 0) = false := by simpa using h3
        go_enter Tryz.func56, Tryz.ntmps56
        go_wp2
        go_ret
        refine ⟨ret_bool ?_, rfl⟩
        by_cases h4 : n ≤ 200
        · rw [H1.out (by omega)]; simpa using h4
        · rw [H2.out (by omega)]; simpa using h4
    · go_enter Tryz.func56, Tryz.ntmps56
      go_wp2
      go_ret
      exact ⟨ret_bool (by rw [H2.out (by omega)]), rfl⟩
  · go_enter Tryz.func56, Tryz.ntmps56
    go_wp2
    go_ret
    exact ⟨ret_bool (by rw [H2.out (by omega)]), rfl⟩

theorem Ldr.at {w : World} {lo : Option Addr} {n : Nat} {L : Nat → Nat → Int} (h : Ldr w lo n L) {i : Nat} (hi : i < n) : ∃ g off, lo = some ⟨g, off, none⟩ ∧ w.cell? ⟨g, off + i * 4, none⟩ = some (.int .i64 (L i 0)) ∧ w.cell? ⟨g, off + i * 4 + 1, none⟩ = some (.int .i64 (L i 1)) ∧ w.cell? ⟨g, off + i * 4 + 2, none⟩ = some (.int .i64 (L i 2)) ∧ w.cell? ⟨g, off + i * 4 + 3, none⟩ = some (.int .i64 (L i 3)) := by
  rcases h with h | ⟨g, off, e, hc⟩
  · omega
  · exact ⟨g, off, e, hc i hi 0 (by omega), hc i hi 1 (by omega), hc i hi 2 (by omega), hc i hi 3 (by omega)⟩

set_option maxHeartbeats 4000000 in
set_option maxRecDepth 1000000 in
theorem ladderMayBe_any (lo : Option Addr) (n c : Nat) (L : Nat → Nat → Int) (W H D : Int) (A : Bool) (w : World) (hL : Ldr w lo n L) (hn : n ≤ 9223372036854775807) :
    Calls Tryz.prog 74 #[.slice lo n c, .agg #[.int .i64 W, .int .i64 H, .int .i64 D, .bool A]] w fun e w' => e = .returned (.bool (lmb n L A)) ∧ Kept [] w w' := by
  by_cases h1 : 1 ≤ n ∧ n ≤ 16
  · obtain ⟨h1, h2⟩ := h1
    have d1 : decide ((n : Int) < 1) = false := by simp; omega
    have d2 : decide ((16 : Int) < (n : Int)) = false := by simp; omega
    have HL := Hid.mk hL
    have HN := Hid.mk (fun i hi h => lmb_no (n := n) (L := L) (A := A) (i := i) hi h)
    have HY := Hid.mk (fun h => (lmb_yes (n := n) (L := L) (A := A)).2 ⟨⟨h1, h2⟩, h⟩)
    obtain ⟨R, eR⟩ : ∃ R, lmb n L A = R := ⟨_, rfl⟩
    rw [eR] at HN HY ⊢
    clear hL eR hn
    obtain ⟨w1, e1⟩ : ∃ w1, w.alloc (.cells #[.int .i64 W, .int .i64 H, .int .i64 D, .bool A] 23 (0, 0)) = w1 := ⟨_, rfl⟩
    have K1 : Hid (Kept [] w w1) := Hid.mk (by rw [← e1]; exact (Kept.refl [] w).alloc _)
    obtain ⟨s0, s1, s2, s3⟩ : w1.cell? ⟨w.heap.size, 0, none⟩ = some (.int .i64 W) ∧ w1.cell? ⟨w.heap.size, 1, none⟩ = some (.int .i64 H) ∧ w1.cell? ⟨w.heap.size, 2, none⟩ = some (.int .i64 D) ∧ w1.cell? ⟨w.heap.size, 3, none⟩ = some (.bool A) := by
      subst e1; refine ⟨?_, ?_, ?_, ?_⟩ <;> go_simp
    go_enter Tryz.func74, Tryz.ntmps74
    go_wp2
    go_loopw [17] (fun i wr => ∃ k : Nat, k ≤ n ∧ i = .int .i64 (k : Int) ∧ Hid (Kept [] w1 wr) ∧ Hid (∀ j, j < k → rmb (L j) A = true)) (fun i _ => n - (intOf i).toNat)
    case atStart => exact ⟨0, Nat.zero_le _, rfl, Hid.mk (Kept.refl _ _), Hid.mk (fun j hj => by omega)⟩
    case round =>
      obtain ⟨k, hk, rfl, KW, hall⟩ := hrel
      by_cases hlt : k < n
      · obtain ⟨g, off, rfl, c0, c1, c2, c3⟩ := ((HL.out.keep K1.out).keep KW.out).at hlt
        have ix : (k : Int) < (n : Int) := by omega
        have t0 := Tl.cell_keep KW.out s0 (by simp)
        have t1 := Tl.cell_keep KW.out s1 (by simp)
        have t2 := Tl.cell_keep KW.out s2 (by simp)
        have t3 := Tl.cell_keep KW.out s3 (by simp)
        have HNk := Hid.mk (HN.out k hlt)
        have C := Hid.mk (fun u => rungMayBe_any (L k) W H D A u)
        obtain ⟨q, eq⟩ : ∃ q, rmb (L k) A = q := ⟨_, rfl⟩
        rw [eq] at HNk C
        have EQ := Hid.mk eq
        clear eq s0 s1 s2 s3 e1
        obtain ⟨a0, g0⟩ : ∃ a, L k 0 = a := ⟨_, rfl⟩
        obtain ⟨a1, g1⟩ : ∃ a, L k 1 = a := ⟨_, rfl⟩
        obtain ⟨a2, g2⟩ : ∃ a, L k 2 = a := ⟨_, rfl⟩
        obtain ⟨a3, g3⟩ : ∃ a, L k 3 = a := ⟨_, rfl⟩
        simp only [rgv, g0, g1, g2, g3] at C c0 c1 c2 c3
        clear g0 g1 g2 g3
        obtain ⟨w3, e3⟩ : ∃ w3, wr.alloc (.cells #[.int .i64 a0, .int .i64 a1, .int .i64 a2, .int .i64 a3] 25 (0, 0)) = w3 := ⟨_, rfl⟩
        have K3 : Hid (Kept [] wr w3) := Hid.mk (by rw [← e3]; exact (Kept.refl [] wr).alloc _)
        obtain ⟨v0, v1, v2, v3⟩ : w3.cell? ⟨wr.heap.size, 0, none⟩ = some (.int .i64 a0) ∧ w3.cell? ⟨wr.heap.size, 1, none⟩ = some (.int .i64 a1) ∧ w3.cell? ⟨wr.heap.size, 2, none⟩ = some (.int .i64 a2) ∧ w3.cell? ⟨wr.heap.size, 3, none⟩ = some (.int .i64 a3) := by
          subst e3; refine ⟨?_, ?_, ?_, ?_⟩ <;> go_simp
        replace t0 := Tl.cell_keep K3.out t0 (by simp)
        replace t1 := Tl.cell_keep K3.out t1 (by simp)
        replace t2 := Tl.cell_keep K3.out t2 (by simp)
        replace t3 := Tl.cell_keep K3.out t3 (by simp)
        go_wp2_with (fail)
        refine (C.out _).mono ?_
        rintro e w4 ⟨rfl, K4⟩
        have K4 := Hid.mk K4
        clear t0 t1 t2 t3 v0 v1 v2 v3 c0 c1 c2 c3
        cases q
        · go_wp2
          go_ret
          exact ⟨ret_bool (HNk.out (by first | rfl | trivial)).symm, ((K1.out.trans KW.out).trans K3.out).trans K4.out⟩
        · go_wp2
          go_roundw
          case rel => exact ⟨k + 1, by omega, by go_num, Hid.mk ((KW.out.trans K3.out).trans K4.out), Hid.mk (fun j hj => by
            by_cases e : j = k
            · subst e; exact EQ.out
            · exact hall.out j (by omega))⟩
          case measure => simp [intOf]; omega
      · obtain rfl : n = k := by omega
        have HR := Hid.mk (HY.out hall.out)
        go_wp2
        go_ret
        exact ⟨ret_bool HR.out.symm, K1.out.trans KW.out⟩
  · rw [lmb_len h1]
    by_cases h2 : 1 ≤ n
    · have d1 : decide ((n : Int) < 1) = false := by simp; omega
      have d2 : decide ((16 : Int) < (n : Int)) = true := by simp; omega
      clear h1 h2 hn
      go_enter Tryz.func74, Tryz.ntmps74
      go_wp2
      go_ret
      exact ⟨rfl, (Kept.refl [] w).alloc _⟩
    · have d1 : decide ((n : Int) < 1) = true := by simp; omega
      clear h1 h2 hn
      go_enter Tryz.func74, Tryz.ntmps74
      go_wp2
      go_ret
      exact ⟨rfl, (Kept.refl [] w).alloc _⟩
end Go.Proofs.YthhegomjipbdbaaGreatDoor.Pc

namespace Go.Proofs.YthhegomjipbdbaaGreatDoor.Tl
open Go.RowKit

set_option maxHeartbeats 4000000 in
set_option maxRecDepth 1000000 in
theorem rect_any' (P : Nat) (W H D sw sh c r k : Int) (A : Bool) (w : World) (hg : Gr w P W H D A sw sh c r) (g : Gd W H sw sh c r) (k0 : 0 ≤ k) (k1 : k < c * r) :
    Calls Tryz.prog 123 #[.pointer (some ⟨P, 0, none⟩), .int .i64 k] w fun e w' => e = .returned (rcv (sX c sw k) (sY c sh k) (min sw (W - sX c sw k)) (min sh (H - sY c sh k))) ∧ Kept [] w w' := by
  have hx := sX_in g k
  have hy := sY_in g k0 k1
  obtain ⟨w1, ew1, hk1, hb1⟩ := one_new w #[.int .i64 0, .int .i64 0, .int .i64 0, .int .i64 0] 54
  have EW := Hid.mk ew1
  clear ew1
  have HG := Hid.mk (hg.keep hk1 (by simp))
  have hlt := lt_of_block hg
  obtain ⟨g0, g1, g2, g3, g4, g5, g6, g7⟩ := eight HG.out
  have hc0 := g.c0
  have hc1 := g.c1
  have hs0 := g.s0
  have hs1 := g.s1
  have ht0 := g.t0
  have ht1 := g.t1
  have hw1 := g.w1
  have hh1 := g.h1
  have hr1 := g.r1
  have hc : c ≠ 0 := by omega
  have hcr : c * r ≤ 65536 := Int.mul_le_mul (a := c) (b := r) (c := 256) (d := 256) hc1 hr1 (by have := g.r0; omega) (by omega)
  have q1 : wrap64 (k % c * sw) = sX c sw k :=
    w64_in (by have := hx.1; unfold sX at this; omega) (by have := hx.2.1; unfold sX at this; omega)
  have q2 : wrap64 (k / c * sh) = sY c sh k :=
    w64_in (by have := hy.1; unfold sY at this; omega) (by have := hy.2; unfold sY at this; omega)
  have q3 : wrap64 (k.tdiv c) = k / c := by
    rw [Int.tdiv_eq_ediv_of_nonneg k0]
    exact w64_in (by have := Int.ediv_nonneg k0 (show 0 ≤ c by omega); omega) (by have := Int.ediv_le_self c k0; omega)
  clear hg
  go_enter Tryz.func123, Tryz.ntmps123
  go_wp2
  rw [← EW.out]
  obtain ⟨b, eb⟩ : ∃ b, b = w.heap.size := ⟨_, rfl⟩
  rw [← eb] at hb1 hlt ⊢
  have HEB := Hid.mk eb
  clear eb EW
  go_quiet (fail)
  go_wp2
  rw [q1, q2]
  have hk2 := Hid.mk ((Kept.refl [] w1).drewN nq)
  obtain ⟨w2, ew2⟩ : ∃ w2, w2 = w1.drewN nq := ⟨_, rfl⟩
  rw [← ew2] at hk2 ⊢
  clear ew2
  have HB := Hid.mk (hk2.out.heap hb1 (by simp))
  obtain ⟨⟨z0, z1, z2, z3⟩, f0, f1, f2, f3⟩ := four HB.out
  replace HG := Hid.mk (HG.out.keep hk2.out (by simp))
  clear g0 g1 g2 g3 g4 g5 g6 g7 hb1 q1 q2
  obtain ⟨g0, g1, g2, g3, g4, g5, g6, g7⟩ := eight HG.out
  obtain ⟨X, eX⟩ : ∃ X, X = sX c sw k := ⟨_, rfl⟩
  obtain ⟨Y, eY⟩ : ∃ Y, Y = sY c sh k := ⟨_, rfl⟩
  simp only [← eX, ← eY] at hx hy ⊢
  have HX := Hid.mk eX
  have HY := Hid.mk eY
  clear eX eY
  have m1 : IntKind.i64.wrap (W - X) = W - X := wrap_i (by omega) (by omega)
  have m2 : IntKind.i64.wrap (H - Y) = H - Y := wrap_i (by omega) (by omega)
  have hne : P ≠ b := by omega
  have hne2 : b ≠ P := by omega
  have KS : ∀ v0 v1 v2 v3, ((((w2.setCell ⟨b, 0, none⟩ v0).setCell ⟨b, 1, none⟩ v1).setCell ⟨b, 2, none⟩ v2).setCell ⟨b, 3, none⟩ v3).drew.cell? ⟨P, 0, none⟩ = some (.int .i64 W) ∧ ((((w2.setCell ⟨b, 0, none⟩ v0).setCell ⟨b, 1, none⟩ v1).setCell ⟨b, 2, none⟩ v2).setCell ⟨b, 3, none⟩ v3).drew.cell? ⟨P, 1, none⟩ = some (.int .i64 H) ∧ ((((w2.setCell ⟨b, 0, none⟩ v0).setCell ⟨b, 1, none⟩ v1).setCell ⟨b, 2, none⟩ v2).setCell ⟨b, 3, none⟩ v3).drew.cell? ⟨P, 4, none⟩ = some (.int .i64 sw) ∧ ((((w2.setCell ⟨b, 0, none⟩ v0).setCell ⟨b, 1, none⟩ v1).setCell ⟨b, 2, none⟩ v2).setCell ⟨b, 3, none⟩ v3).drew.cell? ⟨P, 5, none⟩ = some (.int .i64 sh) := fun v0 v1 v2 v3 => by
    have K : Kept [b] w2 ((((w2.setCell ⟨b, 0, none⟩ v0).setCell ⟨b, 1, none⟩ v1).setCell ⟨b, 2, none⟩ v2).setCell ⟨b, 3, none⟩ v3).drew :=
      (((((Kept.refl [b] w2).setCell (.inl (by simp)) _).setCell (.inl (by simp)) _).setCell (.inl (by simp)) _).setCell (.inl (by simp)) _).drew
    exact ⟨cell_keep K g0 (by simpa using hne), cell_keep K g1 (by simpa using hne), cell_keep K g4 (by simpa using hne), cell_keep K g5 (by simpa using hne)⟩
  have HKS := Hid.mk KS
  clear KS hne hne2
  go_region_held_law (fun w' => w'.cell? ⟨P, 0, none⟩ = some (.int .i64 W) ∧ w'.cell? ⟨P, 1, none⟩ = some (.int .i64 H) ∧ w'.cell? ⟨P, 4, none⟩ = some (.int .i64 sw) ∧ w'.cell? ⟨P, 5, none⟩ = some (.int .i64 sh)) (first | exact ⟨g0, g1, g4, g5⟩ | exact HKS.out _ _ _ _ | go_keep) (fail)
  all_goals (have s4 := set4 (.int .i64 X) (.int .i64 Y) (.int .i64 (min sw (W - X))) (.int .i64 (min sh (H - Y))) HB.out)
  all_goals (have e1 : (if W - X < sw then W - X else sw) = min sw (W - X) := by omega)
  all_goals (have e2 : (if H - Y < sh then H - Y else sh) = min sh (H - Y) := by omega)
  all_goals (try rw [e1, e2])
  all_goals (clear z0 z1 z2 z3 f0 f1 f2 f3 g0 g1 g2 g3 g4 g5 g6 g7 e1 e2)
  all_goals go_wp2
  all_goals (refine bodyPost_ret (v := rcv X Y (min sw (W - X)) (min sh (H - Y))) ?_ rfl ⟨by rw [HX.out, HY.out], ?_⟩)
  all_goals first | exact results_cell_row rfl _ _ b 54 _ (0, 0) _ rfl s4.1 Tryz.underlying54 rfl Tryz.info54 | exact ((hk1.trans hk2.out).step s4.2 (fun x hx => by simp at hx; subst hx; exact .inr (by have := HEB.out; omega))).drew
end Go.Proofs.YthhegomjipbdbaaGreatDoor.Tl

namespace Go.Proofs.YthhegomjipbdbaaGreatDoor.Tl
open Go.RowKit

/-- A rectangle lies in the frame. -/
def inF (W H X Y w h : Int) : Bool := decide (1 ≤ w ∧ 1 ≤ h ∧ 0 ≤ X ∧ 0 ≤ Y ∧ w ≤ W - X ∧ h ≤ H - Y)
end Go.Proofs.YthhegomjipbdbaaGreatDoor.Tl

namespace Go.Proofs.YthhegomjipbdbaaGreatDoor.Tl
open Go.RowKit

/-- A slice's rectangle. -/
abbrev sR (W H sw sh c k : Int) : Value := rcv (sX c sw k) (sY c sh k) (min sw (W - sX c sw k)) (min sh (H - sY c sh k))
set_option maxHeartbeats 4000000 in
set_option maxRecDepth 1000000 in
theorem trect_ok (P : Nat) (W H D sw sh c r k : Int) (A : Bool) (w : World) (hg : Gr w P W H D A sw sh c r) (g : Gd W H sw sh c r) (k0 : 0 ≤ k) (k1 : k < c * r) :
    Calls Tryz.prog 99 #[.pointer (some ⟨P, 0, none⟩), .int .i64 k] w fun e w' => e = .returned (.tuple #[sR W H sw sh c k, .int .i64 0]) ∧ Kept [] w w' := by
  obtain ⟨w1, ew1, hk1, hb1⟩ := one_new w #[.int .i64 0, .int .i64 0, .int .i64 0, .int .i64 0] 54
  have EW := Hid.mk ew1
  have HG := Hid.mk (hg.keep hk1 (by simp))
  have C1 := Hid.mk (fun u (h : Gr u P W H D A sw sh c r) => count_any' P W H D sw sh c r A u h g.c0 g.c1 g.r0 g.r1)
  have C2 := Hid.mk (fun u (h : Gr u P W H D A sw sh c r) => rect_any' P W H D sw sh c r k A u h g k0 k1)
  clear ew1 hg g
  unfold sR
  obtain ⟨n, hn⟩ : ∃ n, n = c * r := ⟨_, rfl⟩
  obtain ⟨X, eX⟩ : ∃ X, X = sX c sw k := ⟨_, rfl⟩
  obtain ⟨Y, eY⟩ : ∃ Y, Y = sY c sh k := ⟨_, rfl⟩
  obtain ⟨w', eW⟩ : ∃ X', X' = min sw (W - X) := ⟨_, rfl⟩
  obtain ⟨h', eH⟩ : ∃ X', X' = min sh (H - Y) := ⟨_, rfl⟩
  simp only [← eX, ← eY, ← eW, ← eH, ← hn] at C1 C2 k1 ⊢
  clear eX eY eW eH hn
  go_enter Tryz.func99, Tryz.ntmps99
  go_wp2_with (first | (go_at_call 43; rw [← EW.out]; refine (C1.out _ HG.out).mono ?_; rintro e w2 ⟨rfl, hk2⟩) | (go_at_call 123; refine (C2.out _ (HG.out.keep hk2 (by simp))).mono ?_; rintro e w3 ⟨rfl, hk3⟩; have HB := Hid.mk ((hk2.trans hk3).heap hb1 (by simp)); obtain ⟨⟨z0, z1, z2, z3⟩, f0, f1, f2, f3⟩ := four HB.out))
  have s4 := set4 (.int .i64 X) (.int .i64 Y) (.int .i64 w') (.int .i64 h') HB.out
  refine bodyPost_ret (v := .tuple #[rcv X Y w' h', .int .i64 0]) ?_ rfl ⟨rfl, ((hk1.trans hk2).trans hk3).step s4.2 (fun x hx => by simp at hx; subst hx; exact .inr (by omega))⟩
  exact results_two rfl _ _ w.heap.size 54 _ (0, 0) _ _ rfl s4.1 Tryz.underlying54 Tryz.info54 rfl

set_option maxHeartbeats 4000000 in
set_option maxRecDepth 1000000 in
theorem trect_no (P : Nat) (W H D sw sh c r k : Int) (A : Bool) (w : World) (hg : Gr w P W H D A sw sh c r) (g : Gd W H sw sh c r) (kn : k < 0 ∨ c * r ≤ k) :
    Calls Tryz.prog 99 #[.pointer (some ⟨P, 0, none⟩), .int .i64 k] w fun e w' => e = .returned (.tuple #[rcv 0 0 0 0, .int .i64 82]) ∧ Kept [] w w' := by
  obtain ⟨w1, ew1, hk1, hb1⟩ := one_new w #[.int .i64 0, .int .i64 0, .int .i64 0, .int .i64 0] 54
  have EW := Hid.mk ew1
  have HG := Hid.mk (hg.keep hk1 (by simp))
  have C1 := Hid.mk (fun u (h : Gr u P W H D A sw sh c r) => count_any' P W H D sw sh c r A u h g.c0 g.c1 g.r0 g.r1)
  clear ew1 hg g
  obtain ⟨n, hn⟩ : ∃ n, n = c * r := ⟨_, rfl⟩
  simp only [← hn] at C1 kn
  clear hn
  by_cases h0 : k < 0
  · clear kn
    have HB := Hid.mk hb1
    obtain ⟨⟨z0, z1, z2, z3⟩, f0, f1, f2, f3⟩ := four HB.out
    go_enter Tryz.func99, Tryz.ntmps99
    go_wp2_with (fail)
    rw [← EW.out]
    refine bodyPost_ret (v := .tuple #[rcv 0 0 0 0, .int .i64 82]) ?_ rfl ⟨rfl, hk1⟩
    exact results_two rfl _ _ w.heap.size 54 _ (0, 0) _ _ rfl HB.out Tryz.underlying54 Tryz.info54 rfl
  · have h1 : n ≤ k := by omega
    have h2 : 0 ≤ k := by omega
    clear kn
    go_enter Tryz.func99, Tryz.ntmps99
    go_wp2_with (first | (go_at_call 43; rw [← EW.out]; refine (C1.out _ HG.out).mono ?_; rintro e w2 ⟨rfl, hk2⟩; have HB := Hid.mk (hk2.heap hb1 (by simp)); obtain ⟨⟨z0, z1, z2, z3⟩, f0, f1, f2, f3⟩ := four HB.out))
    have s4 := set4 (.int .i64 0) (.int .i64 0) (.int .i64 0) (.int .i64 0) HB.out
    refine bodyPost_ret (v := .tuple #[rcv 0 0 0 0, .int .i64 82]) ?_ rfl ⟨rfl, (hk1.trans hk2).step s4.2 (fun x hx => by simp at hx; subst hx; exact .inr (by omega))⟩
    exact results_two rfl _ _ w.heap.size 54 _ (0, 0) _ _ rfl s4.1 Tryz.underlying54 Tryz.info54 rfl

end Go.Proofs.YthhegomjipbdbaaGreatDoor.Tl

namespace Go.Proofs.YthhegomjipbdbaaGreatDoor.Tl
open Go.RowKit

/-- New's error. -/
def nwE (W H D sw sh : Int) (A : Bool) : Int := if shE W H D A = 0 then (if (16 ≤ sw ∧ sw ≤ 4096) ∧ sw % 2 = 0 ∧ (16 ≤ sh ∧ sh ≤ 4096) then 0 else 81) else 61

set_option maxHeartbeats 8000000 in
set_option maxRecDepth 1000000 in
theorem tnew_ok (W H D sw sh : Int) (A : Bool) (w : World) (hs : Shp W H D A) (s0 : 16 ≤ sw) (s1 : sw ≤ 4096) (se : sw % 2 = 0) (t0 : 16 ≤ sh) (t1 : sh ≤ 4096) :
    Calls Tryz.prog 55 #[shv W H D A, .int .i64 sw, .int .i64 sh] w fun e w' => ∃ P, e = .returned (.tuple #[.pointer (some ⟨P, 0, none⟩), .int .i64 0]) ∧ Kept [] w w' ∧ w.heap.size ≤ P ∧ Gr w' P W H D A sw sh (cl W sw) (cl H sh) := by
  obtain ⟨w1, ew1, hk1, hb1⟩ := one_new w #[.int .i64 W, .int .i64 H, .int .i64 D, .bool A] 23
  have EW := Hid.mk ew1
  have HB := Hid.mk hb1
  have C1 := Hid.mk (fun u => shaped_any W H D A u)
  rw [shE_ok hs] at C1
  have C2 := Hid.mk (fun u => tsided_any sw u)
  rw [decide_eq_true (⟨s0, s1⟩ : 16 ≤ sw ∧ sw ≤ 4096)] at C2
  have C3 := Hid.mk (fun u => tsided_any sh u)
  rw [decide_eq_true (⟨t0, t1⟩ : 16 ≤ sh ∧ sh ≤ 4096)] at C3
  have C4 := Hid.mk (fun u => parts_any W sw u hs.1.1 hs.1.2 s0 s1)
  have C5 := Hid.mk (fun u => parts_any H sh u hs.2.1.1 hs.2.1.2 t0 t1)
  have se2 : sw.tmod 2 = 0 := by rw [Int.tmod_eq_emod_of_nonneg (by omega)]; exact se
  obtain ⟨c, ec⟩ : ∃ c, c = cl W sw := ⟨_, rfl⟩
  obtain ⟨r, er⟩ : ∃ c, c = cl H sh := ⟨_, rfl⟩
  simp only [← ec, ← er] at C4 C5 ⊢
  clear ew1 hb1 hs s1 t1 ec er
  go_enter Tryz.func55, Tryz.ntmps55
  go_wp2_with (first | (go_at_call 49; rw [← EW.out]; refine (C1.out _).mono ?_; rintro e w2 ⟨rfl, hk2⟩; replace HB := Hid.mk (hk2.heap HB.out (by simp)); obtain ⟨⟨c0, c1, c2, c3⟩, _⟩ := four HB.out) | (go_at_call_of 82 sw; refine (C2.out _).mono ?_; rintro e w3 ⟨rfl, hw⟩; obtain rfl := hw.symm) | (go_at_call_of 82 sh; refine (C3.out _).mono ?_; rintro e w3 ⟨rfl, hw⟩; obtain rfl := hw.symm))
  obtain ⟨b, eb⟩ : ∃ b, b = w.heap.size := ⟨_, rfl⟩
  rw [← eb] at HB c0 c1 c2 c3 ⊢
  have HEB := Hid.mk eb
  clear eb EW
  have HKK := Hid.mk (show ∀ u, Kept [] w2 u → u.cell? ⟨b, 0, none⟩ = some (.int .i64 W) ∧ u.cell? ⟨b, 1, none⟩ = some (.int .i64 H) ∧ u.cell? ⟨b, 2, none⟩ = some (.int .i64 D) ∧ u.cell? ⟨b, 3, none⟩ = some (.bool A) from fun u h => ⟨cell_keep h c0 (by simp), cell_keep h c1 (by simp), cell_keep h c2 (by simp), cell_keep h c3 (by simp)⟩)
  go_region_held_law (fun u => u.cell? ⟨b, 0, none⟩ = some (.int .i64 W) ∧ u.cell? ⟨b, 1, none⟩ = some (.int .i64 H) ∧ u.cell? ⟨b, 2, none⟩ = some (.int .i64 D) ∧ u.cell? ⟨b, 3, none⟩ = some (.bool A)) (first | exact HKK.out _ (Kept.refl _ _) | (refine HKK.out _ ?_; repeat' (first | exact Kept.refl _ _ | refine Kept.drew ?_ | refine Kept.alloc ?_ _))) (first | (go_at_call_of 83 W; refine (C4.out _).mono ?_; rintro e w3 ⟨rfl, hw⟩; obtain rfl := hw.symm) | (go_at_call_of 83 H; refine (C5.out _).mono ?_; rintro e w3 ⟨rfl, hw⟩; obtain rfl := hw.symm))
  go_wp2
  go_ret2
  have h9 := (hk1.trans hk2).size
  exact ⟨w2.heap.size, rfl, ((hk1.trans hk2).alloc _).drew, h9, heap_alloc_new _ _⟩
end Go.Proofs.YthhegomjipbdbaaGreatDoor.Tl

namespace Go.Proofs.YthhegomjipbdbaaGreatDoor.Pc
open Go.RowKit

set_option maxHeartbeats 8000000 in
set_option maxRecDepth 1000000 in
theorem tnew_no (W H D sw sh : Int) (A : Bool) (w : World) (h : Tl.nwE W H D sw sh A ≠ 0) (s0 : -9223372036854775808 ≤ sw) (s1 : sw ≤ 9223372036854775807) :
    Calls Tryz.prog 55 #[Tl.shv W H D A, .int .i64 sw, .int .i64 sh] w fun e w' => e = .returned (.tuple #[.pointer none, .int .i64 (Tl.nwE W H D sw sh A)]) ∧ Kept [] w w' := by
  obtain ⟨w1, e1⟩ : ∃ w1, w.alloc (.cells #[.int .i64 W, .int .i64 H, .int .i64 D, .bool A] 23 (0, 0)) = w1 := ⟨_, rfl⟩
  have K1 : Hid (Kept [] w w1) := Hid.mk (by rw [← e1]; exact (Kept.refl [] w).alloc _)
  obtain ⟨c0, c1, c2, c3⟩ : w1.cell? ⟨w.heap.size, 0, none⟩ = some (.int .i64 W) ∧ w1.cell? ⟨w.heap.size, 1, none⟩ = some (.int .i64 H) ∧ w1.cell? ⟨w.heap.size, 2, none⟩ = some (.int .i64 D) ∧ w1.cell? ⟨w.heap.size, 3, none⟩ = some (.bool A) := by
    subst e1; refine ⟨?_, ?_, ?_, ?_⟩ <;> go_simp
  have C1 := Hid.mk (fun u => Tl.shaped_any W H D A u)
  by_cases hs : Tl.shE W H D A = 0
  · rw [hs] at C1
    have C2 := Hid.mk (fun u => Tl.tsided_any sw u)
    have C3 := Hid.mk (fun u => Tl.tsided_any sh u)
    have e81 : Tl.nwE W H D sw sh A = 81 := by
      unfold Tl.nwE at h ⊢
      rw [if_pos hs] at h ⊢
      split at h
      · exact absurd rfl h
      · rename_i h9; rw [if_neg h9]
    have hn : ¬ ((16 ≤ sw ∧ sw ≤ 4096) ∧ sw % 2 = 0 ∧ (16 ≤ sh ∧ sh ≤ 4096)) := by
      intro h9; unfold Tl.nwE at h; rw [if_pos hs, if_pos h9] at h; exact h rfl
    rw [e81]
    clear h e81 hs
    by_cases h1 : 16 ≤ sw ∧ sw ≤ 4096
    · rw [decide_eq_true h1] at C2
      have et : sw.tmod 2 = sw % 2 := Int.tmod_eq_emod_of_nonneg (by omega)
      by_cases h2 : sw % 2 = 0
      · rw [h2] at et
        have h3 : ¬ (16 ≤ sh ∧ sh ≤ 4096) := fun h9 => hn ⟨h1, h2, h9⟩
        rw [decide_eq_false h3] at C3
        clear h1 h2 h3 hn
        go_enter Tryz.func55, Tryz.ntmps55
        go_wp2_with (fail)
        refine (C1.out _).mono ?_
        rintro e w2 ⟨rfl, K2⟩
        have K2 := Hid.mk K2
        go_wp2_with (fail)
        refine (C2.out _).mono ?_
        rintro e w3 ⟨rfl, hw⟩
        obtain rfl := hw.symm
        go_wp2_with (fail)
        refine (C3.out _).mono ?_
        rintro e w3 ⟨rfl, hw⟩
        obtain rfl := hw.symm
        go_wp2
        go_ret2
        exact ⟨rfl, K1.out.trans K2.out⟩
      · have h4 : sw % 2 = 1 := by omega
        rw [h4] at et
        clear h1 h2 h4 hn C3
        go_enter Tryz.func55, Tryz.ntmps55
        go_wp2_with (fail)
        refine (C1.out _).mono ?_
        rintro e w2 ⟨rfl, K2⟩
        have K2 := Hid.mk K2
        go_wp2_with (fail)
        refine (C2.out _).mono ?_
        rintro e w3 ⟨rfl, hw⟩
        obtain rfl := hw.symm
        go_wp2
        go_ret2
        exact ⟨rfl, K1.out.trans K2.out⟩
    · rw [decide_eq_false h1] at C2
      clear h1 hn C3
      go_enter Tryz.func55, Tryz.ntmps55
      go_wp2_with (fail)
      refine (C1.out _).mono ?_
      rintro e w2 ⟨rfl, K2⟩
      have K2 := Hid.mk K2
      go_wp2_with (fail)
      refine (C2.out _).mono ?_
      rintro e w3 ⟨rfl, hw⟩
      obtain rfl := hw.symm
      go_wp2
      go_ret2
      exact ⟨rfl, K1.out.trans K2.out⟩
  · have e61 : Tl.nwE W H D sw sh A = 61 := by unfold Tl.nwE; rw [if_neg hs]
    have f61 : Tl.shE W H D A = 61 := by unfold Tl.shE at hs ⊢; split at hs; exact absurd rfl hs; rename_i h9; rw [if_neg h9]
    rw [e61]
    rw [f61] at C1
    clear h hs e61 f61
    go_enter Tryz.func55, Tryz.ntmps55
    go_wp2_with (fail)
    refine (C1.out _).mono ?_
    rintro e w2 ⟨rfl, K2⟩
    have K2 := Hid.mk K2
    go_wp2
    go_ret2
    exact ⟨rfl, K1.out.trans K2.out⟩
end Go.Proofs.YthhegomjipbdbaaGreatDoor.Pc
