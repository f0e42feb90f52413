import Derived.Test.YthihennifigchabB2
import Derived.Test.YthihennifigchabFl
namespace Go.Proofs.Ythihennifigchab
open Go.RowKit

/-- How far two samples are apart. -/
def df (a b : Nat) : Nat := (a - b) + (b - a)
/-- At most. -/
def mxd (f g : Nat → Nat) : Nat → Nat
  | 0 => 0
  | k + 1 => max (mxd f g k) (df (f k) (g k))
/-- The sum of the squares. -/
def sqs (f g : Nat → Nat) : Nat → Nat
  | 0 => 0
  | k + 1 => sqs f g k + df (f k) (g k) * df (f k) (g k)

set_option maxHeartbeats 4000000 in
set_option maxRecDepth 1000000 in
theorem distance_any (a b : Nat) (w : World) (ha : a < 65536) (hb : b < 65536) :
    Calls Try.prog 53 #[.int .u16 (a : Int), .int .u16 (b : Int)] w fun e w' => e = .returned (.int .i64 (df a b : Int)) ∧ w' = w := by
  go_enter Try.func53, Try.ntmps53
  go_wp2
  all_goals go_ret
  all_goals exact ⟨ret_int (by unfold df; omega), rfl⟩

/-- The error of two frames that are held against each other. -/
def alE (W H D : Int) (A : Bool) (W2 H2 D2 : Int) (A2 : Bool) (e1 e2 : Int) : Int :=
  if e1 = 0 then (if e2 = 0 then (if (W = W2 ∧ H = H2 ∧ D = D2 ∧ A = A2) then 0 else 61) else e2) else e1

set_option maxHeartbeats 8000000 in
set_option maxRecDepth 1000000 in
theorem alike_any (W H D : Int) (A : Bool) (po : Option Addr) (n c : Nat) (ln : Nat → Nat) (F : Nat → Nat → Nat) (W2 H2 D2 : Int) (A2 : Bool) (qo : Option Addr) (m d : Nat) (lm : Nat → Nat) (G : Nat → Nat → Nat) (w : World) (hr : Pl w po n ln F) (hs : Pl w qo m lm G) (hn : n ≤ 9223372036854775807) (hln : ∀ i, i < n → ln i ≤ 9223372036854775807) (hm : m ≤ 9223372036854775807) (hlm : ∀ i, i < m → lm i ≤ 9223372036854775807) :
    Calls Try.prog 52 #[frv W H D A po n c, frv W2 H2 D2 A2 qo m d] w fun e w' => e = .returned (.int .i64 (alE W H D A W2 H2 D2 A2 (vE W H D A n ln F) (vE W2 H2 D2 A2 m lm G))) ∧ Kept [] w w' := by
  have C1 := Hid.mk (fun u (h : Pl u po n ln F) => valid_any W H D A po n c ln F u h hn hln)
  have C2 := Hid.mk (fun u (h : Pl u qo m lm G) => valid_any W2 H2 D2 A2 qo m d lm G u h hm hlm)
  obtain ⟨E1, e1⟩ : ∃ E1, E1 = vE W H D A n ln F := ⟨_, rfl⟩
  obtain ⟨E2, e2⟩ : ∃ E2, E2 = vE W2 H2 D2 A2 m lm G := ⟨_, rfl⟩
  rw [← e1] at C1 ⊢
  rw [← e2] at C2 ⊢
  have Hr := Hid.mk hr
  have Hs := Hid.mk hs
  have h1 := heap_alloc_new w (.cells #[.int .i64 W, .int .i64 H, .int .i64 D, .bool A, .slice po n c] 26)
  have k1 := alloc_kept w (.cells #[.int .i64 W, .int .i64 H, .int .i64 D, .bool A, .slice po n c] 26)
  have h2 := heap_alloc_new (w.alloc (.cells #[.int .i64 W, .int .i64 H, .int .i64 D, .bool A, .slice po n c] 26)) (.cells #[.int .i64 W2, .int .i64 H2, .int .i64 D2, .bool A2, .slice qo m d] 26)
  have k2 := alloc_kept (w.alloc (.cells #[.int .i64 W, .int .i64 H, .int .i64 D, .bool A, .slice po n c] 26)) (.cells #[.int .i64 W2, .int .i64 H2, .int .i64 D2, .bool A2, .slice qo m d] 26)
  rw [World.size_alloc] at h2
  have hh1 := k2.heap h1 (by simp)
  have K1 := Hid.mk (k1.trans k2)
  have P1 := Hid.mk (And.intro hh1 h2)
  clear hr hs hln hlm e1 e2 h1 k1 h2 k2 hh1
  go_enter Try.func52, Try.ntmps52
  go_wp2_with (fail)
  obtain ⟨w1, ew1⟩ : ∃ w1, w1 = (w.alloc (.cells #[.int .i64 W, .int .i64 H, .int .i64 D, .bool A, .slice po n c] 26)).alloc (.cells #[.int .i64 W2, .int .i64 H2, .int .i64 D2, .bool A2, .slice qo m d] 26) := ⟨_, rfl⟩
  rw [← ew1] at P1 K1 ⊢
  obtain ⟨b, eb⟩ : ∃ b, b = w.heap.size := ⟨_, rfl⟩
  rw [← eb] at P1 ⊢
  clear ew1 eb
  refine (C1.out w1 (Hr.out.keep K1.out)).mono ?_
  rintro e w2 ⟨rfl, hk2⟩
  obtain ⟨⟨f0, f1, f2, f3, f4⟩, _⟩ := five (hk2.heap P1.out.1 (by simp))
  obtain ⟨⟨g0, g1, g2, g3, g4⟩, _⟩ := five (hk2.heap P1.out.2 (by simp))
  have K2 := Hid.mk (K1.out.trans hk2)
  by_cases hE1 : E1 = 0
  · subst hE1
    go_wp2_with (fail)
    refine (C2.out w2 (Hs.out.keep K2.out)).mono ?_
    rintro e w3 ⟨rfl, hk3⟩
    have K3 := Hid.mk (K2.out.trans hk3)
    clear f0 f1 f2 f3 f4 g0 g1 g2 g3 g4
    obtain ⟨⟨f0, f1, f2, f3, f4⟩, _⟩ := five ((hk2.trans hk3).heap P1.out.1 (by simp))
    obtain ⟨⟨g0, g1, g2, g3, g4⟩, _⟩ := five ((hk2.trans hk3).heap P1.out.2 (by simp))
    clear hk2 hk3
    by_cases hE2 : E2 = 0
    · subst hE2
      by_cases hW : W = W2 ∧ H = H2 ∧ D = D2 ∧ A = A2
      · obtain ⟨rfl, rfl, rfl, rfl⟩ := hW
        have ha : (A == A) = true := by cases A <;> rfl
        go_wp2
        go_ret
        exact ⟨ret_int (by unfold alE; rw [if_pos rfl, if_pos rfl, if_pos ⟨rfl, rfl, rfl, rfl⟩]), K3.out⟩
      · have HW : Hid (alE W H D A W2 H2 D2 A2 0 0 = 61) := Hid.mk (by unfold alE; rw [if_pos rfl, if_pos rfl, if_neg hW])
        have ha : (A == A) = true := by cases A <;> rfl
        by_cases h0 : W = W2
        · subst h0
          by_cases h1 : H = H2
          · subst h1
            by_cases h2 : D = D2
            · subst h2
              have h3 : (A == A2) = false := by
                cases A <;> cases A2 <;> first | rfl | (exfalso; apply hW; exact ⟨rfl, rfl, rfl, rfl⟩)
              clear hW
              go_wp2
              go_ret
              exact ⟨ret_int HW.out.symm, K3.out⟩
            · clear hW
              go_wp2
              go_ret
              exact ⟨ret_int HW.out.symm, K3.out⟩
          · clear hW
            go_wp2
            go_ret
            exact ⟨ret_int HW.out.symm, K3.out⟩
        · clear hW
          go_wp2
          go_ret
          exact ⟨ret_int HW.out.symm, K3.out⟩
    · have HE : Hid (alE W H D A W2 H2 D2 A2 0 E2 = E2) := Hid.mk (by unfold alE; rw [if_pos rfl, if_neg hE2])
      go_wp2
      go_ret
      exact ⟨ret_int HE.out.symm, K3.out⟩
  · have HE : Hid (alE W H D A W2 H2 D2 A2 E1 E2 = E1) := Hid.mk (by unfold alE; rw [if_neg hE1])
    go_wp2
    go_ret
    exact ⟨ret_int HE.out.symm, K2.out⟩
end Go.Proofs.Ythihennifigchab
