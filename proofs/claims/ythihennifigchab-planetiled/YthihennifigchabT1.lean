import Derived.Test.YthihennifigchabB2
import Derived.Test.YthihennifigchabA7
namespace Go.Proofs.Ythihennifigchab
open Go.RowKit

set_option maxHeartbeats 4000000 in
set_option maxRecDepth 1000000 in
theorem rsamples_any (W H D : Int) (A : Bool) (w : World) : Calls Try.prog 21 #[shv W H D A] w fun e w' => e = .returned (.tuple #[.int .i64 (if shE W H D A = 0 then tot W H A else 0), .int .i64 (shE W H D A)]) ∧ Kept [] w w' := by
  have C := Hid.mk (fun u => rshaped_any W H D A u)
  have hk0 := Hid.mk ((Kept.refl [] w).alloc (.cells #[.int .i64 W, .int .i64 H, .int .i64 D, .bool A] 23))
  have S0 := Sat.new w W H D A 23
  rcases shE_two W H D A with ⟨e1, h1⟩ | ⟨e1, h1⟩
  · rw [e1] at C ⊢
    have C3 := Hid.mk (fun u => rtotal_any W H D A u h1.1.1 h1.1.2 h1.2.1.1 h1.2.1.2)
    clear h1 e1
    go_enter Try.func21, Try.ntmps21
    go_wp2_with (first | (go_at_call 36; refine (C.out _).mono ?_; rintro e w1 ⟨rfl, hk1⟩; obtain ⟨q0, q1, q2, q3⟩ := S0.keep hk1 (by simp)) | (go_at_call 48; refine (C3.out _).mono ?_; rintro e w2 ⟨rfl, hk2⟩))
    go_ret2
    exact ⟨rfl, (hk0.out.trans hk1).trans hk2⟩
  · rw [e1] at C ⊢
    clear h1 e1
    go_enter Try.func21, Try.ntmps21
    go_wp2_with (first | (go_at_call 36; refine (C.out _).mono ?_; rintro e w1 ⟨rfl, hk1⟩))
    go_ret2
    exact ⟨rfl, hk0.out.trans hk1⟩

/-- A list of numbers that is read. -/
def RdN (w : World) (ao : Option Addr) (n : Nat) (f : Nat → Int) : Prop := n = 0 ∨ ∃ g off, ao = some ⟨g, off, none⟩ ∧ ∀ i, i < n → w.cell? ⟨g, off + i, none⟩ = some (.int .i64 (f i))
theorem RdN.keep {w w' : World} {ao : Option Addr} {n : Nat} {f : Nat → Int} {ks : List Nat} (h : RdN w ao n f) (hk : Kept ks w w') (hn : ∀ g off, ao = some ⟨g, off, none⟩ → g ∉ ks) : RdN w' ao n f := by
  rcases h with h | ⟨g, off, e, hc⟩
  · exact .inl h
  · exact .inr ⟨g, off, e, fun i hi => cell_keep hk (hc i hi) (hn g off e)⟩

set_option maxHeartbeats 4000000 in
set_option maxRecDepth 1000000 in
theorem raw_any (ao : Option Addr) (m c : Nat) (f : Nat → Int) (k n : Int) (w : World) (hr : RdN w ao m f) (hf : ∀ i, i < m → -9223372036854775808 ≤ f i ∧ f i ≤ 9223372036854775807) (hm : m ≤ 9223372036854775807) (hk : 0 ≤ k) (hk2 : k ≤ 9223372036854775807) (h1 : 1 ≤ n) (h2 : n ≤ 9223372036854775807) :
    Calls Try.prog 22 #[.slice ao m c, .int .i64 k, .int .i64 n] w fun e w' => ∃ r, e = .returned (.int .i64 r) ∧ 0 ≤ r ∧ r < n ∧ Kept [] w w' := by
  by_cases h0 : m = 0
  · subst h0
    go_enter Try.func22, Try.ntmps22
    go_wp2
    go_ret
    exact ⟨0, rfl, by omega, by omega, Kept.refl _ _⟩
  · obtain ⟨g, off, rfl, hc⟩ : ∃ g off, ao = some ⟨g, off, none⟩ ∧ ∀ i, i < m → w.cell? ⟨g, off + i, none⟩ = some (.int .i64 (f i)) := by
      rcases hr with h | h
      · exact absurd h h0
      · exact h
    have hkm : 0 ≤ k % (m : Int) := Int.emod_nonneg _ (by omega)
    have hkl : k % (m : Int) < (m : Int) := Int.emod_lt_of_pos _ (by omega)
    obtain ⟨t, et⟩ : ∃ t : Nat, k % (m : Int) = (t : Int) := ⟨(k % (m : Int)).toNat, by omega⟩
    have htm : t < m := by omega
    have hcell := hc t htm
    have C := Hid.mk (fun u => place_any (f t) n u (hf t htm) h1 h2)
    have p1 := Hid.mk (plc_lo (f t) h1)
    have p2 := Hid.mk (plc_hi (f t) h1)
    obtain ⟨z, ez⟩ : ∃ z, z = plc (f t) n := ⟨_, rfl⟩
    rw [← ez] at C p1 p2
    obtain ⟨v, ev⟩ : ∃ v, v = f t := ⟨_, rfl⟩
    rw [← ev] at hcell C
    have ixt : (t : Int) < (m : Int) := by omega
    have hm0 : ((m : Int) == 0) = false := by simp; omega
    have hm1 : ¬ (m : Int) = 0 := by omega
    have hm2 : ¬ m = 0 := by omega
    clear ez ev hc hr hf hkm hkl
    go_enter Try.func22, Try.ntmps22
    go_wp2_with (go_at_call 14; refine (C.out _).mono ?_; rintro e w1 ⟨rfl, hw⟩; obtain rfl := hw.symm)
    go_ret
    exact ⟨z, rfl, p1.out, p2.out, Kept.refl _ _⟩
end Go.Proofs.Ythihennifigchab
