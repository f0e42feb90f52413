import Derived.Test.YtjnmnkheichflaaM8
import Derived.Test.YtjnmnkheichflaaN2
namespace Go.Proofs.Ytjnmnkheichflaa
open Go.RowKit

/-- A sum of products. -/
def dt (l k : List Nat) (n : Nat) : Nat := sm (fun j => mu (l.getD j 0) (k.getD j 0)) n
theorem dt_lt (l k : List Nat) (n : Nat) : dt l k n < 256 := sm_lt _ _ (fun _ _ => mu_lt _ _)
theorem dt_succ (l k : List Nat) (n : Nat) : dt l k n ^^^ mu (l.getD n 0) (k.getD n 0) = dt l k (n + 1) := rfl

/-- A cell of a list that is read. -/
theorem Reads.at {w : World} {ao : Option Addr} {l : List Nat} (h : Reads w ao l) {j : Nat} (hj : j < l.length) : ∃ g off, ao = some ⟨g, off, none⟩ ∧ w.cell? ⟨g, off + j, none⟩ = some (.int .u8 (l.getD j 0 : Nat)) := by
  rcases h with h | ⟨g, off, h, hc⟩
  · subst h; simp at hj
  · exact ⟨g, off, h, hc j hj⟩

set_option maxHeartbeats 1000000 in
set_option maxRecDepth 1000000 in
theorem dot_ne (ao bo : Option Addr) (ca cb m n : Nat) (h : m ≠ n) (w : World) :
    Calls Try.prog 20 #[.slice ao m ca, .slice bo n cb] w fun e w' => e = .returned (.tuple #[.int .u8 0, .int .i64 42]) ∧ ∃ q, w' = w.drewN q := by
  have hb : ((m : Int) == (n : Int)) = false := by simp; omega
  go_enter Try.func20, Try.ntmps20
  go_wp2
  go_ret2
  exact ⟨rfl, 0, rfl⟩

set_option maxHeartbeats 1000000 in
set_option maxRecDepth 1000000 in
theorem refDot_ne (ao bo : Option Addr) (ca cb m n : Nat) (h : m ≠ n) (w : World) :
    Calls Try.prog 21 #[.slice ao m ca, .slice bo n cb] w fun e w' => e = .returned (.tuple #[.int .u8 0, .int .i64 42]) ∧ w' = w := by
  have hb : ((m : Int) == (n : Int)) = false := by simp; omega
  go_enter Try.func21, Try.ntmps21
  go_wp2
  go_ret2
  exact ⟨rfl, rfl⟩

set_option maxHeartbeats 1000000 in
set_option maxRecDepth 1000000 in
theorem refDot_any (ao bo : Option Addr) (ca cb m : Nat) (l k : List Nat) (w : World) (hr : Reads w ao l) (hs : Reads w bo k) (hb : Byts l) (hc : Byts k) (hm : l.length = m) (hn : k.length = m) (hl : m ≤ 140737488355328) :
    Calls Try.prog 21 #[.slice ao m ca, .slice bo m cb] w fun e w' => e = .returned (.tuple #[.int .u8 (dt l k m : Int), .int .i64 0]) ∧ ∃ q, w' = w.drewN q := by
  go_enter Try.func21, Try.ntmps21
  go_wp2
  go_loopw [6, 7] (fun s i wr => ∃ j : Nat, j ≤ m ∧ i = .int .i64 (j : Int) ∧ s = .int .u8 (dt l k j : Int) ∧ Qt w wr) (fun _ i _ => m - (intOf i).toNat)
  case atStart => exact ⟨0, by omega, rfl, rfl, Qt.refl w⟩
  case round =>
    obtain ⟨j, hj, rfl, rfl, hq⟩ := hrel
    replace hr := hr.keep (hq.kept [])
    replace hs := hs.keep (hq.kept [])
    have Hq := Hid.mk hq
    clear hq
    have hd := dt_lt l k j
    by_cases hlt : j < m
    · obtain ⟨g, off, rfl, hca⟩ := hr.at (j := j) (by omega)
      obtain ⟨g2, off2, rfl, hcb⟩ := hs.at (j := j) (by omega)
      have h1 := getD_lt l j hb
      have h2 := getD_lt k j hc
      have HS := Hid.mk (dt_succ l k j)
      have hx := u8_xor_nat (dt l k j) (mu (l.getD j 0) (k.getD j 0)) hd (mu_lt _ _)
      obtain ⟨x, e⟩ : ∃ x, x = l.getD j 0 := ⟨_, rfl⟩
      rw [← e] at hca h1 HS hx; clear e
      obtain ⟨y, e⟩ : ∃ y, y = k.getD j 0 := ⟨_, rfl⟩
      rw [← e] at hcb h2 HS hx; clear e
      obtain ⟨s, e⟩ : ∃ s, s = dt l k j := ⟨_, rfl⟩
      rw [← e] at hd HS hx ⊢; clear e
      have ix : (j : Int) < (m : Int) := by omega
      clear hm hn hr hs hb hc
      go_wp2
      go_quiet ((go_at_call 11; refine Calls.quiet_of_same (refMul_any _ _ (by assumption) (by assumption) _)))
      go_wp2
      go_roundw
      case rel => exact ⟨j + 1, by omega, by go_num, by rw [HS.out], Hq.out.drewN _⟩
      case measure => simp [intOf]; omega
    · obtain rfl : j = m := by omega
      obtain ⟨s, e⟩ : ∃ s, s = dt l k j := ⟨_, rfl⟩
      have HE := Hid.mk e
      rw [← e] at hd ⊢; clear e
      clear hm hn hr hs hb hc
      go_wp2
      go_ret2
      exact ⟨ret2 (by rw [HE.out]) rfl, Hq.out⟩

set_option maxHeartbeats 1000000 in
set_option maxRecDepth 1000000 in
theorem dot_any (ao bo : Option Addr) (ca cb m : Nat) (l k : List Nat) (w : World) (hr : Reads w ao l) (hs : Reads w bo k) (hb : Byts l) (hc : Byts k) (hm : l.length = m) (hn : k.length = m) (hl : m ≤ 140737488355328) :
    Calls Try.prog 20 #[.slice ao m ca, .slice bo m cb] w fun e w' => e = .returned (.tuple #[.int .u8 (dt l k m : Int), .int .i64 0]) ∧ ∃ q, w' = w.drewN q := by
  go_enter Try.func20, Try.ntmps20
  go_wp2
  go_loopw [6, 16] (fun s i wr => ∃ j : Nat, j ≤ m ∧ i = .int .i64 (j : Int) ∧ s = .int .u8 (dt l k j : Int) ∧ Qt w wr) (fun _ i _ => m - (intOf i).toNat)
  case atStart => exact ⟨0, by omega, rfl, rfl, Qt.refl w⟩
  case round =>
    obtain ⟨j, hj, rfl, rfl, hq⟩ := hrel
    replace hr := hr.keep (hq.kept [])
    replace hs := hs.keep (hq.kept [])
    have Hq := Hid.mk hq
    clear hq
    have hd := dt_lt l k j
    by_cases hlt : j < m
    · obtain ⟨g, off, rfl, hca⟩ := hr.at (j := j) (by omega)
      obtain ⟨g2, off2, rfl, hcb⟩ := hs.at (j := j) (by omega)
      have h1 := getD_lt l j hb
      have h2 := getD_lt k j hc
      have HS := Hid.mk (dt_succ l k j)
      have hx := u8_xor_nat (dt l k j) (mu (l.getD j 0) (k.getD j 0)) hd (mu_lt _ _)
      obtain ⟨x, e⟩ : ∃ x, x = l.getD j 0 := ⟨_, rfl⟩
      rw [← e] at hca h1 HS hx; clear e
      obtain ⟨y, e⟩ : ∃ y, y = k.getD j 0 := ⟨_, rfl⟩
      rw [← e] at hcb h2 HS hx; clear e
      obtain ⟨s, e⟩ : ∃ s, s = dt l k j := ⟨_, rfl⟩
      rw [← e] at hd HS hx ⊢; clear e
      have ix : (j : Int) < (m : Int) := by omega
      clear hm hn hr hs hb hc
      go_wp2_with (go_at_call 10; refine (mul_any _ _ (by assumption) (by assumption) _).mono ?_; rintro e w' ⟨rfl, mm, rfl⟩)
      go_roundw
      case rel => exact ⟨j + 1, by omega, by go_num, by rw [HS.out], Hq.out.drewN _⟩
      case measure => simp [intOf]; omega
    · obtain rfl : j = m := by omega
      obtain ⟨s, e⟩ : ∃ s, s = dt l k j := ⟨_, rfl⟩
      have HE := Hid.mk e
      rw [← e] at hd ⊢; clear e
      clear hm hn hr hs hb hc
      go_wp2
      go_ret2
      exact ⟨ret2 (by rw [HE.out]) rfl, Hq.out⟩

end Go.Proofs.Ytjnmnkheichflaa
