import Derived.Test.YtdnbjbdokppfnaaDoorO3
import Derived.Test.YtdnbjbdokppfnaaDoorJ2
namespace Go.Proofs.YtdnbjbdokppfnaaDoor
open Go.RowKit Go.Lib

theorem pw38a : pw 1038 = 524288 * pw 1019 := pw_at 1019 19 1038 _ (by decide) (by decide)
theorem pw38b : pw 1038 = 68719476736 * pw 1002 := pw_at 1002 36 1038 _ (by decide) (by decide)
theorem wth_at (m : Nat) (p : Int) (c : Nat) (h : (p + 1074).toNat = c) : wth m p = m * pw c := by unfold wth; rw [h]; rfl
theorem c15 : Fw 4594572339843380019 ((5404319552844595 * pw 1019 : Nat) : Int) := ⟨false, 5404319552844595, -55, by decide, by decide, by rw [wth_at _ _ 1019 (by decide)]; rfl⟩
theorem c15n : Fw 13817944376698155827 (-((5404319552844595 * pw 1019 : Nat) : Int)) := ⟨true, 5404319552844595, -55, by decide, by decide, by rw [wth_at _ _ 1019 (by decide)]; rfl⟩
theorem c6 : Fw 4517329193108106637 ((4722366482869645 * pw 1002 : Nat) : Int) := ⟨false, 4722366482869645, -72, by decide, by decide, by rw [wth_at _ _ 1002 (by decide)]; rfl⟩
theorem c6n : Fw 13740701229962882445 (-((4722366482869645 * pw 1002 : Nat) : Int)) := ⟨true, 4722366482869645, -72, by decide, by decide, by rw [wth_at _ _ 1002 (by decide)]; rfl⟩
/-- What the statement reckons with floats. -/
structure Far (a b c n sec f : Nat) (W Q A R : Nat) (vf : Int) : Prop where
  w : floatBits .quo .f64 (floatOfInt .f64 ((n * b : Nat) : Int)) (floatOfInt .f64 (a : Int)) = some W
  q : floatBits .quo .f64 (floatOfInt .f64 (f : Int)) (floatOfInt .f64 (c : Int)) = some Q
  s : floatBits .add .f64 (floatOfInt .f64 (sec : Int)) Q = some A
  d : floatBits .sub .f64 W A = some R
  v : Fw R vf
set_option maxHeartbeats 2000000 in
/-- A rate that leaves nothing out. -/
theorem far_none (c n sec f : Nat) (hc : c = 24 ∨ c = 25 ∨ c = 30 ∨ c = 50 ∨ c = 60) (hn : n = c * sec + f) (hf : f < c) (hs : sec ≤ 86399) :
    ∃ W Q A R vf, Far c 1 c n sec f W Q A R vf ∧ vf ≤ 6 * (pw 1038 : Nat) ∧ -(6 * ((pw 1038 : Nat) : Int)) ≤ vf := by
  have c0 : 24 ≤ c := by omega
  have c1 : c ≤ 60 := by omega
  have hcs : c * sec ≤ 60 * 86399 := Nat.mul_le_mul c1 hs
  have hcs2 : c * sec ≤ c * 86399 := Nat.mul_le_mul_left c hs
  obtain ⟨W, Vw, hW, fW, w1, w2⟩ := quo_near (n * 1) c (by omega) (by omega) (by omega) (by omega)
  obtain ⟨Q, Vq, hQ, fQ, q1, q2⟩ := quo_near f c (by omega) (by omega) (by omega) (by omega)
  have up := pw_pos 1038
  have eS := pw74
  have eL := pw91
  have eX : n * 1 * pw 1074 = c * (sec * pw 1074) + f * pw 1074 := by rw [Nat.mul_one, hn, Nat.add_mul, Nat.mul_assoc]
  have fS := int_fw sec (by omega)
  have bS : sec * pw 1074 ≤ 86399 * pw 1074 := Nat.mul_le_mul_right _ hs
  have bF : f * pw 1074 ≤ 60 * pw 1074 := Nat.mul_le_mul_right _ (by omega)
  rw [eX] at w1 w2
  clear eX hcs hcs2 hn
  have bA : ((sec * pw 1074 : Nat) : Int) + (Vq : Nat) < (pw 1091 : Nat) ∧ -((pw 1091 : Nat) : Int) < ((sec * pw 1074 : Nat) : Int) + (Vq : Nat) := by
    generalize sec * pw 1074 = XS at *
    generalize f * pw 1074 = XF at *
    generalize pw 1074 = S at *
    generalize pw 1038 = u at *
    generalize pw 1091 = L at *
    clear hW fW hQ fQ fS
    rcases hc with rfl | rfl | rfl | rfl | rfl <;> omega
  obtain ⟨A, va, hA, fA, a1, a2⟩ := add_near fS fQ bA.1 bA.2
  have bD : ((Vw : Nat) : Int) - va < (pw 1091 : Nat) ∧ -((pw 1091 : Nat) : Int) < ((Vw : Nat) : Int) - va := by
    generalize sec * pw 1074 = XS at *
    generalize f * pw 1074 = XF at *
    generalize pw 1074 = S at *
    generalize pw 1038 = u at *
    generalize pw 1091 = L at *
    clear hW fW hQ fQ fS hA fA
    rcases hc with rfl | rfl | rfl | rfl | rfl <;> omega
  obtain ⟨R, vf, hR, fR, r1, r2⟩ := sub_near fW fA bD.1 bD.2
  refine ⟨W, Q, A, R, vf, ⟨hW, hQ, hA, hR, fR⟩, ?_⟩
  generalize sec * pw 1074 = XS at *
  generalize f * pw 1074 = XF at *
  generalize pw 1074 = S at *
  generalize pw 1038 = u at *
  generalize pw 1091 = L at *
  clear hW fW hQ fQ fS hA fA hR fR bA bD
  rcases hc with rfl | rfl | rfl | rfl | rfl <;> omega
theorem drop_eq (n c sec f S : Nat) (D : Int) (hn : 1001 * (n : Int) = 1000 * (c * sec + f : Nat) + D) : ((n * 1001 * S : Nat) : Int) = 1000 * (c * (sec * S : Nat) + (f * S : Nat)) + D * (S : Nat) := by
  have e1 : ((n * 1001 * S : Nat) : Int) = (1001 * (n : Int)) * (S : Int) := by rw [Int.natCast_mul, Int.natCast_mul, Int.mul_comm (n : Int)]; rfl
  rw [e1, hn, Int.add_mul, Int.mul_assoc, ← Int.natCast_mul, Nat.add_mul, Nat.mul_assoc, Int.natCast_add, Int.natCast_mul c]
set_option maxHeartbeats 4000000 in
/-- A rate that leaves names out: D is how far it is from the clock, in frames of a thousandth of its count. -/
theorem far_drop (c n sec f : Nat) (D : Int) (hc : c = 30 ∨ c = 60) (hn : 1001 * (n : Int) = 1000 * (c * sec + f : Nat) + D) (hf : f < c) (hs : sec ≤ 86399) (hn2 : n < c * 86400) (d0 : -147 * (c : Int) ≤ D) (d1 : D ≤ 60 * (c : Int)) :
    ∃ W Q A R vf, Far (1000 * c) 1001 c n sec f W Q A R vf ∧ vf < ((5404319552844595 * pw 1019 : Nat) : Int) ∧ -((5404319552844595 * pw 1019 : Nat) : Int) < vf := by
  have c0 : 24 ≤ c := by omega
  have c1 : c ≤ 60 := by omega
  obtain ⟨W, Vw, hW, fW, w1, w2⟩ := quo_near (n * 1001) (1000 * c) (by omega) (by omega) (by omega) (by omega)
  obtain ⟨Q, Vq, hQ, fQ, q1, q2⟩ := quo_near f c (by omega) (by omega) (by omega) (by omega)
  have up := pw_pos 1038
  have eS := pw74
  have eL := pw91
  have eV := pw38a
  have eX : ((n * 1001 * pw 1074 : Nat) : Int) = 1000 * (c * (sec * pw 1074 : Nat) + (f * pw 1074 : Nat)) + D * (pw 1074 : Nat) := drop_eq n c sec f (pw 1074) D hn
  have fS := int_fw sec (by omega)
  have bS : sec * pw 1074 ≤ 86399 * pw 1074 := Nat.mul_le_mul_right _ hs
  have bF : f * pw 1074 ≤ 60 * pw 1074 := Nat.mul_le_mul_right _ (by omega)
  have bD0 : -147 * (c : Int) * (pw 1074 : Nat) ≤ D * (pw 1074 : Nat) := Int.mul_le_mul_of_nonneg_right d0 (Int.natCast_nonneg _)
  have bD1 : D * (pw 1074 : Nat) ≤ 60 * (c : Int) * (pw 1074 : Nat) := Int.mul_le_mul_of_nonneg_right d1 (Int.natCast_nonneg _)
  clear hn d0 d1
  generalize D * ((pw 1074 : Nat) : Int) = XD at *
  obtain ⟨XN, eN⟩ : ∃ XN, n * 1001 * pw 1074 = XN := ⟨_, rfl⟩
  rw [eN] at eX w1 w2
  clear eN
  have bA : ((sec * pw 1074 : Nat) : Int) + (Vq : Nat) < (pw 1091 : Nat) ∧ -((pw 1091 : Nat) : Int) < ((sec * pw 1074 : Nat) : Int) + (Vq : Nat) := by
    generalize sec * pw 1074 = XS at *
    generalize f * pw 1074 = XF at *
    generalize pw 1074 = S at *
    generalize pw 1038 = u at *
    generalize pw 1091 = L at *
    generalize pw 1019 = v at *
    clear hW fW hQ fQ fS
    rcases hc with rfl | rfl <;> omega
  obtain ⟨A, va, hA, fA, a1, a2⟩ := add_near fS fQ bA.1 bA.2
  have bD : ((Vw : Nat) : Int) - va < (pw 1091 : Nat) ∧ -((pw 1091 : Nat) : Int) < ((Vw : Nat) : Int) - va := by
    generalize sec * pw 1074 = XS at *
    generalize f * pw 1074 = XF at *
    generalize pw 1074 = S at *
    generalize pw 1038 = u at *
    generalize pw 1091 = L at *
    generalize pw 1019 = v at *
    clear hW fW hQ fQ fS hA fA
    rcases hc with rfl | rfl <;> omega
  obtain ⟨R, vf, hR, fR, r1, r2⟩ := sub_near fW fA bD.1 bD.2
  refine ⟨W, Q, A, R, vf, ⟨hW, hQ, hA, hR, fR⟩, ?_⟩
  generalize sec * pw 1074 = XS at *
  generalize f * pw 1074 = XF at *
  generalize pw 1074 = S at *
  generalize pw 1038 = u at *
  generalize pw 1091 = L at *
  generalize pw 1019 = v at *
  clear hW fW hQ fQ fS hA fA hR fR bA bD
  rcases hc with rfl | rfl <;> omega
end Go.Proofs.YtdnbjbdokppfnaaDoor
