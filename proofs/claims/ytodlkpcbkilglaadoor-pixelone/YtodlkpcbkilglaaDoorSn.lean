import Derived.Test.YtodlkpcbkilglaaDoorAl
import Derived.Test.YtodlkpcbkilglaaDoorPsZ
namespace Go.Proofs.YtodlkpcbkilglaaDoor
open Go.RowKit Go.Shelf

set_option maxHeartbeats 4000000 in
set_option maxRecDepth 1000000 in
/-- PixelNames. -/
theorem names_any (w : World) (hT : Tab w) : Calls Tryd.prog 3 #[] w fun e w' => e = .returned (.bool true) ∧ Kept [] w w' := by
  have CA := Hid.mk (alive_any w hT)
  clear hT
  go_enter Tryd.func3, Tryd.ntmps3
  go_wp2_with (fail)
  refine CA.out.mono ?_
  rintro e w1 ⟨rfl, hk1⟩
  go_wp2
  go_ret
  exact ⟨rfl, hk1⟩

set_option maxHeartbeats 4000000 in
set_option maxRecDepth 1000000 in
/-- PixelSizes. -/
theorem sizes_any (W H D : Int) (A : Bool) (w : World) (hT : Tab w) : Calls Tryd.prog 4 #[shv W H D A] w fun e w' => e = .returned (.bool true) ∧ Kept [] w w' := by
  have C1 := Hid.mk (fun u => planarSize_any W H D A u)
  have C2 := Hid.mk (fun u => rplanarSize_any W H D A u)
  have C3 := Hid.mk (fun u => v210Size_any W H D A u)
  have C4 := Hid.mk (fun u => rv210Size_any W H D A u)
  have e1 : (if shE W H D A = 0 ∧ true = true then sS W H (fun x => 2 * x) (fun i => i) (np A) else 0) = (if shE W H D A = 0 then 2 * tot W H A else 0) := by
    rcases shE_two W H D A with ⟨h1, h2⟩ | ⟨h1, h2⟩
    · rw [h1, if_pos ⟨rfl, rfl⟩, if_pos rfl]; exact sS_planar A h2.1.1
    · rw [h1]; simp
  have e2 : (if shE W H D A = 0 then (if true = true then (0 : Int) else 71) else 61) = shE W H D A := by
    rcases shE_two W H D A with ⟨h1, h2⟩ | ⟨h1, h2⟩
    · rw [h1]; simp
    · rw [h1]; simp
  have e3 : (if shE W H D A = 0 ∧ (decide (D = 10) && !A) = true then sS W H (fun x => (x + 47) / 48 * 128) (fun _ => 0) 1 else 0) = (if shE W H D A = 0 ∧ (decide (D = 10) && !A) = true then H * ((W + 47) / 48 * 128) else 0) := by
    rcases shE_two W H D A with ⟨h1, h2⟩ | ⟨h1, h2⟩
    · rw [sS_v210 h2.1.1]
    · rw [h1]; simp
  rw [e1, e2] at C1
  rw [e3] at C3
  obtain ⟨n1, en1⟩ : ∃ n1 : Int, n1 = (if shE W H D A = 0 then 2 * tot W H A else 0) := ⟨_, rfl⟩
  obtain ⟨n2, en2⟩ : ∃ n2 : Int, n2 = shE W H D A := ⟨_, rfl⟩
  obtain ⟨n3, en3⟩ : ∃ n3 : Int, n3 = (if shE W H D A = 0 ∧ (decide (D = 10) && !A) = true then H * ((W + 47) / 48 * 128) else 0) := ⟨_, rfl⟩
  obtain ⟨n4, en4⟩ : ∃ n4 : Int, n4 = (if shE W H D A = 0 then (if (decide (D = 10) && !A) = true then 0 else 71) else 61) := ⟨_, rfl⟩
  rw [← en1, ← en2] at C1 C2
  rw [← en3, ← en4] at C3 C4
  clear e1 e2 e3 en1 en2 en3 en4
  have hk0 := alloc_kept w (.cells #[.int .i64 W, .int .i64 H, .int .i64 D, .bool A] 24)
  have hS := Sat.new w W H D A 24
  have CA := Hid.mk (fun (u : World) (hk : Kept [] w u) => alive_any u (hT.keep hk (by simp)))
  obtain ⟨wa, ewa⟩ : ∃ wa, w.alloc (.cells #[.int .i64 W, .int .i64 H, .int .i64 D, .bool A] 24) = wa := ⟨_, rfl⟩
  rw [ewa] at hk0 hS
  have HK0 := Hid.mk hk0
  have HS := Hid.mk hS
  clear hT hk0 hS
  go_enter Tryd.func4, Tryd.ntmps4
  go_wp2_with (fail)
  refine (CA.out _ HK0.out).mono ?_
  rintro e w1 ⟨rfl, hk1⟩
  obtain ⟨q0, q1, q2, q3⟩ := HS.out.keep hk1 (by simp)
  go_wp2_with (fail)
  refine (C1.out _).mono ?_
  rintro e w2 ⟨rfl, hk2⟩
  clear q0 q1 q2 q3
  obtain ⟨q0, q1, q2, q3⟩ := HS.out.keep (hk1.trans hk2) (by simp)
  go_wp2_with (fail)
  refine (C2.out _).mono ?_
  rintro e w3 ⟨rfl, hk3⟩
  clear q0 q1 q2 q3
  obtain ⟨q0, q1, q2, q3⟩ := HS.out.keep ((hk1.trans hk2).trans hk3) (by simp)
  go_wp2_with (fail)
  refine (C3.out _).mono ?_
  rintro e w4 ⟨rfl, hk4⟩
  clear q0 q1 q2 q3
  obtain ⟨q0, q1, q2, q3⟩ := HS.out.keep (((hk1.trans hk2).trans hk3).trans hk4) (by simp)
  go_wp2_with (fail)
  refine (C4.out _).mono ?_
  rintro e w5 ⟨rfl, hk5⟩
  have HK := Hid.mk (HK0.out.trans ((((hk1.trans hk2).trans hk3).trans hk4).trans hk5))
  clear hk1 hk2 hk3 hk4 hk5
  go_wp2
  go_ret
  exact ⟨by simp, HK.out⟩
end Go.Proofs.YtodlkpcbkilglaaDoor
