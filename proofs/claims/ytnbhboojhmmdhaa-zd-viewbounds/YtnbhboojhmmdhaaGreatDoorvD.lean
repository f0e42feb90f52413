import Derived.Test.YtnbhboojhmmdhaaGreatDoorvC
namespace Go.Proofs.YtnbhboojhmmdhaaGreatDoor
open Go.RowKit

set_option maxHeartbeats 4000000 in
set_option maxRecDepth 1000000 in
theorem rvbound_any (a b : Int) (w : World) :
    Calls Tryz.prog 6 #[.int .i64 a, .int .i64 b] w fun e w' => e = .returned (.tuple #[.int .i64 (vbN a b), .int .i64 (vbE a b)]) ∧ w' = w := by
  by_cases h : 0 ≤ a ∧ a ≤ 4194304 ∧ 0 ≤ b ∧ b ≤ 268435456
  · rw [show vbN a b = 4 * a + 2 * b from if_pos h, show vbE a b = 0 from if_pos h]
    obtain ⟨h1, h2, h3, h4⟩ := h
    go_enter Tryz.func6, Tryz.ntmps6
    go_wp2
    refine bodyPost_ret (v := .tuple #[.int .i64 (4 * a + 2 * b), .int .i64 0]) ?_ rfl ⟨rfl, rfl⟩
    simp [results, Tryz.results6, go_sem]
    try (unfold wrap64; omega)
  · rw [show vbN a b = 0 from if_neg h, show vbE a b = 1 from if_neg h]
    go_enter Tryz.func6, Tryz.ntmps6
    by_cases h1 : a < 0
    · clear h
      go_wp2
      refine bodyPost_ret (v := .tuple #[.int .i64 0, .int .i64 1]) (by simp [results, Tryz.results6, go_sem]) rfl ⟨rfl, rfl⟩
    · by_cases h2 : 4194304 < a
      · clear h
        go_wp2
        refine bodyPost_ret (v := .tuple #[.int .i64 0, .int .i64 1]) (by simp [results, Tryz.results6, go_sem]) rfl ⟨rfl, rfl⟩
      · by_cases h3 : b < 0
        · clear h
          go_wp2
          refine bodyPost_ret (v := .tuple #[.int .i64 0, .int .i64 1]) (by simp [results, Tryz.results6, go_sem]) rfl ⟨rfl, rfl⟩
        · have h4 : 268435456 < b := by omega
          clear h
          go_wp2
          refine bodyPost_ret (v := .tuple #[.int .i64 0, .int .i64 1]) (by simp [results, Tryz.results6, go_sem]) rfl ⟨rfl, rfl⟩

set_option maxHeartbeats 8000000 in
set_option maxRecDepth 1000000 in
theorem vbounds_any (a b : Int) (w : World) : Calls Tryz.prog 3 #[.int .i64 a, .int .i64 b] w fun e w' => e = .returned (.bool true) ∧ Kept [] w w' := by
  have C1 := Hid.mk (fun u => vbound_any a b u)
  have C2 := Hid.mk (fun u => rvbound_any a b u)
  obtain ⟨n, en⟩ : ∃ n, vbN a b = n := ⟨_, rfl⟩
  obtain ⟨c, ec⟩ : ∃ n, vbE a b = n := ⟨_, rfl⟩
  rw [en, ec] at C1 C2
  clear en ec
  have C3 := Hid.mk (fun u => head_nil u)
  have C4 := Hid.mk (fun u => whole_nil a u)
  have C5 := Hid.mk (fun u => slice_nil 0 a u)
  have C6 := Hid.mk (fun u => region_nil 0 0 1 1 a u)
  have hq := eqlH
  have hbl := bldH
  go_enter Tryz.func3, Tryz.ntmps3
  go_wp2_with (fail)
  refine (valive_any w).mono ?_
  rintro e w1 ⟨rfl, k1⟩
  have K1 := Hid.mk k1
  clear k1
  go_wp2_with (fail)
  refine (C1.out _).mono ?_
  rintro e w2 ⟨rfl, hw⟩
  obtain rfl := hw.symm
  clear hw
  go_wp2_with (fail)
  refine (C2.out _).mono ?_
  rintro e w2 ⟨rfl, hw⟩
  obtain rfl := hw.symm
  clear hw
  go_wp2_with (fail)
  refine (C3.out _).mono ?_
  rintro e w3 ⟨rfl, k3⟩
  go_wp2_with (fail)
  obtain ⟨w4, e4⟩ : ∃ x, w3.alloc (.cells #[.int .i64 0, .int .i64 0, .int .i64 0, .bool false, .int .i64 0, .int .i64 0, .int .i64 0, .int .i64 0, .int .i64 0, .int .i64 0, .int .i64 0, .int .i64 0, .int .i64 0] 31 (0, 0)) = x := ⟨_, rfl⟩
  rw [e4]
  obtain ⟨Q1, q1⟩ : ∃ x, w3.heap.size = x := ⟨_, rfl⟩
  rw [q1]
  have K4 : Hid (Kept [] w w4) := Hid.mk (by rw [← e4]; exact (K1.out.trans k3).alloc _)
  have HH : Hid (w4.heap[Q1]? = some (.cells #[.int .i64 0, .int .i64 0, .int .i64 0, .bool false, .int .i64 0, .int .i64 0, .int .i64 0, .int .i64 0, .int .i64 0, .int .i64 0, .int .i64 0, .int .i64 0, .int .i64 0] 31 (0, 0))) := Hid.mk (by rw [← e4, ← q1]; exact heap_alloc_new _ _)
  clear k3 e4 q1
  refine (C4.out _).mono ?_
  rintro e w5 ⟨rfl, k5⟩
  have HH5 := Hid.mk (k5.heap HH.out (by simp))
  have K5 := Hid.mk (K4.out.trans k5)
  clear k5
  go_wp2_with (fail)
  obtain ⟨w6, e6⟩ : ∃ x, w5.alloc (.cells #[.int .i64 0, .int .i64 0, .int .i64 0, .bool false, .slice none 0 0] 36 (0, 0)) = x := ⟨_, rfl⟩
  rw [e6]
  obtain ⟨w7, e7⟩ : ∃ x, w6.alloc (.cells #[.int .i64 0, .int .i64 0, .int .i64 0, .bool false, .int .i64 0, .int .i64 0, .int .i64 0, .int .i64 0, .int .i64 0, .int .i64 0, .int .i64 0, .int .i64 0, .int .i64 0, .slice none 0 0, .slice none 0 0, .int .i64 0] 40 (0, 0)) = x := ⟨_, rfl⟩
  rw [e7]
  obtain ⟨Q2, q2⟩ : ∃ x, w5.heap.size = x := ⟨_, rfl⟩
  rw [q2]
  have k6 : Kept [] w5 w6 := by rw [← e6]; exact (Kept.refl [] w5).alloc _
  have k7 : Kept [] w6 w7 := by rw [← e7]; exact (Kept.refl [] w6).alloc _
  have HF : Hid (w7.heap[Q2]? = some (.cells #[.int .i64 0, .int .i64 0, .int .i64 0, .bool false, .slice none 0 0] 36 (0, 0))) := Hid.mk (k7.heap (by rw [← e6, ← q2]; exact heap_alloc_new _ _) (by simp))
  have K7 := Hid.mk (K5.out.trans (k6.trans k7))
  have HH7 := Hid.mk ((k6.trans k7).heap HH5.out (by simp))
  clear k6 k7 e6 e7 q2
  refine (C5.out _).mono ?_
  rintro e w8 ⟨rfl, k8⟩
  go_wp2_with (fail)
  obtain ⟨w9, e9⟩ : ∃ x, w8.alloc (.cells #[.int .i64 0, .int .i64 0, .int .i64 0, .bool false, .int .i64 0, .int .i64 0, .int .i64 0, .int .i64 0, .int .i64 0, .int .i64 0, .int .i64 0, .int .i64 0, .int .i64 0, .slice none 0 0, .slice none 0 0, .int .i64 0] 40 (0, 0)) = x := ⟨_, rfl⟩
  rw [e9]
  have k9 : Kept [] w8 w9 := by rw [← e9]; exact (Kept.refl [] w8).alloc _
  have K9 := Hid.mk (K7.out.trans (k8.trans k9))
  have HH9 := Hid.mk ((k8.trans k9).heap HH7.out (by simp))
  have HF9 := Hid.mk ((k8.trans k9).heap HF.out (by simp))
  clear k8 k9 e9
  refine (C6.out _).mono ?_
  rintro e wa ⟨rfl, ka⟩
  go_upto_region 8 with (fail)
  obtain ⟨wb, eb⟩ : ∃ x, wa.alloc (.cells #[.int .i64 0, .int .i64 0, .int .i64 0, .bool false, .slice none 0 0] 36 (0, 0)) = x := ⟨_, rfl⟩
  rw [eb]
  obtain ⟨wc, ec⟩ : ∃ x, wb.alloc (.cells #[.int .i64 0, .int .i64 0, .int .i64 0, .bool false, .int .i64 0, .int .i64 0, .int .i64 0, .int .i64 0, .int .i64 0, .int .i64 0, .int .i64 0, .int .i64 0, .int .i64 0, .slice none 0 0, .slice none 0 0, .int .i64 0] 40 (0, 0)) = x := ⟨_, rfl⟩
  rw [ec]
  obtain ⟨Q3, q3⟩ : ∃ x, wa.heap.size = x := ⟨_, rfl⟩
  rw [q3]
  have kb : Kept [] wa wb := by rw [← eb]; exact (Kept.refl [] wa).alloc _
  have kc : Kept [] wb wc := by rw [← ec]; exact (Kept.refl [] wb).alloc _
  have gh : wc.heap[Q3]? = some (.cells #[.int .i64 0, .int .i64 0, .int .i64 0, .bool false, .slice none 0 0] 36 (0, 0)) := kc.heap (by rw [← eb, ← q3]; exact heap_alloc_new _ _) (by simp)
  have fh := (ka.trans (kb.trans kc)).heap HF9.out (by simp)
  have hh := (ka.trans (kb.trans kc)).heap HH9.out (by simp)
  have KC := Hid.mk (K9.out.trans (ka.trans (kb.trans kc)))
  have h0 : wc.cell? ⟨Q1, 0, none⟩ = some (.int .i64 0) := by simp [World.cell?, hh]
  have h1 : wc.cell? ⟨Q1, 1, none⟩ = some (.int .i64 0) := by simp [World.cell?, hh]
  have h2 : wc.cell? ⟨Q1, 2, none⟩ = some (.int .i64 0) := by simp [World.cell?, hh]
  have h3 : wc.cell? ⟨Q1, 3, none⟩ = some (.bool false) := by simp [World.cell?, hh]
  have h4 : wc.cell? ⟨Q1, 4, none⟩ = some (.int .i64 0) := by simp [World.cell?, hh]
  have h5 : wc.cell? ⟨Q1, 5, none⟩ = some (.int .i64 0) := by simp [World.cell?, hh]
  have h6 : wc.cell? ⟨Q1, 6, none⟩ = some (.int .i64 0) := by simp [World.cell?, hh]
  have h7 : wc.cell? ⟨Q1, 7, none⟩ = some (.int .i64 0) := by simp [World.cell?, hh]
  have h8 : wc.cell? ⟨Q1, 8, none⟩ = some (.int .i64 0) := by simp [World.cell?, hh]
  have h9 : wc.cell? ⟨Q1, 9, none⟩ = some (.int .i64 0) := by simp [World.cell?, hh]
  have h10 : wc.cell? ⟨Q1, 10, none⟩ = some (.int .i64 0) := by simp [World.cell?, hh]
  have h11 : wc.cell? ⟨Q1, 11, none⟩ = some (.int .i64 0) := by simp [World.cell?, hh]
  have h12 : wc.cell? ⟨Q1, 12, none⟩ = some (.int .i64 0) := by simp [World.cell?, hh]
  have f4 : wc.cell? ⟨Q2, 4, none⟩ = some (.slice none 0 0) := by simp [World.cell?, fh]
  have g4 : wc.cell? ⟨Q3, 4, none⟩ = some (.slice none 0 0) := by simp [World.cell?, gh]
  clear gh fh hh ka kb kc eb ec q3
  go_wp2
  go_ret
  exact ⟨rfl, KC.out⟩
end Go.Proofs.YtnbhboojhmmdhaaGreatDoor
