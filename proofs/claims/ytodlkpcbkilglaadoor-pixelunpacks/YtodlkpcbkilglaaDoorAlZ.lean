import Derived.Test.YtodlkpcbkilglaaDoorPv
import Derived.Test.YtodlkpcbkilglaaDoorRwZ
import Derived.Test.YtodlkpcbkilglaaDoorPsZ
import Derived.Test.YtodlkpcbkilglaaDoorB2Z
namespace Go.Proofs.YtodlkpcbkilglaaDoor
open Go.RowKit Go.Shelf

/-- Rows of bytes, one behind the other, as numbers. -/
def ctN (rl : Nat → Nat) (rb : Nat → Nat → Nat) : Nat → List Nat
  | 0 => []
  | k + 1 => ctN rl rb k ++ (List.range (rl k)).map (rb k)
theorem ctB_map (rl : Nat → Nat) (rb : Nat → Nat → Nat) (k : Nat) : ctB rl rb k = (ctN rl rb k).map Bt.byt := by
  induction k with
  | zero => rfl
  | succ k ih => rw [ctB, ctN, List.map_append, ih]; congr 1; simp [fl, Bt.byt]
theorem ctN_length (rl : Nat → Nat) (rb : Nat → Nat → Nat) (k : Nat) : (ctN rl rb k).length = ctL rl k := by
  induction k with
  | zero => rfl
  | succ k ih => rw [ctN, List.length_append, ih, ctL]; simp

set_option maxHeartbeats 8000000 in
set_option maxRecDepth 1000000 in
theorem Pack_planar (W D : Int) (A : Bool) (po : Option Addr) (n c h : Nat) (ln pb pf pc : Nat → Nat) (F : Nat → Nat → Nat) (w : World) (hV : Vld W (h : Int) D A n ln F) 
    (hP : Pq w po n ln pb pf pc) (hR : ∀ i, i < n → Rd w (some ⟨pb i, pf i, none⟩) (ln i) (F i)) (hpc : ∀ i, i < n → ln i ≤ pc i) :
    Calls Tryd.prog 15 #[frv W (h : Int) D A po n c] w fun e w' => ∃ G M, e = .returned (.tuple #[.slice (some ⟨G, 0, none⟩) M M, .int .i64 0]) ∧ w.heap.size ≤ G ∧ M = ctL (plL W h) (np A * h) ∧
      w'.ownsRow 0 5 1 (.slice (some ⟨G, 0, none⟩) M M) M ((ctN (plL W h) (plR W h F) (np A * h)).map Bt.byt) ∧ Kept [] w w' := by
  have C1 := Hid.mk (fun u => planar_any u)
  have C2 := Hid.mk (fun (u : World) (hk : Kept [] w u) => pack_planar W D A po n c h ln pb pf pc F u hV  (hP.keep hk) (fun i hi => (hR i hi).keep hk) hpc)
  clear hV hP hR hpc 
  have hF := Fat.new w W (h : Int) D A (.slice po n c) 31
  have hk0 := alloc_kept w (.cells #[.int .i64 W, .int .i64 (h : Int), .int .i64 D, .bool A, .slice po n c] 31)
  obtain ⟨wa, ewa⟩ : ∃ wa, wa = w.alloc (.cells #[.int .i64 W, .int .i64 (h : Int), .int .i64 D, .bool A, .slice po n c] 31) := ⟨_, rfl⟩
  rw [← ewa] at hF hk0
  obtain ⟨q0, q1, q2, q3, q4⟩ := hF
  have QS := Hid.mk (Fat.mk q0 q1 q2 q3 q4)
  have HK := Hid.mk hk0
  clear hk0
  go_enter Tryd.func15, Tryd.ntmps15
  go_wp2
  rw [← ewa]
  clear ewa
  obtain ⟨b, eb⟩ : ∃ b, b = w.heap.size := ⟨_, rfl⟩
  rw [← eb] at QS q0 q1 q2 q3 q4 ⊢
  clear eb
  go_region_held_law (fun w' => w'.cell? ⟨b, 0, none⟩ = some (.int .i64 W) ∧ w'.cell? ⟨b, 1, none⟩ = some (.int .i64 (h : Int)) ∧ w'.cell? ⟨b, 2, none⟩ = some (.int .i64 D) ∧ w'.cell? ⟨b, 3, none⟩ = some (.bool A) ∧ w'.cell? ⟨b, 4, none⟩ = some (.slice po n c)) (first | exact ⟨q0, q1, q2, q3, q4⟩ | exact ⟨z0, z1, z2, z3, z4⟩ | exact ⟨y0, y1, y2, y3, y4⟩ | go_keep) (first | (go_at_call 35; refine (C1.out _).mono ?_; rintro e w1 ⟨rfl, hk1⟩; obtain ⟨z0, z1, z2, z3, z4⟩ := QS.out.keep hk1.undrew (by simp)) | (go_at_call 42; refine (C2.out _ (HK.out.trans hk1.undrew)).mono ?_; rintro e w2 ⟨G, M, rfl, hG, hM, hown, hk2⟩; obtain ⟨y0, y1, y2, y3, y4⟩ := QS.out.keep (hk1.undrew.trans hk2) (by simp); have HO := Hid.mk (And.intro hG (And.intro hM hown)); clear hG hM hown))
  all_goals go_wp2
  all_goals go_ret2
  all_goals exact ⟨G, M, rfl, Nat.le_trans (HK.out.trans hk1.undrew).size HO.out.1, HO.out.2.1, by rw [← ctB_map]; exact HO.out.2.2, (HK.out.trans hk1.undrew).trans hk2⟩

set_option maxHeartbeats 8000000 in
set_option maxRecDepth 1000000 in
theorem Pack_v210 (W D : Int) (A : Bool) (po : Option Addr) (n c h : Nat) (ln pb pf pc : Nat → Nat) (F : Nat → Nat → Nat) (w : World) (hV : Vld W (h : Int) D A n ln F) (hD : D = 10) (hA : A = false) (hT : Tab w)
    (hP : Pq w po n ln pb pf pc) (hR : ∀ i, i < n → Rd w (some ⟨pb i, pf i, none⟩) (ln i) (F i)) (hpc : ∀ i, i < n → ln i ≤ pc i) :
    Calls Tryd.prog 16 #[frv W (h : Int) D A po n c] w fun e w' => ∃ G M, e = .returned (.tuple #[.slice (some ⟨G, 0, none⟩) M M, .int .i64 0]) ∧ w.heap.size ≤ G ∧ M = ctL (v2L W) (1 * h) ∧
      w'.ownsRow 0 5 1 (.slice (some ⟨G, 0, none⟩) M M) M ((ctN (v2L W) (v2R W F) (1 * h)).map Bt.byt) ∧ Kept [] w w' := by
  have C1 := Hid.mk (fun u => v210_any u)
  have C2 := Hid.mk (fun (u : World) (hk : Kept [] w u) => pack_v210 W D A po n c h ln pb pf pc F u hV hD hA (hT.keep hk (by simp)) (hP.keep hk) (fun i hi => (hR i hi).keep hk) hpc)
  clear hV hP hR hpc hD hA hT
  have hF := Fat.new w W (h : Int) D A (.slice po n c) 31
  have hk0 := alloc_kept w (.cells #[.int .i64 W, .int .i64 (h : Int), .int .i64 D, .bool A, .slice po n c] 31)
  obtain ⟨wa, ewa⟩ : ∃ wa, wa = w.alloc (.cells #[.int .i64 W, .int .i64 (h : Int), .int .i64 D, .bool A, .slice po n c] 31) := ⟨_, rfl⟩
  rw [← ewa] at hF hk0
  obtain ⟨q0, q1, q2, q3, q4⟩ := hF
  have QS := Hid.mk (Fat.mk q0 q1 q2 q3 q4)
  have HK := Hid.mk hk0
  clear hk0
  go_enter Tryd.func16, Tryd.ntmps16
  go_wp2
  rw [← ewa]
  clear ewa
  obtain ⟨b, eb⟩ : ∃ b, b = w.heap.size := ⟨_, rfl⟩
  rw [← eb] at QS q0 q1 q2 q3 q4 ⊢
  clear eb
  go_region_held_law (fun w' => w'.cell? ⟨b, 0, none⟩ = some (.int .i64 W) ∧ w'.cell? ⟨b, 1, none⟩ = some (.int .i64 (h : Int)) ∧ w'.cell? ⟨b, 2, none⟩ = some (.int .i64 D) ∧ w'.cell? ⟨b, 3, none⟩ = some (.bool A) ∧ w'.cell? ⟨b, 4, none⟩ = some (.slice po n c)) (first | exact ⟨q0, q1, q2, q3, q4⟩ | exact ⟨z0, z1, z2, z3, z4⟩ | exact ⟨y0, y1, y2, y3, y4⟩ | go_keep) (first | (go_at_call 38; refine (C1.out _).mono ?_; rintro e w1 ⟨rfl, hk1⟩; obtain ⟨z0, z1, z2, z3, z4⟩ := QS.out.keep hk1.undrew (by simp)) | (go_at_call 42; refine (C2.out _ (HK.out.trans hk1.undrew)).mono ?_; rintro e w2 ⟨G, M, rfl, hG, hM, hown, hk2⟩; obtain ⟨y0, y1, y2, y3, y4⟩ := QS.out.keep (hk1.undrew.trans hk2) (by simp); have HO := Hid.mk (And.intro hG (And.intro hM hown)); clear hG hM hown))
  all_goals go_wp2
  all_goals go_ret2
  all_goals exact ⟨G, M, rfl, Nat.le_trans (HK.out.trans hk1.undrew).size HO.out.1, HO.out.2.1, by rw [← ctB_map]; exact HO.out.2.2, (HK.out.trans hk1.undrew).trans hk2⟩

/-- The first example's frame, where it lies. -/
theorem tiny_in {w : World} {g : Nat} (h : ∀ i, i < 3 → ∃ b, w.cell? ⟨g, i, none⟩ = some (.slice (some ⟨b, 0, none⟩) 1 1) ∧ w.cell? ⟨b, 0, none⟩ = some (.int .u16 (tnF i : Int))) :
    ∃ pb : Nat → Nat, Pq w (some ⟨g, 0, none⟩) 3 (fun _ => 1) pb (fun _ => 0) (fun _ => 1) ∧ ∀ i, i < 3 → Rd w (some ⟨pb i, 0, none⟩) 1 (fun _ => tnF i) := by
  have h2 : ∀ i, ∃ b, i < 3 → w.cell? ⟨g, i, none⟩ = some (.slice (some ⟨b, 0, none⟩) 1 1) ∧ w.cell? ⟨b, 0, none⟩ = some (.int .u16 (tnF i : Int)) := fun i => by
    by_cases hi : i < 3
    · obtain ⟨b, hb⟩ := h i hi
      exact ⟨b, fun _ => hb⟩
    · exact ⟨0, fun hj => absurd hj hi⟩
  obtain ⟨pb, hpb⟩ := Classical.axiomOfChoice h2
  refine ⟨pb, ⟨g, 0, rfl, fun i hi => by rw [Nat.zero_add]; exact (hpb i hi).1⟩, fun i hi => .inr ⟨pb i, 0, rfl, fun j hj => ?_⟩⟩
  obtain rfl : j = 0 := by omega
  exact (hpb i hi).2
theorem tiny_vld : Vld 1 ((1 : Nat) : Int) 10 false 3 (fun _ => 1) (fun i _ => tnF i) := by
  refine ⟨⟨by omega, by omega, by omega, by decide⟩, rfl, fun i hi => ?_, fun i hi j hj => ?_⟩
  · rcases (by omega : i = 0 ∨ i = 1 ∨ i = 2) with rfl | rfl | rfl <;> decide
  · rcases (by omega : i = 0 ∨ i = 1 ∨ i = 2) with rfl | rfl | rfl <;> decide

set_option maxHeartbeats 8000000 in
set_option maxRecDepth 1000000 in
/-- Both examples. -/
theorem alive_any (w : World) (hT : Tab w) : Calls Tryd.prog 9 #[] w fun e w' => e = .returned (.bool true) ∧ Kept [] w w' := by
  have CT := Hid.mk (fun u => tiny_any u)
  have HT := Hid.mk hT
  clear hT
  go_enter Tryd.func9, Tryd.ntmps9
  go_wp2_with (fail)
  refine (CT.out _).mono ?_
  rintro e w1 ⟨g, rfl, hg, hk1⟩
  obtain ⟨pb, hP, hR⟩ := tiny_in hg
  have C1 := Hid.mk (Pack_planar 1 10 false (some ⟨g, 0, none⟩) 3 3 1 (fun _ => 1) pb (fun _ => 0) (fun _ => 1) (fun i _ => tnF i) w1 tiny_vld hP hR (fun _ _ => Nat.le_refl _))
  have HK1 := Hid.mk hk1
  clear hg hP hR hk1
  go_wp2_with (fail)
  refine C1.out.mono ?_
  rintro e w2 ⟨G, M, rfl, hG, hM, hown, hk2⟩
  have hM6 : ctL (plL 1 1) (np false * 1) = 6 := by kernel_rfl
  have hN6 : ctN (plL 1 1) (plR 1 1 (fun i _ => tnF i)) (np false * 1) = [1, 0, 2, 0, 1, 3] := by kernel_rfl
  rw [hM6] at hM
  subst hM
  rw [hN6] at hown
  have HO := Hid.mk (And.intro hown (HK1.out.trans hk2))
  clear hown hk2 hG hM6 hN6 C1
  go_wp2_with (fail)
  refine (CT.out _).mono ?_
  rintro e w3 ⟨g2, rfl, hg, hk3⟩
  obtain ⟨pb2, hP, hR⟩ := tiny_in hg
  have C2 := Hid.mk (Pack_v210 1 10 false (some ⟨g2, 0, none⟩) 3 3 1 (fun _ => 1) pb2 (fun _ => 0) (fun _ => 1) (fun i _ => tnF i) w3 tiny_vld rfl rfl (HT.out.keep (HO.out.2.trans hk3) (by simp)) hP hR (fun _ _ => Nat.le_refl _))
  have HO3 := Hid.mk (And.intro (hk3.row HO.out.1 (by simp)) (HO.out.2.trans hk3))
  clear hg hP hR hk3
  go_wp2_with (fail)
  refine C2.out.mono ?_
  rintro e w4 ⟨G2, M2, rfl, hG, hM, hown, hk4⟩
  have hM6 : ctL (v2L 1) (1 * 1) = 128 := by kernel_rfl
  rw [hM6] at hM
  subst hM
  have r1 := Bt.reads_str (Bt.reads_row (hk4.row HO3.out.1 (by simp))) 6
  have hr2 := Bt.reads_row hown
  have r2 : Bt.Reads w4 (some ⟨G2, 0, none⟩) [2, 4, 16, 48] := by
    rcases hr2 with h | ⟨g', off, e, hc⟩
    · exact absurd (congrArg List.length h) (by rw [ctN_length, hM6]; decide)
    · refine .inr ⟨g', off, e, ?_⟩
      intro i hi
      have hN : (ctN (v2L 1) (v2R 1 (fun i _ => tnF i)) (1 * 1)).take 4 = [2, 4, 16, 48] := by kernel_rfl
      have hi4 : i < 4 := hi
      rw [hc i (by rw [ctN_length, hM6]; omega), ← hN]
      simp only [List.getD, List.getElem?_take_of_lt hi4]
  have r3 := Bt.reads_str r2 128
  have e1 : Bt.bstr [1, 0, 2, 0, 1, 3] = ⟨#[1, 0, 2, 0, 1, 3]⟩ := by kernel_rfl
  have e3 : Bt.bstr [2, 4, 16, 48] = ⟨#[2, 4, 16, 48]⟩ := by kernel_rfl
  rw [e1] at r1
  rw [e3] at r3
  have r1' : Sem.run Tryd.prog (convert 37 9 (.slice (some ⟨G, 0, none⟩) 6 6)) w4 = .ok (.string ⟨#[1, 0, 2, 0, 1, 3]⟩) w4 := r1
  have r3' : Sem.run Tryd.prog (convert 37 9 (.slice (some ⟨G2, 0, none⟩) 4 128)) w4 = .ok (.string ⟨#[2, 4, 16, 48]⟩) w4 := r3
  have HK4 := Hid.mk (HO3.out.2.trans hk4)
  clear r1 r3 e1 e3 hown hM6 hr2 r2 hk4 hG HO3 C2 HO HK1 HT CT
  go_wp2
  go_ret
  exact ⟨by simp, HK4.out⟩
end Go.Proofs.YtodlkpcbkilglaaDoor

namespace Go.Proofs.YtodlkpcbkilglaaDoor
open Go.RowKit Go.Shelf

set_option maxHeartbeats 4000000 in
set_option maxRecDepth 1000000 in
/-- PixelNames. -/
theorem names_any (w : World) (hT : Tab w) : Calls Tryd.prog 3 #[] w fun e w' => e = .returned (.bool true) ∧ Kept [] w w' := by
  have CA := Hid.mk (alive_any w hT)
  clear hT
  go_enter Tryd.func3, Tryd.ntmps3
  go_wp2_with (fail)
  refine CA.out.mono ?_
  rintro e w1 ⟨rfl, hk1⟩
  go_wp2
  go_ret
  exact ⟨rfl, hk1⟩

set_option maxHeartbeats 4000000 in
set_option maxRecDepth 1000000 in
/-- PixelSizes. -/
theorem sizes_any (W H D : Int) (A : Bool) (w : World) (hT : Tab w) : Calls Tryd.prog 4 #[shv W H D A] w fun e w' => e = .returned (.bool true) ∧ Kept [] w w' := by
  have C1 := Hid.mk (fun u => planarSize_any W H D A u)
  have C2 := Hid.mk (fun u => rplanarSize_any W H D A u)
  have C3 := Hid.mk (fun u => v210Size_any W H D A u)
  have C4 := Hid.mk (fun u => rv210Size_any W H D A u)
  have e1 : (if shE W H D A = 0 ∧ true = true then sS W H (fun x => 2 * x) (fun i => i) (np A) else 0) = (if shE W H D A = 0 then 2 * tot W H A else 0) := by
    rcases shE_two W H D A with ⟨h1, h2⟩ | ⟨h1, h2⟩
    · rw [h1, if_pos ⟨rfl, rfl⟩, if_pos rfl]; exact sS_planar A h2.1.1
    · rw [h1]; simp
  have e2 : (if shE W H D A = 0 then (if true = true then (0 : Int) else 71) else 61) = shE W H D A := by
    rcases shE_two W H D A with ⟨h1, h2⟩ | ⟨h1, h2⟩
    · rw [h1]; simp
    · rw [h1]; simp
  have e3 : (if shE W H D A = 0 ∧ (decide (D = 10) && !A) = true then sS W H (fun x => (x + 47) / 48 * 128) (fun _ => 0) 1 else 0) = (if shE W H D A = 0 ∧ (decide (D = 10) && !A) = true then H * ((W + 47) / 48 * 128) else 0) := by
    rcases shE_two W H D A with ⟨h1, h2⟩ | ⟨h1, h2⟩
    · rw [sS_v210 h2.1.1]
    · rw [h1]; simp
  rw [e1, e2] at C1
  rw [e3] at C3
  obtain ⟨n1, en1⟩ : ∃ n1 : Int, n1 = (if shE W H D A = 0 then 2 * tot W H A else 0) := ⟨_, rfl⟩
  obtain ⟨n2, en2⟩ : ∃ n2 : Int, n2 = shE W H D A := ⟨_, rfl⟩
  obtain ⟨n3, en3⟩ : ∃ n3 : Int, n3 = (if shE W H D A = 0 ∧ (decide (D = 10) && !A) = true then H * ((W + 47) / 48 * 128) else 0) := ⟨_, rfl⟩
  obtain ⟨n4, en4⟩ : ∃ n4 : Int, n4 = (if shE W H D A = 0 then (if (decide (D = 10) && !A) = true then 0 else 71) else 61) := ⟨_, rfl⟩
  rw [← en1, ← en2] at C1 C2
  rw [← en3, ← en4] at C3 C4
  clear e1 e2 e3 en1 en2 en3 en4
  have hk0 := alloc_kept w (.cells #[.int .i64 W, .int .i64 H, .int .i64 D, .bool A] 24)
  have hS := Sat.new w W H D A 24
  have CA := Hid.mk (fun (u : World) (hk : Kept [] w u) => alive_any u (hT.keep hk (by simp)))
  obtain ⟨wa, ewa⟩ : ∃ wa, w.alloc (.cells #[.int .i64 W, .int .i64 H, .int .i64 D, .bool A] 24) = wa := ⟨_, rfl⟩
  rw [ewa] at hk0 hS
  have HK0 := Hid.mk hk0
  have HS := Hid.mk hS
  clear hT hk0 hS
  go_enter Tryd.func4, Tryd.ntmps4
  go_wp2_with (fail)
  refine (CA.out _ HK0.out).mono ?_
  rintro e w1 ⟨rfl, hk1⟩
  obtain ⟨q0, q1, q2, q3⟩ := HS.out.keep hk1 (by simp)
  go_wp2_with (fail)
  refine (C1.out _).mono ?_
  rintro e w2 ⟨rfl, hk2⟩
  clear q0 q1 q2 q3
  obtain ⟨q0, q1, q2, q3⟩ := HS.out.keep (hk1.trans hk2) (by simp)
  go_wp2_with (fail)
  refine (C2.out _).mono ?_
  rintro e w3 ⟨rfl, hk3⟩
  clear q0 q1 q2 q3
  obtain ⟨q0, q1, q2, q3⟩ := HS.out.keep ((hk1.trans hk2).trans hk3) (by simp)
  go_wp2_with (fail)
  refine (C3.out _).mono ?_
  rintro e w4 ⟨rfl, hk4⟩
  clear q0 q1 q2 q3
  obtain ⟨q0, q1, q2, q3⟩ := HS.out.keep (((hk1.trans hk2).trans hk3).trans hk4) (by simp)
  go_wp2_with (fail)
  refine (C4.out _).mono ?_
  rintro e w5 ⟨rfl, hk5⟩
  have HK := Hid.mk (HK0.out.trans ((((hk1.trans hk2).trans hk3).trans hk4).trans hk5))
  clear hk1 hk2 hk3 hk4 hk5
  go_wp2
  go_ret
  exact ⟨by simp, HK.out⟩
end Go.Proofs.YtodlkpcbkilglaaDoor

namespace Go.Proofs.YtodlkpcbkilglaaDoor
open Go.RowKit

/-- Which of n things a raw number speaks of. -/
def pick (c n : Int) : Int := if c < 0 then (-(c + 1)) % n else c % n
theorem pick_lo (c n : Int) (h : 0 < n) : 0 ≤ pick c n := by
  unfold pick; split <;> exact Int.emod_nonneg _ (by omega)
theorem pick_hi (c n : Int) (h : 0 < n) : pick c n < n := by
  unfold pick; split <;> exact Int.emod_lt_of_pos _ h
set_option maxHeartbeats 1000000 in
theorem pick_any (c n : Int) (w : World) (c0 : -9223372036854775808 ≤ c) (c1 : c ≤ 9223372036854775807) (h : 0 < n) (h1 : n ≤ 9223372036854775807) :
    Calls Tryd.prog 34 #[.int .i64 c, .int .i64 n] w fun e w' => e = .returned (.int .i64 (pick c n)) ∧ w' = w := by
  have hn : ¬ n = 0 := by omega
  by_cases hc : c < 0
  · go_enter Tryd.func34, Tryd.ntmps34
    go_wp2
    go_ret
    exact ⟨by congr 2; unfold pick; rw [if_pos hc, ← Int.neg_tmod, Int.tmod_eq_emod_of_nonneg (by omega)]; rfl, rfl⟩
  · go_enter Tryd.func34, Tryd.ntmps34
    go_wp2
    go_ret
    exact ⟨by congr 2; unfold pick; rw [if_neg (by omega)]; rfl, rfl⟩
set_option maxHeartbeats 8000000 in
set_option maxRecDepth 1000000 in
/-- No frame is the same as one that has a shape. -/
theorem rsame_ne (W H D : Int) (A : Bool) (po qo : Option Addr) (n c m d : Nat) (w : World) (hW : W ≠ 0) :
    Calls Tryd.prog 26 #[frv 0 0 0 false qo m d, frv W H D A po n c] w fun e w' => e = .returned (.bool false) ∧ Kept [] w w' := by
  have h1 := heap_alloc_new w (.cells #[.int .i64 0, .int .i64 0, .int .i64 0, .bool false, .slice qo m d] 31)
  have k1 := alloc_kept w (.cells #[.int .i64 0, .int .i64 0, .int .i64 0, .bool false, .slice qo m d] 31)
  have h2 := heap_alloc_new (w.alloc (.cells #[.int .i64 0, .int .i64 0, .int .i64 0, .bool false, .slice qo m d] 31)) (.cells #[.int .i64 W, .int .i64 H, .int .i64 D, .bool A, .slice po n c] 31)
  have k2 := alloc_kept (w.alloc (.cells #[.int .i64 0, .int .i64 0, .int .i64 0, .bool false, .slice qo m d] 31)) (.cells #[.int .i64 W, .int .i64 H, .int .i64 D, .bool A, .slice po n c] 31)
  have K1 := Hid.mk (k1.trans k2)
  have e1 : ((0 : Int) == W) = false := by simpa using fun e => hW e.symm
  have e2 : ¬ (0 : Int) = W := fun e => hW e.symm
  clear h1 k1 h2 k2
  go_enter Tryd.func26, Tryd.ntmps26
  go_wp2
  go_ret
  exact ⟨rfl, K1.out⟩
end Go.Proofs.YtodlkpcbkilglaaDoor
