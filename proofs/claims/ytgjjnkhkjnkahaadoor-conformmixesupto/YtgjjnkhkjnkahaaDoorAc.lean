import Derived.Test.YtgjjnkhkjnkahaaDoorGa
import Derived.Test.YtgjjnkhkjnkahaaDoorAb
namespace Go.Proofs.YtgjjnkhkjnkahaaDoor
open Go.RowKit

theorem vld_small (v : Nat) (hv : v ≤ 1023) : Vld 16 16 10 false 3 (pz 16 16) (fun _ _ => v) :=
  ⟨by unfold Shp tot hf; decide, rfl, fun i hi => by
    match i, hi with
    | 0, _ => rfl
    | 1, _ => rfl
    | 2, _ => rfl, fun _ _ _ _ => hv⟩
set_option maxHeartbeats 8000000 in
set_option maxRecDepth 1000000 in
theorem awake_any (w : World) (hT : Tc.Tb w) : Calls Tryd.prog 5 #[] w fun e w' => e = .returned (.bool true) ∧ Kept [] w w' := by
  have HT := Hid.mk hT
  clear hT
  go_enter Tryd.func5, Tryd.ntmps5
  go_wp2_with (fail)
  refine (small_any 10 w).mono ?_
  rintro e w1 ⟨po1, c1, rfl, hp1, k1⟩
  have HP1 := Hid.mk hp1
  have K1 := Hid.mk k1
  clear hp1 k1
  go_wp2_with (fail)
  refine (small_any 20 w1).mono ?_
  rintro e w2 ⟨po2, c2, rfl, hp2, k2⟩
  have CM := Hid.mk (mix_yes 16 16 10 false po1 3 c1 (pz 16 16) (fun _ _ => 10) po2 c2 (pz 16 16) (fun _ _ => 20) 1 3 w2 (HP1.out.keep k2) (vld_small 10 (by omega)) hp2 (vld_small 20 (by omega)) (by omega) (by omega) (by omega))
  have K2 := Hid.mk (K1.out.trans k2)
  clear hp2 k2
  go_wp2_with (fail)
  refine CM.out.mono ?_
  rintro e w3 ⟨g, bs, rfl, hM⟩
  have K3 := Hid.mk (K2.out.trans hM.kept)
  obtain ⟨w4, e4⟩ : ∃ w4, w3.alloc (.cells #[.int .i64 16, .int .i64 16, .int .i64 10, .bool false, .slice (some ⟨g, 0, none⟩) 3 3] 29 (0, 0)) = w4 := ⟨_, rfl⟩
  have k4 : Kept [] w3 w4 := by rw [← e4]; exact alloc_kept _ _
  have b4 := heap_alloc_new w3 (.cells #[.int .i64 16, .int .i64 16, .int .i64 10, .bool false, .slice (some ⟨g, 0, none⟩) 3 3] 29 (0, 0))
  rw [e4] at b4
  have HM4 := Hid.mk (hM.keep k4)
  have K4 := Hid.mk (K3.out.trans k4)
  have HB4 := Hid.mk b4
  have CP := Hid.mk (Plan_x w4 (HT.out.keep K4.out))
  have E4 := Hid.mk e4
  clear hM k4 b4 CM e4
  go_wp2_with (fail)
  rw [E4.out]
  obtain ⟨X, eX⟩ : ∃ X, w3.heap.size = X := ⟨_, rfl⟩
  rw [eX] at HB4 ⊢
  refine CP.out.mono ?_
  rintro e w5 ⟨a, rfl, k5⟩
  have M5 := HM4.out.keep k5
  have d0 := M5.cell (i := 0) (by omega) (Nat.le_refl 3)
  have d1 := (M5.row 0 (by omega)).at (j := 9) (by decide)
  have ev : ((mxF (fun _ _ => 10) (fun _ _ => 20) 1 3 0 9 : Nat) : Int) = 13 := by decide
  rw [ev] at d1
  rw [pz16.1] at d0
  obtain ⟨⟨_, _, _, _, x4⟩, _⟩ := five (k5.heap HB4.out (by simp))
  have K5 := Hid.mk (K4.out.trans k5)
  clear k5 M5 CP ev eX
  go_wp2_with (fail)
  go_ret
  exact ⟨rfl, K5.out⟩
end Go.Proofs.YtgjjnkhkjnkahaaDoor
