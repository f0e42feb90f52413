import Derived.Test.YtgjjnkhkjnkahaaDoorMc
import Derived.Test.YtgjjnkhkjnkahaaDoorcA6
import Derived.Lib.Strings
namespace Go.Proofs.YtgjjnkhkjnkahaaDoor
open Go.RowKit

/-- The title of the example's list. -/
def tx : ByteArray := ⟨#[120]⟩
/-- The example's list. -/
abbrev lx : Value := .agg #[.string ⟨#[120]⟩, .int .i64 2, .slice none 0 0]
theorem tx_cut (w : World) : Sem.run Tryd.prog (Instr.slice 9 (.string ⟨#[120]⟩) (some (.int .i64 1)) none none) w = .ok (.string ⟨#[]⟩) w := by kernel_rfl
set_option maxHeartbeats 4000000 in
set_option maxRecDepth 1000000 in
theorem valid_x (w : World) : Calls Tryd.prog 53 #[.string ⟨#[120]⟩] w fun e w' => e = .returned (.bool true) ∧ w' = w := by
  have hcut := tx_cut w
  go_enter Tryd.func53, Tryd.ntmps53
  go_wp2_with (fail)
  go_loopw [0] (fun s wr => (s = .string ⟨#[120]⟩ ∨ s = .string ⟨#[]⟩) ∧ wr = w) (fun s _ => match s with | .string b => b.size | _ => 0)
  case atStart => exact ⟨.inl rfl, rfl⟩
  case round =>
    obtain ⟨hs, rfl⟩ := hrel
    rcases hs with rfl | rfl
    · have hb : (((⟨#[120]⟩ : ByteArray)[0]).toNat : Int) < 128 := by decide
      go_wp2_with (fail)
      exact ⟨⟨.inr rfl, trivial⟩, by decide⟩
    · go_wp2_with (fail)
      go_ret
      exact ⟨rfl, rfl⟩
set_option maxHeartbeats 4000000 in
set_option maxRecDepth 1000000 in
theorem note_x (w : World) : Calls Tryd.prog 49 #[.string ⟨#[120]⟩] w fun e w' => e = .returned (.int .i64 0) ∧ w' = w := by
  have C := Hid.mk (valid_x w)
  go_enter Tryd.func49, Tryd.ntmps49
  go_wp2_with (fail)
  refine C.out.mono ?_
  rintro e w2 ⟨rfl, hw⟩
  obtain rfl := hw.symm
  go_wp2_with (fail)
  go_ret
  exact ⟨rfl, rfl⟩
theorem cut_cells {w : World} {B : Nat} {a b c : Value} {t : TypeId} (h : w.heap[B]? = some (.cells #[a, b, c] t (0, 0))) : w.cell? ⟨B, 0, none⟩ = some a ∧ w.cell? ⟨B, 1, none⟩ = some b ∧ w.cell? ⟨B, 2, none⟩ = some c := by
  refine ⟨?_, ?_, ?_⟩ <;> (rw [cell_of_row _ _ _ _ _ _ h]; rfl)
set_option maxHeartbeats 4000000 in
set_option maxRecDepth 1000000 in
theorem checkList_x (w : World) (hT : Tc.Tb w) : Calls Tryd.prog 44 #[lx] w fun e w' => e = .returned .nilIface ∧ Kept [] w w' := by
  obtain ⟨w1, e1⟩ : ∃ w1, w.alloc (.cells #[.string ⟨#[120]⟩, .int .i64 2, .slice none 0 0] 51 (0, 0)) = w1 := ⟨_, rfl⟩
  have k1 : Kept [] w w1 := by rw [← e1]; exact alloc_kept _ _
  have b1 := heap_alloc_new w (.cells #[.string ⟨#[120]⟩, .int .i64 2, .slice none 0 0] 51 (0, 0))
  rw [e1] at b1
  have C := Hid.mk (note_x w1)
  have CP := Hid.mk (Tc.PerDay_yes 2 w1 ⟨by decide, by decide⟩ (hT.keep k1))
  have HB := Hid.mk b1
  have K1 := Hid.mk k1
  obtain ⟨x0, x1, x2⟩ := cut_cells b1
  clear b1 k1 hT
  go_enter Tryd.func44, Tryd.ntmps44
  go_wp2_with (fail)
  refine C.out.mono ?_
  rintro e w2 ⟨rfl, hw⟩
  obtain rfl := hw.symm
  go_wp2_with (fail)
  refine CP.out.mono ?_
  rintro e w3 ⟨rfl, k3⟩
  obtain ⟨y0, y1, y2⟩ := cut_cells (k3.heap HB.out (by simp))
  have K3 := Hid.mk (K1.out.trans k3)
  clear k3 x0 x1 x2
  go_wp2_with (fail)
  go_ret
  exact ⟨rfl, K3.out⟩
set_option maxHeartbeats 4000000 in
set_option maxRecDepth 1000000 in
theorem Check_x (w : World) (hT : Tc.Tb w) : Calls Tryd.prog 31 #[lx] w fun e w' => e = .returned .nilIface ∧ Kept [] w w' := by
  obtain ⟨w1, e1⟩ : ∃ w1, w.alloc (.cells #[.string ⟨#[120]⟩, .int .i64 2, .slice none 0 0] 51 (0, 0)) = w1 := ⟨_, rfl⟩
  have k1 : Kept [] w w1 := by rw [← e1]; exact alloc_kept _ _
  have b1 := heap_alloc_new w (.cells #[.string ⟨#[120]⟩, .int .i64 2, .slice none 0 0] 51 (0, 0))
  rw [e1] at b1
  have C := Hid.mk (checkList_x w1 (hT.keep k1))
  have HB := Hid.mk b1
  have K1 := Hid.mk k1
  obtain ⟨x0, x1, x2⟩ := cut_cells b1
  clear b1 k1 hT
  go_enter Tryd.func31, Tryd.ntmps31
  go_wp2_with (fail)
  refine C.out.mono ?_
  rintro e w3 ⟨rfl, k3⟩
  obtain ⟨y0, y1, y2⟩ := cut_cells (k3.heap HB.out (by simp))
  have K3 := Hid.mk (K1.out.trans k3)
  clear k3 x0 x1 x2
  go_wp2_with (fail)
  go_loopw [14] (fun i wr => i = .int .i64 0 ∧ wr = w3) (fun _ _ => 0)
  case atStart => exact ⟨rfl, rfl⟩
  case round =>
    obtain ⟨rfl, rfl⟩ := hrel
    go_wp2_with (fail)
    go_ret
    exact ⟨rfl, K3.out⟩
set_option maxHeartbeats 4000000 in
set_option maxRecDepth 1000000 in
theorem Length_x (w : World) (hT : Tc.Tb w) : Calls Tryd.prog 20 #[lx] w fun e w' => e = .returned (.tuple #[.int .i64 0, .nilIface]) ∧ Kept [] w w' := by
  obtain ⟨w1, e1⟩ : ∃ w1, w.alloc (.cells #[.string ⟨#[120]⟩, .int .i64 2, .slice none 0 0] 51 (0, 0)) = w1 := ⟨_, rfl⟩
  have k1 : Kept [] w w1 := by rw [← e1]; exact alloc_kept _ _
  have b1 := heap_alloc_new w (.cells #[.string ⟨#[120]⟩, .int .i64 2, .slice none 0 0] 51 (0, 0))
  rw [e1] at b1
  have C := Hid.mk (Check_x w1 (hT.keep k1))
  have HB := Hid.mk b1
  have K1 := Hid.mk k1
  obtain ⟨x0, x1, x2⟩ := cut_cells b1
  clear b1 k1 hT
  go_enter Tryd.func20, Tryd.ntmps20
  go_wp2_with (fail)
  refine C.out.mono ?_
  rintro e w3 ⟨rfl, k3⟩
  obtain ⟨y0, y1, y2⟩ := cut_cells (k3.heap HB.out (by simp))
  have K3 := Hid.mk (K1.out.trans k3)
  clear k3 x0 x1 x2
  go_wp2_with (fail)
  go_loopw [5, 16] (fun a i wr => a = .int .i64 0 ∧ i = .int .i64 0 ∧ wr = w3) (fun _ _ _ => 0)
  case atStart => exact ⟨rfl, rfl, rfl⟩
  case round =>
    obtain ⟨rfl, rfl, rfl⟩ := hrel
    go_wp2_with (fail)
    go_ret2
    exact ⟨rfl, K3.out⟩
set_option maxHeartbeats 4000000 in
set_option maxRecDepth 1000000 in
theorem check_x (m : Value) (w : World) (hT : Tc.Tb w) : Calls Tryd.prog 19 #[lx, m] w fun e w' => e = .returned .nilIface ∧ Kept [] w w' := by
  obtain ⟨w1, e1⟩ : ∃ w1, w.alloc (.cells #[.string ⟨#[120]⟩, .int .i64 2, .slice none 0 0] 51 (0, 0)) = w1 := ⟨_, rfl⟩
  have k1 : Kept [] w w1 := by rw [← e1]; exact alloc_kept _ _
  have b1 := heap_alloc_new w (.cells #[.string ⟨#[120]⟩, .int .i64 2, .slice none 0 0] 51 (0, 0))
  rw [e1] at b1
  have C := Hid.mk (Check_x w1 (hT.keep k1))
  have HB := Hid.mk b1
  have K1 := Hid.mk k1
  obtain ⟨x0, x1, x2⟩ := cut_cells b1
  clear b1 k1 hT
  go_enter Tryd.func19, Tryd.ntmps19
  go_wp2_with (fail)
  refine C.out.mono ?_
  rintro e w3 ⟨rfl, k3⟩
  obtain ⟨y0, y1, y2⟩ := cut_cells (k3.heap HB.out (by simp))
  have K3 := Hid.mk (K1.out.trans k3)
  clear k3 x0 x1 x2
  go_wp2_with (fail)
  go_loopw [17] (fun i wr => i = .int .i64 0 ∧ wr = w3) (fun _ _ => 0)
  case atStart => exact ⟨rfl, rfl⟩
  case round =>
    obtain ⟨rfl, rfl⟩ := hrel
    go_wp2_with (fail)
    go_ret
    exact ⟨rfl, K3.out⟩
end Go.Proofs.YtgjjnkhkjnkahaaDoor
