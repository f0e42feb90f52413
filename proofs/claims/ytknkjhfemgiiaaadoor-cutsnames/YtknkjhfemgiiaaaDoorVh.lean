import Derived.Test.YtknkjhfemgiiaaaDoorVg
namespace Go.Proofs.YtknkjhfemgiiaaaDoor
open Go.RowKit Go.Lib

def al0 : ByteArray := ⟨#[108, 105, 115, 116, 32, 50, 53, 32, 34, 111, 110, 101, 34, 10, 99, 117, 116, 32, 97, 32, 48, 48, 58, 48, 48, 58, 48, 49, 58, 48, 48, 32, 48, 48, 58, 48, 48, 58, 48, 50, 58, 48, 48]⟩
def al1 : ByteArray := ⟨#[108, 105, 115, 116, 32, 50, 53, 32, 34, 111, 110, 101, 34]⟩
def al2 : ByteArray := ⟨#[99, 117, 116, 32, 97, 32, 48, 48, 58, 48, 48, 58, 48, 49, 58, 48, 48, 32, 48, 48, 58, 48, 48, 58, 48, 50, 58, 48, 48]⟩
def alT : ByteArray := ⟨#[111, 110, 101]⟩
def alA : ByteArray := ⟨#[97]⟩
def alE : Evt := ⟨alA, 25, 50, 0, ⟨#[]⟩⟩
def alQ : Ps := ⟨alT, 2, [alE], true⟩
theorem al_ct : ctE al0 = none := by kernel_rfl
theorem al_rows : rows al0 = [al1, al2] := by kernel_rfl
theorem al_w1 : lnW al1 0 = [⟨0, 0, kList⟩, ⟨0, 5, ⟨#[50, 53]⟩⟩, ⟨1, 8, alT⟩] := by kernel_rfl
theorem al_e1 : lnE al1 0 = 13 := by kernel_rfl
theorem al_t1 : tkF ps0 [⟨0, 0, kList⟩, ⟨0, 5, ⟨#[50, 53]⟩⟩, ⟨1, 8, alT⟩] 13 = (⟨alT, 2, [], true⟩, none) := by kernel_rfl
theorem al_w2 : lnW al2 14 = [⟨0, 14, kCut⟩, ⟨0, 18, alA⟩, ⟨0, 20, ⟨#[48, 48, 58, 48, 48, 58, 48, 49, 58, 48, 48]⟩⟩, ⟨0, 32, ⟨#[48, 48, 58, 48, 48, 58, 48, 50, 58, 48, 48]⟩⟩] := by kernel_rfl
theorem al_e2 : lnE al2 14 = 43 := by kernel_rfl
theorem al_t2 : tkF ⟨alT, 2, [], true⟩ [⟨0, 14, kCut⟩, ⟨0, 18, alA⟩, ⟨0, 20, ⟨#[48, 48, 58, 48, 48, 58, 48, 49, 58, 48, 48]⟩⟩, ⟨0, 32, ⟨#[48, 48, 58, 48, 48, 58, 48, 50, 58, 48, 48]⟩⟩] 43 = (alQ, none) := by kernel_rfl
theorem al_ck : ckF alT 2 [alE] = none := by kernel_rfl
theorem al_run : RunOk ps0 0 (rows al0) alQ := by
  rw [al_rows]
  refine ⟨(fun h => by cases h), ?_, by decide, by decide, by decide, ⟨alT, 2, [], true⟩, by rw [al_w1, al_e1]; exact al_t1, ?_⟩
  · rw [al_w1, al_e1]
    intro x hx
    simp [tkX] at hx
    rcases hx with rfl | rfl | rfl <;> decide
  · have e9 : (0 : Int) + (al1.size : Int) + 1 = 14 := by decide
    rw [e9]
    refine ⟨fun _ => ⟨⟨by decide, by decide⟩, (fun x hx => by cases hx), by decide⟩, ?_, by decide, by decide, by decide, alQ, by rw [al_w2, al_e2]; exact al_t2, rfl⟩
    rw [al_w2, al_e2]
    intro x hx
    simp [tkX] at hx
    rcases hx with rfl | rfl | rfl | rfl <;> decide
theorem al_eq (w : World) : (binOp .eql 34 (.agg #[.string ⟨#[97]⟩, .int .i64 25, .int .i64 50, .int .i64 0, .string ⟨#[]⟩]) (.agg #[.string ⟨#[97]⟩, .int .i64 25, .int .i64 50, .int .i64 0, .string ⟨#[]⟩])).run Tryd.prog w = .ok (.bool true) w := by kernel_rfl
set_option maxHeartbeats 8000000 in
set_option maxRecDepth 1000000 in
theorem alive_any (w : World) (hV : Vs w) (hty : 6 ≤ w.heap.size) : Calls Tryd.prog 4 #[] w fun e w' => e = .returned (.bool true) ∧ Kept [] w w' := by
  have CP := Hid.mk (Parse_ok al0 alQ w (by decide) al_ct al_run rfl hV hty)
  unfold al0 at CP
  have HV := Hid.mk hV
  clear hV hty
  go_enter Tryd.func4, Tryd.ntmps4
  go_wp2_with (fail)
  refine CP.out.mono ?_
  rintro e w1 ⟨a, c, rfl, hr, k1⟩
  have hl := evl_row hr rfl
  have CL := Hid.mk (fun u hu => Length_any alT 2 a c [alE] u (EvL.keep hl hu) (fun x hx => by simp at hx; subst hx; exact ⟨by decide, by decide⟩) ((HV.out.keep k1).keep hu).tb ((HV.out.keep k1).keep hu).ut (by decide) (by decide))
  unfold LgP at CL
  rw [al_ck] at CL
  rcases hl with h0 | ⟨g, o, rfl, hR⟩
  · cases h0
  · obtain ⟨w2, e2⟩ : ∃ w2, w1.alloc (.cells #[.string ⟨#[111, 110, 101]⟩, .int .i64 2, .slice (some ⟨g, o, none⟩) 1 c] 26 (0, 0)) = w2 := ⟨_, rfl⟩
    have k2 : Kept [] w1 w2 := by rw [← e2]; exact alloc_kept _ _
    have b2 := heap_alloc_new w1 (.cells #[.string ⟨#[111, 110, 101]⟩, .int .i64 2, .slice (some ⟨g, o, none⟩) 1 c] 26 (0, 0))
    rw [e2] at b2
    obtain ⟨x0, x1, x2⟩ := cut_cells b2
    have CL2 := Hid.mk (CL.out w2 k2)
    have HR := Hid.mk (hR.keep k2)
    have HB := Hid.mk b2
    have K2 := Hid.mk (k1.trans k2)
    unfold clv alQ alT
    simp only [List.length_cons, List.length_nil, Nat.zero_add]
    unfold clv alT at CL2
    simp only [List.length_cons, List.length_nil, Nat.zero_add, if_true] at CL2
    have hln : lnS [alE] = 25 := by decide
    rw [hln] at CL2
    clear CP CL hr hR k1 k2 b2
    go_wp2_with (fail)
    refine CL2.out.mono ?_
    rintro e w3 ⟨v3, rfl, rfl, k3⟩
    obtain ⟨y0, y1, y2⟩ := cut_cells (k3.heap HB.out (by simp))
    obtain ⟨z0, z1, z2, z3, z4⟩ := (HR.out.keep k3) 0 alE rfl
    unfold alE alA at z0 z1 z2 z3 z4
    simp only [Nat.zero_mul, Nat.add_zero] at z0 z1 z2 z3 z4
    have heq := al_eq w3
    have K3 := Hid.mk (K2.out.trans k3)
    clear x0 x1 x2 k3 CL2 e2
    go_wp2
    go_ret
    exact ⟨rfl, K3.out⟩
end Go.Proofs.YtknkjhfemgiiaaaDoor
