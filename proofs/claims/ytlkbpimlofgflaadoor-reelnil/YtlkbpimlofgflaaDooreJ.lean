import Derived.Test.YtlkbpimlofgflaaDooreG
import Derived.Test.YtlkbpimlofgflaaDooreH
namespace Go.Proofs.YtlkbpimlofgflaaDoor
open Go.RowKit

/-- A reel in its block. -/
def Rl (w : World) (R P : Nat) (s : ByteArray) (r st : Nat) (V : Value) (f : Bool) : Prop := w.heap[R]? = some (.cells #[.pointer (some ⟨P, 0, none⟩), .string s, .int .i64 (r : Int), .int .i64 (st : Int), V, .bool f] 57 (0, 0))
theorem Rl.cells {w : World} {R P : Nat} {s : ByteArray} {r st : Nat} {V : Value} {f : Bool} (h : Rl w R P s r st V f) : w.cell? ⟨R, 0, none⟩ = some (.pointer (some ⟨P, 0, none⟩)) ∧ w.cell? ⟨R, 1, none⟩ = some (.string s) ∧ w.cell? ⟨R, 2, none⟩ = some (.int .i64 (r : Int)) ∧ w.cell? ⟨R, 3, none⟩ = some (.int .i64 (st : Int)) ∧ w.cell? ⟨R, 4, none⟩ = some V ∧ w.cell? ⟨R, 5, none⟩ = some (.bool f) := by
  unfold Rl at h
  refine ⟨?_, ?_, ?_, ?_, ?_, ?_⟩ <;> simp [World.cell?, h]
theorem Rl.kept {w w' : World} {R P : Nat} {s : ByteArray} {r st : Nat} {V : Value} {f : Bool} {ks : List Nat} (h : Rl w R P s r st V f) (hk : Kept ks w w') (hn : R ∉ ks) : Rl w' R P s r st V f := hk.heap h hn

set_option maxHeartbeats 4000000 in
set_option maxRecDepth 1000000 in
theorem end_none (w : World) (R P : Nat) (s : ByteArray) (r st : Nat) (f : Bool) (h : Rl w R P s r st (.slice none 0 0) f) (hs : s.size ≤ 100) (hr : r ≤ 7) (hst : st ≤ 5183999) :
    Calls Tryd.prog 17 #[.pointer (some ⟨R, 0, none⟩)] w fun e w' => e = .returned (.int .i64 ((15 + s.size : Nat) : Int)) ∧ Kept [] w w' := by
  obtain ⟨c0, c1, c2, c3, c4, c5⟩ := h.cells
  clear h
  go_enter Tryd.func17, Tryd.ntmps17
  go_wp2_with (fail)
  refine (label_any w s r st hs hr (by omega)).mono ?_
  rintro e w1 ⟨v, rfl, o1, k1, -⟩
  have K1 := Hid.mk k1
  rw [lbl_len] at o1
  obtain ⟨bo, bc, rfl, -⟩ := row_none o1
  obtain ⟨T, eT⟩ : ∃ T, 15 + s.size = T := ⟨_, rfl⟩
  rw [eT]
  clear o1 k1 c0 c1 c2 c3 c4 c5
  go_wp2
  go_ret
  exact ⟨by rw [eT]; rfl, K1.out⟩

theorem Tryd.info3 : (Tryd.prog.info? 3).map (fun i => (i.zero, i.size, i.bytes)) = some (some (.int .i64 0), 1, 8) := by kernel_rfl
theorem make_none (w : World) : ∃ w', Sem.run Tryd.prog (Instr.makeSlice 46 (.int .i64 0) (.int .i64 0)) w = .ok (.slice (some ⟨w.heap.size, 0, none⟩) 0 0) w' ∧ Kept [] w w' := by
  obtain ⟨j0, gi, gz0, gz1, gz2⟩ := info_parts Tryd.info3
  obtain ⟨w', hrun, r1, r2⟩ := run_make_full (P := Tryd.prog) w 0 46 3 j0 (.int .i64 0) 1 Tryd.underlying46 gi gz0 gz1 .i64 .i64 0 (by rw [gz2]; omega) (by unfold maxLen; omega) (by omega)
  exact ⟨w', hrun, (Kept.of_grown r2).mono (by simp)⟩

set_option maxHeartbeats 4000000 in
set_option maxRecDepth 1000000 in
theorem links_none (w : World) (R P : Nat) (s : ByteArray) (r st : Nat) (f : Bool) (h : Rl w R P s r st (.slice none 0 0) f) :
    Calls Tryd.prog 19 #[.pointer (some ⟨R, 0, none⟩)] w fun e w' => ∃ zo zc, e = .returned (.slice zo 0 zc) ∧ Kept [] w w' := by
  obtain ⟨c0, c1, c2, c3, c4, c5⟩ := h.cells
  obtain ⟨w1, hmk, k1⟩ := make_none w
  obtain ⟨b0, b1, b2, b3, b4, b5⟩ := (h.kept k1 (by simp)).cells
  have K1 := Hid.mk k1
  clear h k1
  go_enter Tryd.func19, Tryd.ntmps19
  go_wp2
  go_loopw [17] (fun i wr => i = .int .i64 0 ∧ wr = w1) (fun _ _ => 0)
  case atStart => exact ⟨rfl, rfl⟩
  case round =>
    obtain ⟨rfl, rfl⟩ := hrel
    go_wp2
    go_ret
    exact ⟨_, _, rfl, K1.out⟩
end Go.Proofs.YtlkbpimlofgflaaDoor
