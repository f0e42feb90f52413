import Derived.Test.YtahoeodpjdbdkabDoorDb
import Derived.Defers
namespace Go.Proofs.YtahoeodpjdbdkabDoor
open Go.RowKit

set_option maxHeartbeats 4000000 in
set_option maxRecDepth 1000000 in
theorem newDecoder_any (ao : Option Addr) (cap m : Nat) (l : List Nat) (n P X G W : Nat) (D : Int) (w : World) (hr : Reads w ao l) (hb : Byts l) (hm : l.length = m) (hl : m ≤ 281474976710656) :
    Calls Tryd.prog 18 #[.slice ao m cap, .agg (wc W D P X G n 0 []).toArray] w fun e w' => ∃ B O g, e = .returned (.pointer (some ⟨B, 0, none⟩)) ∧ w'.heap[B]? = some (.cells (wc W D P X G n 0 (dext O)).toArray 61 (0, 0)) ∧ ReaderAt w' O g l 0 ∧ w.heap.size ≤ B ∧ w.heap.size ≤ O ∧ w.heap.size ≤ g ∧ Kept [] w w' := by
  obtain ⟨w1, hw1, k1, b1⟩ := six_new w (wc W D P X G n 0 []) 56
  obtain ⟨Q, hQ⟩ : ∃ Q, w.heap.size = Q := ⟨_, rfl⟩
  rw [hQ] at b1
  obtain ⟨⟨y0, y1, y2, y3, y4, y5⟩, -⟩ := six_cells b1
  have C := Hid.mk (fun W' (hk : Kept [] w1 W') => (newReader_any ao cap m l W' ((hr.keep k1).keep hk) hb hm hl).mono (R' := fun e w' => ∃ O g : Nat, e = .returned (.pointer (some ⟨O, 0, none⟩)) ∧ Hid (W'.heap.size ≤ O ∧ W'.heap.size ≤ g ∧ ReaderAt w' O g l 0 ∧ Kept [] W' w') ∧ w'.cell? ⟨Q, 0, none⟩ = some (.int .i64 (W : Int)) ∧ w'.cell? ⟨Q, 1, none⟩ = some (.int .i64 D) ∧ w'.cell? ⟨Q, 2, none⟩ = some (.pointer (some ⟨P, 0, none⟩)) ∧ w'.cell? ⟨Q, 3, none⟩ = some (.pointer (some ⟨X, 0, none⟩)) ∧ w'.cell? ⟨Q, 4, none⟩ = some (.slice (some ⟨G, 0, none⟩) n n) ∧ w'.cell? ⟨Q, 5, none⟩ = some (.int .i64 0)) (by
    rintro e w' ⟨O, g, rfl, h1, h2, h3, h4⟩
    have hb' := (hk.trans h4).heap b1 (by simp)
    obtain ⟨x, y⟩ := six_cells hb'
    exact ⟨O, g, rfl, Hid.mk ⟨h1, h2, h3, h4⟩, x⟩))
  have K1 := Hid.mk k1
  have hlt := lt_of_block b1
  replace hw1 : w.alloc (.cells #[.int .i64 (W : Int), .int .i64 D, .pointer (some ⟨P, 0, none⟩), .pointer (some ⟨X, 0, none⟩), .slice (some ⟨G, 0, none⟩) n n, .int .i64 0] 56 (0, 0)) = w1 := hw1
  clear b1 k1 hr
  go_enter Tryd.func18, Tryd.ntmps18
  go_wp2
  go_region_with (first | (go_at_call 30; refine (C.out _ (by with_reducible exact (Kept.refl _ _).drew)).mono ?_; rintro e w2 ⟨O, g, rfl, R2, t0, t1, t2, t3, t4, t5⟩))
  all_goals
    clear C t0 t1 t2 t3 t4 t5 y0 y1 y2 y3 y4 y5
    go_wp2
    go_ret
    obtain ⟨e1, e2, hX, k2⟩ := R2.out
    have hsz := K1.out.size
    have k3 := alloc_kept w2 (.cells (wc W D P X G n 0 (dext O)).toArray 61)
    refine ⟨w2.heap.size, O, g, rfl, heap_alloc_new w2 (.cells (wc W D P X G n 0 (dext O)).toArray 61), reader_kept hX k3 (by simp) (by simp), (K1.out.trans k2.undrew).size, Nat.le_trans hsz e1, Nat.le_trans hsz e2, (K1.out.trans k2.undrew).trans k3⟩

set_option maxHeartbeats 4000000 in
set_option maxRecDepth 1000000 in
/-- The end of what is read: filling alone. -/
theorem dend_ok (w0 : World) (B P X G O g : Nat) (T d D : Int) (W n : Nat) (l : List Nat) (w : World) (s : Wk) (t : Nat) (h : Dm w0 B P X G O g T d D W n l w s t) (h1 : 8 * l.length - t < 8) (h2 : t ≤ 8 * l.length) (hz : nextN l t (8 * l.length - t) = 0) :
    Calls Tryd.prog 39 #[.pointer (some ⟨B, 0, none⟩)] w fun e w' => e = .returned (.tuple #[]) ∧ Dm w0 B P X G O g T d D W n l w' s (8 * l.length) ∧ Kept [O] w w' := by
  have c6 := dext_cell h.wm
  obtain ⟨r, hr⟩ : ∃ r : Nat, 8 * l.length - t = r := ⟨_, rfl⟩
  rw [hr] at h1 hz
  have hrI : 8 * (l.length : Int) - (t : Int) = (r : Int) := by omega
  have hr8 : (r : Int).tmod 8 = (r : Int) := by rw [Int.tmod_eq_emod_of_nonneg (by omega)]; omega
  have C1 := Hid.mk (fun W' (hk : Kept [] w W') => left_any O g l t W' (h.kp hk).rd)
  rw [hrI] at C1
  have C2 := Hid.mk (fun W' (hk : Kept [] w W') => (get_any O g l t (r : Int) W' (h.kp hk).rd (by omega) (by omega) (by omega)).mono (R' := fun e w' => e = .returned (.tuple #[.int .u32 0, .int .i64 0]) ∧ Hid (Dm w0 B P X G O g T d D W n l w' s (8 * l.length) ∧ Kept [O] w w') ∧ w'.cell? ⟨B, 6, none⟩ = some (.pointer (some ⟨O, 0, none⟩))) (by
    rintro e w' ⟨rfl, hrd, hkk⟩
    have h3 := h.kp hk
    obtain ⟨cs, hr', hl', hc⟩ := h3.wm.row
    obtain ⟨ps, hp, _⟩ := h3.wm.md.blk
    have o1 := ne_ty h3.rd.1 h3.wm.blk (by decide)
    have o2 := ne_ty h3.rd.1 hr' (by decide)
    have o3 := ne_ty h3.rd.1 hp (by decide)
    have o4 := ne_ty h3.rd.1 h3.wm.co.1 (by decide)
    have hlo := h3.lo
    have hm' : Wm w' B P X G 61 T d D W n (dext O) s := h3.wm.keep hkk (by simp; omega)
    rw [Int.toNat_natCast, hz]
    rw [Int.toNat_natCast, show t + r = 8 * l.length by omega] at hrd
    exact ⟨rfl, Hid.mk ⟨⟨hm', hrd, h3.keep.step hkk (fun y hy => by right; simp at hy; omega), h3.tab, h3.lo⟩, (hk.mono (by simp)).trans hkk⟩, dext_cell hm'⟩))
  have C3 := Hid.mk (fun W' (hm : Hid (Dm w0 B P X G O g T d D W n l W' s (8 * l.length) ∧ Kept [O] w W')) => left_any O g l (8 * l.length) W' hm.out.1.rd)
  have e0 : 8 * (l.length : Int) - ((8 * l.length : Nat) : Int) = 0 := by omega
  rw [e0] at C3
  clear h hz hrI e0 h2 hr
  go_enter Tryd.func39, Tryd.ntmps39
  go_wp2
  go_region_held_law (fun w' => w'.cell? ⟨B, 6, none⟩ = some (.pointer (some ⟨O, 0, none⟩))) (first | exact c6 | exact t6 | go_keep) (first | (go_at_call 46; refine (C1.out _ (by with_reducible exact (Kept.refl _ _).drew)).mono ?_; rintro e w1 ⟨rfl, q1, rfl⟩) | (go_at_call 34; refine (C2.out _ (by with_reducible exact (Kept.refl _ _).drewN _)).mono ?_; rintro e w2 ⟨rfl, R2, t6⟩) | (go_at_call 33; refine (takenU_ok _ _).mono ?_; rintro e w3 ⟨rfl, hw3⟩; obtain rfl := hw3.symm))
  all_goals
    clear C1 C2
    go_wp2_with (go_at_call 46; refine (C3.out _ R2).mono ?_; rintro e w4 ⟨rfl, q4, rfl⟩)
    go_end0
    exact ⟨rfl, R2.out.1.kp ((Kept.refl _ _).drewN _), R2.out.2.drewN _⟩
end Go.Proofs.YtahoeodpjdbdkabDoor
