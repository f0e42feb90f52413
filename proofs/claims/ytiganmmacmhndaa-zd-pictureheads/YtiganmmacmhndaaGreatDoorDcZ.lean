import Derived.Test.YtiganmmacmhndaaGreatDoorSkZ
import Derived.Defers
import Derived.Recover
import Derived.Laws.Pointers
namespace Go.Proofs.YtiganmmacmhndaaGreatDoor
open Go.RowKit

set_option maxHeartbeats 4000000 in
set_option maxRecDepth 1000000 in
theorem newDecoder_any (ao : Option Addr) (cap m : Nat) (l : List Nat) (n P X G W : Nat) (D : Int) (w : World) (hr : Reads w ao l) (hb : Byts l) (hm : l.length = m) (hl : m ≤ 281474976710656) :
    Calls Tryz.prog 64 #[.slice ao m cap, .agg (wc W D P X G n 0 []).toArray] w fun e w' => ∃ B O g, e = .returned (.pointer (some ⟨B, 0, none⟩)) ∧ w'.heap[B]? = some (.cells (wc W D P X G n 0 (dext O)).toArray 126 (0, 0)) ∧ ReaderAt w' O g l 0 ∧ w.heap.size ≤ B ∧ w.heap.size ≤ O ∧ w.heap.size ≤ g ∧ Kept [] w w' := by
  obtain ⟨w1, hw1, k1, b1⟩ := six_new w (wc W D P X G n 0 []) 121
  obtain ⟨Q, hQ⟩ : ∃ Q, w.heap.size = Q := ⟨_, rfl⟩
  rw [hQ] at b1
  obtain ⟨⟨y0, y1, y2, y3, y4, y5⟩, -⟩ := six_cells b1
  have C := Hid.mk (fun W' (hk : Kept [] w1 W') => (newReader_any ao cap m l W' ((hr.keep k1).keep hk) hb hm hl).mono (R' := fun e w' => ∃ O g : Nat, e = .returned (.pointer (some ⟨O, 0, none⟩)) ∧ Hid (W'.heap.size ≤ O ∧ W'.heap.size ≤ g ∧ ReaderAt w' O g l 0 ∧ Kept [] W' w') ∧ w'.cell? ⟨Q, 0, none⟩ = some (.int .i64 (W : Int)) ∧ w'.cell? ⟨Q, 1, none⟩ = some (.int .i64 D) ∧ w'.cell? ⟨Q, 2, none⟩ = some (.pointer (some ⟨P, 0, none⟩)) ∧ w'.cell? ⟨Q, 3, none⟩ = some (.pointer (some ⟨X, 0, none⟩)) ∧ w'.cell? ⟨Q, 4, none⟩ = some (.slice (some ⟨G, 0, none⟩) n n) ∧ w'.cell? ⟨Q, 5, none⟩ = some (.int .i64 0)) (by
    rintro e w' ⟨O, g, rfl, h1, h2, h3, h4⟩
    have hb' := (hk.trans h4).heap b1 (by simp)
    obtain ⟨x, y⟩ := six_cells hb'
    exact ⟨O, g, rfl, Hid.mk ⟨h1, h2, h3, h4⟩, x⟩))
  have K1 := Hid.mk k1
  have hlt := lt_of_block b1
  replace hw1 : w.alloc (.cells #[.int .i64 (W : Int), .int .i64 D, .pointer (some ⟨P, 0, none⟩), .pointer (some ⟨X, 0, none⟩), .slice (some ⟨G, 0, none⟩) n n, .int .i64 0] 121 (0, 0)) = w1 := hw1
  clear b1 k1 hr
  go_enter Tryz.func64, Tryz.ntmps64
  go_wp2
  go_region_with (first | (go_at_call 89; refine (C.out _ (by with_reducible exact (Kept.refl _ _).drew)).mono ?_; rintro e w2 ⟨O, g, rfl, R2, t0, t1, t2, t3, t4, t5⟩))
  all_goals
    clear C t0 t1 t2 t3 t4 t5 y0 y1 y2 y3 y4 y5
    go_wp2
    go_ret
    obtain ⟨e1, e2, hX, k2⟩ := R2.out
    have hsz := K1.out.size
    have k3 := alloc_kept w2 (.cells (wc W D P X G n 0 (dext O)).toArray 126)
    refine ⟨w2.heap.size, O, g, rfl, heap_alloc_new w2 (.cells (wc W D P X G n 0 (dext O)).toArray 126), reader_kept hX k3 (by simp) (by simp), (K1.out.trans k2.undrew).size, Nat.le_trans hsz e1, Nat.le_trans hsz e2, (K1.out.trans k2.undrew).trans k3⟩

set_option maxHeartbeats 4000000 in
set_option maxRecDepth 1000000 in
/-- The end of what is read: filling alone. -/
theorem dend_ok (w0 : World) (B P X G O g : Nat) (T d D : Int) (W n : Nat) (l : List Nat) (w : World) (s : Wk) (t : Nat) (h : Dm w0 B P X G O g T d D W n l w s t) (h1 : 8 * l.length - t < 8) (h2 : t ≤ 8 * l.length) (hz : nextN l t (8 * l.length - t) = 0) :
    Calls Tryz.prog 98 #[.pointer (some ⟨B, 0, none⟩)] w fun e w' => e = .returned (.tuple #[]) ∧ Dm w0 B P X G O g T d D W n l w' s (8 * l.length) ∧ Kept [O] w w' := by
  have c6 := dext_cell h.wm
  obtain ⟨r, hr⟩ : ∃ r : Nat, 8 * l.length - t = r := ⟨_, rfl⟩
  rw [hr] at h1 hz
  have hrI : 8 * (l.length : Int) - (t : Int) = (r : Int) := by omega
  have hr8 : (r : Int).tmod 8 = (r : Int) := by rw [Int.tmod_eq_emod_of_nonneg (by omega)]; omega
  have C1 := Hid.mk (fun W' (hk : Kept [] w W') => left_any O g l t W' (h.kp hk).rd)
  rw [hrI] at C1
  have C2 := Hid.mk (fun W' (hk : Kept [] w W') => (get_any O g l t (r : Int) W' (h.kp hk).rd (by omega) (by omega) (by omega)).mono (R' := fun e w' => e = .returned (.tuple #[.int .u32 0, .int .i64 0]) ∧ Hid (Dm w0 B P X G O g T d D W n l w' s (8 * l.length) ∧ Kept [O] w w') ∧ w'.cell? ⟨B, 6, none⟩ = some (.pointer (some ⟨O, 0, none⟩))) (by
    rintro e w' ⟨rfl, hrd, hkk⟩
    have h3 := h.kp hk
    obtain ⟨cs, hr', hl', hc⟩ := h3.wm.row
    obtain ⟨ps, hp, _⟩ := h3.wm.md.blk
    have o1 := ne_ty h3.rd.1 h3.wm.blk (by decide)
    have o2 := ne_ty h3.rd.1 hr' (by decide)
    have o3 := ne_ty h3.rd.1 hp (by decide)
    have o4 := ne_ty h3.rd.1 h3.wm.co.1 (by decide)
    have hlo := h3.lo
    have hm' : Wm w' B P X G 126 T d D W n (dext O) s := h3.wm.keep hkk (by simp; omega)
    rw [Int.toNat_natCast, hz]
    rw [Int.toNat_natCast, show t + r = 8 * l.length by omega] at hrd
    exact ⟨rfl, Hid.mk ⟨⟨hm', hrd, h3.keep.step hkk (fun y hy => by right; simp at hy; omega), h3.tab, h3.lo⟩, (hk.mono (by simp)).trans hkk⟩, dext_cell hm'⟩))
  have C3 := Hid.mk (fun W' (hm : Hid (Dm w0 B P X G O g T d D W n l W' s (8 * l.length) ∧ Kept [O] w W')) => left_any O g l (8 * l.length) W' hm.out.1.rd)
  have e0 : 8 * (l.length : Int) - ((8 * l.length : Nat) : Int) = 0 := by omega
  rw [e0] at C3
  clear h hz hrI e0 h2 hr
  go_enter Tryz.func98, Tryz.ntmps98
  go_wp2
  go_region_held_law (fun w' => w'.cell? ⟨B, 6, none⟩ = some (.pointer (some ⟨O, 0, none⟩))) (first | exact c6 | exact t6 | go_keep) (first | (go_at_call 110; refine (C1.out _ (by with_reducible exact (Kept.refl _ _).drew)).mono ?_; rintro e w1 ⟨rfl, q1, rfl⟩) | (go_at_call 93; refine (C2.out _ (by with_reducible exact (Kept.refl _ _).drewN _)).mono ?_; rintro e w2 ⟨rfl, R2, t6⟩) | (go_at_call 92; refine (takenU_ok _ _).mono ?_; rintro e w3 ⟨rfl, hw3⟩; obtain rfl := hw3.symm))
  all_goals
    clear C1 C2
    go_wp2_with (go_at_call 110; refine (C3.out _ R2).mono ?_; rintro e w4 ⟨rfl, q4, rfl⟩)
    go_end0
    exact ⟨rfl, R2.out.1.kp ((Kept.refl _ _).drewN _), R2.out.2.drewN _⟩
end Go.Proofs.YtiganmmacmhndaaGreatDoor

namespace Go.Proofs.YtiganmmacmhndaaGreatDoor
open Go.RowKit

set_option maxRecDepth 100000 in
theorem catch_idle (p : Addr) (w : World) :
    CallsD Tryz.prog 91 #[.pointer (some p)] .returning w fun e u' w' => e = .returned (.tuple #[]) ∧ u' = .returning ∧ w' = w := by
  have hnil : ∀ w : World, (binOp BinOp.neq 20 .nilIface .nilIface).run Tryz.prog w = .ok (.bool false) w := fun _ => by kernel_rfl
  refine callsD_of_wpS Tryz.func91 rfl fun c₀ cs hu => ?_
  apply wpS_seq
  apply wpS_region
  simp [wpOpsS, go_sem, recoverD, hu, Tryz.ntmps91, Exit.thenS]
  apply wpS_seq
  apply wpS_region
  simp [wpOpsS, go_sem, hnil, Exit.thenS]
  refine wpS_cond (t := false) (by simp [Act.eval, Array.replicate]) ?_
  simp only [Bool.false_eq_true, if_false]
  refine wpS_of_wp (wp_skip ?_)
  cases c₀
  simp_all [bodyPostS, results, Tryz.results91]
set_option maxHeartbeats 4000000 in
set_option maxRecDepth 1000000 in
/-- What was coded is read. -/
theorem read_coded (w0 : World) (B P X G O g : Nat) (T d D : Int) (W H n : Nat) (l : List Nat) (f : Nat → Int) (w : World) (hG : Gd T d) (hD : Dp D T) (hn : n ≤ 4194304) (hW : 1 ≤ W) (hW2 : W ≤ 4096) (hWH : n = W * H) (hf : ∀ i, 0 ≤ f i ∧ f i ≤ T) (J : Nat) (hE : Enc T d W n f J) (hl : Holds l (wrt T d W (cE T d W f) (wk0 T d) J))
    (h1 : 8 * l.length - (wrt T d W (cE T d W f) (wk0 T d) J).2 < 8) (hz : nextN l (wrt T d W (cE T d W f) (wk0 T d) J).2 (8 * l.length - (wrt T d W (cE T d W f) (wk0 T d) J).2) = 0)
    (h : Dm w0 B P X G O g T d D W n l w (wk0 T d) 0) :
    Calls Tryz.prog 66 #[.pointer (some ⟨B, 0, none⟩)] w fun e w' => e = .returned (.int .i64 0) ∧ Dm w0 B P X G O g T d D W n l w' (stp T d W (cE T d W f) (wk0 T d) J) (8 * l.length) := by
  have hmf : ∀ (fn : Fn) (first cap : Array Value) (w : World), (Instr.makeFunc fn first cap).run Tryz.prog w = .ok (.func fn first cap) w := fun _ _ _ _ => rfl
  have hb0 : Holds l (1, 8) := holds_wrt hG hW hf 0 J (by rw [Nat.zero_add]; exact hl)
  obtain ⟨w1, hw1, k1⟩ : ∃ w1, w.alloc (.cells #[.int .i64 0] 31 (0, 0)) = w1 ∧ Kept [] w w1 := ⟨_, rfl, alloc_kept _ _⟩
  have b1 : w1.heap[w.heap.size]? = some (.cells #[.int .i64 0] 31 (0, 0)) := by rw [← hw1]; exact heap_alloc_new _ _
  obtain ⟨Q, hQ⟩ : ∃ Q, w.heap.size = Q := ⟨_, rfl⟩
  rw [hQ] at b1
  have H1 := h.kp k1
  have c6 := dext_cell H1.wm
  have C1 := Hid.mk ((get_any O g l 0 8 w1 H1.rd (by omega) (by omega) (by have := hb0.1; simp at this; omega)).mono (R' := fun e w' => e = .returned (.tuple #[.int .u32 1, .int .i64 0]) ∧ Hid (Dm w0 B P X G O g T d D W n l w' (wk0 T d) 8 ∧ w'.heap[Q]? = some (.cells #[.int .i64 0] 31 (0, 0)))) (by
    rintro e w' ⟨rfl, hrd, hkk⟩
    obtain ⟨cs, hr', hl', hc⟩ := H1.wm.row
    obtain ⟨ps, hp, _⟩ := H1.wm.md.blk
    have o1 := ne_ty H1.rd.1 H1.wm.blk (by decide)
    have o2 := ne_ty H1.rd.1 hr' (by decide)
    have o3 := ne_ty H1.rd.1 hp (by decide)
    have o4 := ne_ty H1.rd.1 H1.wm.co.1 (by decide)
    have o5 := ne_ty H1.rd.1 b1 (by decide)
    have hlo := H1.lo
    have e8 : nextN l 0 (Int.toNat 8) = 1 := hb0.2
    have hm' : Wm w' B P X G 126 T d D W n (dext O) (wk0 T d) := H1.wm.keep hkk (by simp; omega)
    rw [e8]
    exact ⟨rfl, Hid.mk ⟨⟨hm', hrd, H1.keep.step hkk (fun y hy => by right; simp at hy; omega), H1.tab, H1.lo⟩, hkk.heap b1 (by simp; omega)⟩⟩))
  have hQl : w0.heap.size ≤ Q := by rw [← hQ]; exact h.keep.size
  clear h H1 k1 b1 hb0
  go_enter_defers Tryz.func66, Tryz.ntmps66
  go_wp2_with (first | (go_at_call 93; refine C1.out.mono ?_; rintro e w2 ⟨rfl, R2⟩) | (go_at_call 92; refine (takenU_ok _ _).mono ?_; rintro e w3 ⟨rfl, hw3⟩; obtain rfl := hw3.symm))
  refine (through38 B P X G 126 T d D W H n (dext O) (cdr T d W f) (fun w s x => Dm w0 B P X G O g T d D W n l w s x.2 ∧ Kept [B, P, X, G, O] w2 w) (fun _ _ => False) hD hG hn hW hW2 hWH (wk0 T d) (1, 8) (dhnd w0 w2 B P X G O g T d D W H n l f hG hW hW2 hWH hf J hE hl) w2 ⟨R2.out.1, Kept.refl _ _⟩ (wk0_in hG) (by show 0 ≤ n; omega)).mono ?_
  rintro e w3 (⟨rfl, s3, x3, hR, ht, -, h3, k3⟩ | ⟨pc, s3, x3, -, -, -, -, hF⟩)
  · obtain ⟨j, hs3, hx3, hj⟩ := rch_cdr hR
    have hjJ : j = J := by
      rcases Nat.lt_trichotomy j J with h | h | h
      · have := hE.all j h; rw [← hs3] at this; omega
      · exact h
      · have := hj J h; have := hE.fin; omega
    subst hjJ
    rw [← hx3] at h1 hz
    have HS := Hid.mk hs3
    clear hs3 hx3
    have b3 : w3.heap[Q]? = some (.cells #[.int .i64 0] 31 (0, 0)) := by
      have h2 := R2.out.1
      have b2 := R2.out.2
      obtain ⟨cs, hr', hl', hc⟩ := h2.wm.row
      obtain ⟨ps, hp, _⟩ := h2.wm.md.blk
      have o1 := ne_ty b2 h2.wm.blk (by decide)
      have o2 := ne_ty b2 hr' (by decide)
      have o3 := ne_ty b2 hp (by decide)
      have o4 := ne_ty b2 h2.wm.co.1 (by decide)
      have o5 := ne_ty b2 h2.rd.1 (by decide)
      exact k3.heap b2 (by simp; omega)
    have C4 := Hid.mk ((dend_ok w0 B P X G O g T d D W n l w3 s3 x3.2 h3 h1 h3.rd.2.2.2.1 hz).mono (R' := fun e w' => e = .returned (.tuple #[]) ∧ Hid (Dm w0 B P X G O g T d D W n l w' s3 (8 * l.length) ∧ w'.heap[Q]? = some (.cells #[.int .i64 0] 31 (0, 0))) ∧ w'.cell? ⟨Q, 0, none⟩ = some (.int .i64 0) ∧ w'.frozen? ⟨Q, 0, none⟩ = false) (by
      rintro e w' ⟨rfl, h4, k4⟩
      have o5 := ne_ty b3 h3.rd.1 (by decide)
      have b4 := k4.heap b3 (by simp; omega)
      obtain ⟨x, y⟩ := cells_one b4
      exact ⟨rfl, Hid.mk ⟨h4, b4⟩, x, y⟩))
    clear h3 k3 b3 hR hj hz h1 hl R2 C1
    go_wp2_with (first | (go_at_call 98; refine C4.out.mono ?_; rintro e w4 ⟨rfl, R4, z0, zf⟩))
    refine leaves_cons (f := 91) (args := #[.pointer (some ⟨Q, 0, none⟩)]) (by simp) (by simp [go_sem]) ?_
    refine (catch_idle ⟨Q, 0, none⟩ _).mono ?_
    rintro e u' w'' ⟨rfl, rfl, rfl⟩
    have h5 : Dm w0 B P X G O g T d D W n l (w4.setCell ⟨Q, 0, none⟩ (.int .i64 0)) s3 (8 * l.length) := by
      have h2 := R4.out.1
      have b2 := R4.out.2
      obtain ⟨cs, hr', hl', hc⟩ := h2.wm.row
      obtain ⟨ps, hp, _⟩ := h2.wm.md.blk
      have o1 := ne_ty h2.wm.blk b2 (by decide)
      have o2 := ne_ty hr' b2 (by decide)
      have o3 := ne_ty hp b2 (by decide)
      have o4 := ne_ty h2.wm.co.1 b2 (by decide)
      have o5 := ne_ty h2.rd.1 b2 (by decide)
      have o6 := ne_ty h2.rd.2.1 b2 (by decide)
      have k5 : Kept [Q] w4 (w4.setCell ⟨Q, 0, none⟩ (.int .i64 0)) := (Kept.refl _ _).setCell (by simp) _
      exact ⟨h2.wm.keep k5 (by simp; omega), reader_kept h2.rd k5 (by simp; omega) (by simp; omega), h2.keep.step k5 (by simp; omega), h2.tab, h2.lo⟩
    rw [HS.out] at h5
    simp [Leaves, settle, results, Tryz.results66, go_sem, z0]
    exact h5
  · exact hF.elim
end Go.Proofs.YtiganmmacmhndaaGreatDoor

namespace Go.Proofs.YtiganmmacmhndaaGreatDoor
open Go.RowKit

set_option maxHeartbeats 2000000 in
set_option maxRecDepth 100000 in
theorem Encode_coded (W H n sb so sc : Nat) (D T d : Int) (f : Nat → Int) (w : World) (hs : Smp w sb so n f) (hT : Tab w) (hz : szd (W : Int) (H : Int) = true) (hn : n = W * H) (hD : Dp D T) (d0 : 0 ≤ d) (d1 : d ≤ 63) (hf : ∀ i, 0 ≤ f i ∧ f i ≤ T)
    (hc : ∀ j, Enc T d W n f j → (nby (xw T d W f j) : Int) < (rsz W H D).1) :
    Calls Tryz.prog 103 #[.agg #[.int .i64 (W : Int), .int .i64 (H : Int), .slice (some ⟨sb, so, none⟩) n sc], .int .i64 D, .int .i64 d] w fun e w' => ∃ j g, Enc T d W n f j ∧ e = .returned (.tuple #[.slice (some ⟨g, 0, none⟩) (nby (xw T d W f j)) (nby (xw T d W f j)), .int .i64 0]) ∧ w.heap.size ≤ g ∧ w'.heap[g]? = some (.cells ((byts (xw T d W f j)).map byt).toArray 5 (0, 0)) ∧ Kept [] w w' := by
  obtain ⟨w1, hw1, k1, b1⟩ := three_new w (.int .i64 (W : Int)) (.int .i64 (H : Int)) (.slice (some ⟨sb, so, none⟩) n sc) 53
  obtain ⟨Q, hQ⟩ : ∃ Q, w.heap.size = Q := ⟨_, rfl⟩
  have hsz := k1.size
  rw [hQ] at b1
  obtain ⟨z0, z1, z2⟩ := agg3' b1
  have C := Hid.mk (encode_mid W H n sb so sc D T d f w1 (hs.keep k1 (by simp)) (hT.kept k1 (by simp)) hz hn hD d0 d1 hf hc)
  have K1 := Hid.mk k1
  have HQ := Hid.mk hQ
  clear hs hT hz hn hD hf hc b1 k1
  go_enter Tryz.func103, Tryz.ntmps103
  go_wp2_with (fail)
  refine C.out.mono ?_
  rintro e w2 ⟨j, g, G, hE, rfl, hg, -, hb, -, k2⟩
  have HE := Hid.mk hE
  have HB := Hid.mk hb
  have K2 := Hid.mk k2
  have Hg := Hid.mk hg
  clear hE hb k2 C hg
  obtain ⟨L, hL⟩ : ∃ L, nby (xw T d W f j) = L := ⟨_, rfl⟩
  have HL := Hid.mk hL
  rw [hL]
  clear hL
  go_wp2
  go_ret2
  exact ⟨j, g, HE.out, by rw [HL.out]; rfl, by have := Hg.out; have := HQ.out; omega, HB.out, K1.out.trans K2.out⟩


set_option maxHeartbeats 8000000 in
set_option maxRecDepth 1000000 in
theorem Decode_coded (W H n : Nat) (ao : Option Addr) (cap m : Nat) (l : List Nat) (D T d : Int) (f : Nat → Int) (w : World) (hr : Reads w ao l) (hby : Byts l) (hm : l.length = m) (hl : m ≤ 281474976710656) (hT : Tab w) (hz : szd (W : Int) (H : Int) = true) (hn : n = W * H) (hD : Dp D T) (d0 : 0 ≤ d) (d1 : d ≤ 63) (hf : ∀ i, 0 ≤ f i ∧ f i ≤ T)
    (J : Nat) (hE : Enc T d W n f J) (hh : Holds l (xw T d W f J)) (h1 : 8 * l.length - (xw T d W f J).2 < 8) (hzz : nextN l (xw T d W f J).2 (8 * l.length - (xw T d W f J).2) = 0) :
    Calls Tryz.prog 33 #[.slice ao m cap, .int .i64 (W : Int), .int .i64 (H : Int), .int .i64 D, .int .i64 d] w fun e w' => ∃ G, e = .returned (.tuple #[.agg #[.int .i64 (W : Int), .int .i64 (H : Int), .slice (some ⟨G, 0, none⟩) n n], .int .i64 0]) ∧ w.heap.size ≤ G ∧ Smp w' G 0 n (sw T d W f J).b ∧ Kept [] w w' := by
  have hb := szd_in hz
  have hcst : (W : Int) * H = (n : Int) := by rw [hn]; simp
  rw [hcst] at hb
  have hG := hD.gd d0 d1
  have HN := Hid.mk hn
  have Hf := Hid.mk hf
  obtain ⟨w1, hw1, k1, b1⟩ := three_new w (.int .i64 0) (.int .i64 0) (.slice none 0 0) 53
  obtain ⟨Q, hQ⟩ : ∃ Q, w.heap.size = Q := ⟨_, rfl⟩
  rw [hQ] at b1
  have HQ := Hid.mk hQ
  have C1 := Hid.mk (newm_any D T d hD w1 d0 d1)
  have C2 := Hid.mk (fun W' => sized_any (W : Int) (H : Int) W')
  rw [hz] at C2
  have HT := Hid.mk hT
  have HRd := Hid.mk (hr.keep k1)
  have K1 := Hid.mk k1
  have B1 := Hid.mk b1
  have HD := Hid.mk hD
  have Hh := Hid.mk (And.intro hh (And.intro h1 hzz))
  have HE := Hid.mk hE
  clear hn hf hT hr k1 b1 hz hcst hD hh h1 hzz hE
  go_enter Tryz.func33, Tryz.ntmps33
  go_wp2_with (fail)
  refine C1.out.mono ?_
  rintro e w2 ⟨P, rfl, m2, hP, k2⟩
  have K2 := Hid.mk k2
  have M2 := Hid.mk m2
  have HP := Hid.mk hP
  clear k2 m2 hP C1
  go_wp2_with (fail)
  refine (C2.out _).mono ?_
  rintro e w3 ⟨rfl, hw3⟩
  obtain rfl := hw3.symm
  clear hw3 C2
  go_wp2_with (fail)
  refine (newWalk_any P W H n D w2 (by omega) (by omega) HN.out.symm).mono ?_
  rintro e w4 ⟨X, G, rfl, a1, a2, a3, a4, k4⟩
  have R4 := Hid.mk (And.intro a1 (And.intro a2 (And.intro (Nat.le_trans K2.out.size a3) (And.intro (Nat.le_trans K2.out.size a4) k4))))
  clear a1 a2 a3 a4 k4
  go_wp2_with (fail)
  refine (newDecoder_any ao cap m l n P X G W D w4 ((HRd.out.keep K2.out).keep R4.out.2.2.2.2) hby hm hl).mono ?_
  rintro e w5 ⟨B, O, g, rfl, b1, b2, b3, b4, b5, b6⟩
  obtain ⟨a1, a2, a3, a4, k4⟩ := R4.out
  have hs4 : w1.heap.size ≤ w4.heap.size := (K2.out.trans k4).size
  have h5 : Dm w1 B P X G O g T d D W n l w5 (wk0 T d) 0 := by
    refine ⟨⟨b1, M2.out.keep (k4.trans b6) (by simp), a1.kept b6 (by simp), ⟨_, b6.heap a2 (by simp), by simp, fun i hi => ?_⟩, .inr rfl⟩, b2, K2.out.trans (k4.trans b6), HT.out.kept K1.out (by simp), by omega, HP.out, a3, a4, by omega, by omega⟩
    have : i < 0 := hi
    omega
  have C5 := Hid.mk (read_coded w1 B P X G O g T d D W H n l f w5 hG HD.out (by omega) (by omega) (by omega) HN.out Hf.out J HE.out Hh.out.1 Hh.out.2.1 Hh.out.2.2 h5)
  clear b1 b2 b3 b4 b5 b6 h5 a1 a2 a3 a4 k4 hs4
  go_wp2_with (fail)
  refine C5.out.mono ?_
  rintro e w6 ⟨rfl, h6⟩
  have c4 := h6.wm.fact.c4
  have B6 := Hid.mk (h6.keep.heap B1.out (by simp))
  obtain ⟨z0, z1, z2, zf⟩ := cells_three B6.out
  have zf0 := zf 0
  have zf1 := zf 1
  have zf2 := zf 2
  have H6 := Hid.mk h6
  clear h6 zf C5
  go_wp2
  have k7 : Kept [Q] w6 (((w6.setCell ⟨Q, 0, none⟩ (.int .i64 (W : Int))).setCell ⟨Q, 1, none⟩ (.int .i64 (H : Int))).setCell ⟨Q, 2, none⟩ (.slice (some ⟨G, 0, none⟩) n n)) :=
    (((Kept.refl [Q] w6).setCell (p := ⟨Q, 0, none⟩) (by simp) _).setCell (p := ⟨Q, 1, none⟩) (by simp) _).setCell (p := ⟨Q, 2, none⟩) (by simp) _
  have hlo := H6.out.lo
  have hs1 := K1.out.size
  have hQs := HQ.out
  have hsm : Smp w6 G 0 n (sw T d W f J).b := fun i hi => by
    rw [Nat.zero_add]
    exact H6.out.wm.cel i (by rw [HE.out.fin]; exact hi)
  have hQG : Q < w1.heap.size := lt_of_block B1.out
  refine bodyPost_ret (v := .tuple #[.agg #[.int .i64 (W : Int), .int .i64 (H : Int), .slice (some ⟨G, 0, none⟩) n n], .int .i64 0]) (by simp [results, Tryz.results33, go_sem, z0, z1, z2]) rfl ⟨G, rfl, by omega, hsm.keep k7 (by simp; omega), (K1.out.trans H6.out.keep).step k7 (by simp; omega)⟩
end Go.Proofs.YtiganmmacmhndaaGreatDoor
