import Derived.Test.YtahoeodpjdbdkabDoorFaZ
namespace Go.Proofs.YtahoeodpjdbdkabDoor
open Go.RowKit

theorem Wm.congr {w : World} {B P X G ty : Nat} {T d D : Int} {W n : Nat} {ext : List Value} {s : Wk} (h : Wm w B P X G ty T d D W n ext s) (b' : Nat → Int) (hb : ∀ i, i < s.t → b' i = s.b i) : Wm w B P X G ty T d D W n ext ⟨s.L, s.r, b', s.t⟩ := by
  obtain ⟨cs, hr, hl, hc⟩ := h.row
  exact ⟨h.blk, h.md, h.co, ⟨cs, hr, hl, fun i hi => by rw [hc i hi, ← hb i hi]⟩, h.ty⟩

theorem holds_rwb {l : List Nat} {D : Nat} {f : Nat → Int} (hf : ∀ i, (f i).toNat < 2 ^ D) (k m : Nat) (h : Holds l (rwb D f (k + m))) : Holds l (rwb D f k) := by
  induction m with
  | zero => exact h
  | succ m ih => exact ih (holds_ap h (hf _)).1

/-- Behind k raw samples. -/
abbrev rwk (T d : Int) (f : Nat → Int) (k : Nat) : Wk := ⟨fun _ => sx0 T d, 0, f, k⟩

set_option maxHeartbeats 8000000 in
set_option maxRecDepth 1000000 in
theorem samples_ok (w0 : World) (B P X G O g : Nat) (T d D : Int) (W n : Nat) (l : List Nat) (f : Nat → Int) (w : World) (hD : Dp D T) (hn : n ≤ 4194304) (hf : ∀ i, 0 ≤ f i ∧ f i ≤ T) (hh : Holds l (rwb D.toNat f n)) (h : Dm w0 B P X G O g T d D W n l w (rwk T d f 0) 8) :
    Calls Tryd.prog 35 #[.pointer (some ⟨B, 0, none⟩)] w fun e w' => e = .returned (.tuple #[]) ∧ Dm w0 B P X G O g T d D W n l w' (rwk T d f n) (8 + D.toNat * n) ∧ Kept [B, P, X, G, O] w w' := by
  have c4 := h.wm.fact.c4
  have hd := hD.mid
  have hT : T ≤ 4095 := by rcases hD with ⟨_, h⟩ | ⟨_, h⟩ <;> omega
  have HH := Hid.mk hh
  have Hf := Hid.mk hf
  have HD := Hid.mk hD
  have H0 := Hid.mk h
  clear hf hD hh h
  go_enter Tryd.func35, Tryd.ntmps35
  go_wp2
  go_loopw [8] (fun i wr => ∃ k : Nat, k ≤ n ∧ i = .int .i64 (k : Int) ∧ Dm w0 B P X G O g T d D W n l wr (rwk T d f k) (8 + D.toNat * k) ∧ Kept [B, P, X, G, O] w wr) (fun i _ => n - (intOf i).toNat)
  case atStart => exact ⟨0, by omega, rfl, H0.out, Kept.refl _ _⟩
  case round =>
    obtain ⟨k, hk, rfl, hm, hkw⟩ := hrel
    have HM := Hid.mk hm
    have HK := Hid.mk hkw
    by_cases hlt : k < n
    · have hb := Hid.mk (holds_ap (holds_rwb (fun i => HD.out.up (Hf.out i).1 (Hf.out i).2) (k + 1) (n - (k + 1)) (by rw [show k + 1 + (n - (k + 1)) = n by omega]; exact HH.out)) (HD.out.up (Hf.out k).1 (Hf.out k).2))
      have fv := Hf.out k
      have c1 := hm.wm.fact.c1
      have c6 := dext_cell hm.wm
      have ix : (k : Int) < n := by omega
      have C1 := Hid.mk (fun W' (hk' : Kept [] wr W') => (get_any O g l (8 + D.toNat * k) D W' (hm.kp hk').rd (by omega) (by omega) (by have := hb.out.2.1; rw [rwb_len] at this; omega)).mono (R' := fun e w' => e = .returned (.tuple #[.int .u32 (f k), .int .i64 0]) ∧ Hid (Dm w0 B P X G O g T d D W n l w' (rwk T d f k) (8 + D.toNat * (k + 1)) ∧ Kept [O] wr w') ∧ w'.cell? ⟨B, 1, none⟩ = some (.int .i64 D) ∧ w'.cell? ⟨B, 6, none⟩ = some (.pointer (some ⟨O, 0, none⟩))) (by
        rintro e w' ⟨rfl, hrd, hkk⟩
        have h3 := hm.kp hk'
        obtain ⟨cs, hr', hl', hc⟩ := h3.wm.row
        obtain ⟨ps, hp, _⟩ := h3.wm.md.blk
        have o1 := ne_ty h3.rd.1 h3.wm.blk (by decide)
        have o2 := ne_ty h3.rd.1 hr' (by decide)
        have o3 := ne_ty h3.rd.1 hp (by decide)
        have o4 := ne_ty h3.rd.1 h3.wm.co.1 (by decide)
        have hlo := h3.lo
        have e1 := hb.out.2.2
        rw [rwb_len] at e1
        have hm' : Wm w' B P X G 61 T d D W n (dext O) (rwk T d f k) := h3.wm.keep hkk (by simp; omega)
        rw [e1, show (((f k).toNat : Nat) : Int) = f k by omega]
        exact ⟨rfl, Hid.mk ⟨⟨hm', by rw [Nat.mul_succ, ← Nat.add_assoc]; exact hrd, h3.keep.step hkk (fun y hy => by right; simp at hy; omega), h3.tab, h3.lo⟩, (hk'.mono (by simp)).trans hkk⟩, hm'.fact.c1, dext_cell hm'⟩))
      have C2 := Hid.mk (fun W' (hm2 : Hid (Dm w0 B P X G O g T d D W n l W' (rwk T d f k) (8 + D.toNat * (k + 1)) ∧ Kept [O] wr W')) => (fill_any B P X G 61 T d D W n (dext O) (rwk T d f k) 1 (f k) W' hm2.out.1.wm (by omega) (by show k + 1 ≤ n; omega) hn fv.1 (by omega)).mono (R' := fun e w' => e = .returned (.tuple #[]) ∧ Hid (Dm w0 B P X G O g T d D W n l w' (rwk T d f (k + 1)) (8 + D.toNat * (k + 1)) ∧ Kept [B, P, X, G, O] w w') ∧ w'.cell? ⟨B, 1, none⟩ = some (.int .i64 D) ∧ w'.cell? ⟨B, 6, none⟩ = some (.pointer (some ⟨O, 0, none⟩))) (by
        rintro e w' ⟨rfl, m3, k3⟩
        have m4 : Wm w' B P X G 61 T d D W n (dext O) (rwk T d f (k + 1)) := m3.congr f (fun i hi => by
          have hi : i < k + 1 := hi
          show f i = fil f k 1 (f k) i
          by_cases e : i < k
          · rw [fil_same _ _ _ _ _ e]
          · obtain rfl : i = k := by omega
            rw [fil_in _ _ _ _ _ (by omega) (by omega)])
        exact ⟨rfl, Hid.mk ⟨hm2.out.1.step (k3.mono (by simp)) m4, (HK.out.trans (hm2.out.2.mono (fun y hy => by left; simp at hy ⊢; omega))).trans (k3.mono (fun y hy => by left; simp at hy ⊢; omega))⟩, m4.fact.c1, dext_cell m4⟩))
      obtain ⟨v, hv⟩ : ∃ v, f k = v := ⟨_, rfl⟩
      rw [hv] at C1 C2 fv
      have wv : IntKind.i64.wrap v = v := wrap_i (by omega) (by omega)
      clear hm hkw hv hb
      go_wp2
      go_region_held_law (fun w' => w'.cell? ⟨B, 1, none⟩ = some (.int .i64 D) ∧ w'.cell? ⟨B, 6, none⟩ = some (.pointer (some ⟨O, 0, none⟩))) (first | exact ⟨c1, c6⟩ | exact ⟨t1, t6⟩ | exact ⟨r1, r6⟩ | go_keep) (first | (go_at_call 34; refine (C1.out _ (by with_reducible exact (Kept.refl _ _).drew)).mono ?_; rintro e w2 ⟨rfl, R2, t1, t6⟩) | (go_at_call 33; refine (takenU_ok _ _).mono ?_; rintro e w3 ⟨rfl, hw3⟩; obtain rfl := hw3.symm) | (go_at_call 48; refine (C2.out _ R2).mono ?_; rintro e w4 ⟨rfl, R4, r1, r6⟩))
      all_goals
        clear C1 C2 t1 t6 r1 r6 R2
        go_wp2
        go_roundw
        case rel => exact ⟨k + 1, by omega, by go_num, R4.out.1, R4.out.2⟩
        case measure => simp [intOf]; omega
    · obtain rfl : n = k := by omega
      have ix : ¬ (n : Int) < (n : Int) := by omega
      clear hm hkw
      go_wp2
      go_end0
      exact ⟨rfl, HM.out, HK.out⟩
end Go.Proofs.YtahoeodpjdbdkabDoor

namespace Go.Proofs.YtahoeodpjdbdkabDoor
open Go.RowKit

set_option maxHeartbeats 4000000 in
set_option maxRecDepth 1000000 in
/-- What is raw is read. -/
theorem read_raw (w0 : World) (B P X G O g : Nat) (T d D : Int) (W n : Nat) (l : List Nat) (f : Nat → Int) (w : World) (hD : Dp D T) (hn : n ≤ 4194304) (hf : ∀ i, 0 ≤ f i ∧ f i ≤ T) (hl : Holds l (rwb D.toNat f n))
    (h1 : 8 * l.length - (8 + D.toNat * n) < 8) (hz : nextN l (8 + D.toNat * n) (8 * l.length - (8 + D.toNat * n)) = 0)
    (h : Dm w0 B P X G O g T d D W n l w (rwk T d f 0) 0) :
    Calls Tryd.prog 20 #[.pointer (some ⟨B, 0, none⟩)] w fun e w' => e = .returned (.int .i64 0) ∧ Dm w0 B P X G O g T d D W n l w' (rwk T d f n) (8 * l.length) := by
  have hmf : ∀ (fn : Fn) (first cap : Array Value) (w : World), (Instr.makeFunc fn first cap).run Tryd.prog w = .ok (.func fn first cap) w := fun _ _ _ _ => rfl
  have hb0 : Holds l (0, 8) := holds_rwb (fun i => hD.up (hf i).1 (hf i).2) 0 n (by rw [Nat.zero_add]; exact hl)
  obtain ⟨w1, hw1, k1⟩ : ∃ w1, w.alloc (.cells #[.int .i64 0] 29 (0, 0)) = w1 ∧ Kept [] w w1 := ⟨_, rfl, alloc_kept _ _⟩
  have b1 : w1.heap[w.heap.size]? = some (.cells #[.int .i64 0] 29 (0, 0)) := by rw [← hw1]; exact heap_alloc_new _ _
  obtain ⟨Q, hQ⟩ : ∃ Q, w.heap.size = Q := ⟨_, rfl⟩
  rw [hQ] at b1
  have H1 := h.kp k1
  have c6 := dext_cell H1.wm
  have C1 := Hid.mk ((get_any O g l 0 8 w1 H1.rd (by omega) (by omega) (by have := hb0.1; simp at this; omega)).mono (R' := fun e w' => e = .returned (.tuple #[.int .u32 0, .int .i64 0]) ∧ Hid (Dm w0 B P X G O g T d D W n l w' (rwk T d f 0) 8 ∧ w'.heap[Q]? = some (.cells #[.int .i64 0] 29 (0, 0)))) (by
    rintro e w' ⟨rfl, hrd, hkk⟩
    obtain ⟨cs, hr', hl', hc⟩ := H1.wm.row
    obtain ⟨ps, hp, _⟩ := H1.wm.md.blk
    have o1 := ne_ty H1.rd.1 H1.wm.blk (by decide)
    have o2 := ne_ty H1.rd.1 hr' (by decide)
    have o3 := ne_ty H1.rd.1 hp (by decide)
    have o4 := ne_ty H1.rd.1 H1.wm.co.1 (by decide)
    have o5 := ne_ty H1.rd.1 b1 (by decide)
    have hlo := H1.lo
    have e8 : nextN l 0 (Int.toNat 8) = 0 := hb0.2
    have hm' : Wm w' B P X G 61 T d D W n (dext O) (rwk T d f 0) := H1.wm.keep hkk (by simp; omega)
    rw [e8]
    exact ⟨rfl, Hid.mk ⟨⟨hm', hrd, H1.keep.step hkk (fun y hy => by right; simp at hy; omega), H1.tab, H1.lo⟩, hkk.heap b1 (by simp; omega)⟩⟩))
  have hQl : w0.heap.size ≤ Q := by rw [← hQ]; exact h.keep.size
  clear h H1 k1 b1 hb0
  go_enter_defers Tryd.func20, Tryd.ntmps20
  go_wp2_with (first | (go_at_call 34; refine C1.out.mono ?_; rintro e w2 ⟨rfl, R2⟩) | (go_at_call 33; refine (takenU_ok _ _).mono ?_; rintro e w3 ⟨rfl, hw3⟩; obtain rfl := hw3.symm))
  refine (samples_ok w0 B P X G O g T d D W n l f w2 hD hn hf hl R2.out.1).mono ?_
  rintro e w3 ⟨rfl, h3, k3⟩
  have b3 : w3.heap[Q]? = some (.cells #[.int .i64 0] 29 (0, 0)) := by
    have h2 := R2.out.1
    have b2 := R2.out.2
    obtain ⟨cs, hr', hl', hc⟩ := h2.wm.row
    obtain ⟨ps, hp, _⟩ := h2.wm.md.blk
    have o1 := ne_ty b2 h2.wm.blk (by decide)
    have o2 := ne_ty b2 hr' (by decide)
    have o3 := ne_ty b2 hp (by decide)
    have o4 := ne_ty b2 h2.wm.co.1 (by decide)
    have o5 := ne_ty b2 h2.rd.1 (by decide)
    exact k3.heap b2 (by simp; omega)
  have C4 := Hid.mk ((dend_ok w0 B P X G O g T d D W n l w3 (rwk T d f n) (8 + D.toNat * n) h3 h1 h3.rd.2.2.2.1 hz).mono (R' := fun e w' => e = .returned (.tuple #[]) ∧ Hid (Dm w0 B P X G O g T d D W n l w' (rwk T d f n) (8 * l.length) ∧ w'.heap[Q]? = some (.cells #[.int .i64 0] 29 (0, 0))) ∧ w'.cell? ⟨Q, 0, none⟩ = some (.int .i64 0) ∧ w'.frozen? ⟨Q, 0, none⟩ = false) (by
    rintro e w' ⟨rfl, h4, k4⟩
    have o5 := ne_ty b3 h3.rd.1 (by decide)
    have b4 := k4.heap b3 (by simp; omega)
    obtain ⟨x, y⟩ := cells_one b4
    exact ⟨rfl, Hid.mk ⟨h4, b4⟩, x, y⟩))
  clear h3 k3 b3 hz h1 hl R2 C1
  go_wp2_with (first | (go_at_call 39; refine C4.out.mono ?_; rintro e w4 ⟨rfl, R4, z0, zf⟩))
  refine leaves_cons (f := 32) (args := #[.pointer (some ⟨Q, 0, none⟩)]) (by simp) (by simp [go_sem]) ?_
  refine (catch_idle ⟨Q, 0, none⟩ _).mono ?_
  rintro e u' w'' ⟨rfl, rfl, rfl⟩
  have h5 : Dm w0 B P X G O g T d D W n l (w4.setCell ⟨Q, 0, none⟩ (.int .i64 0)) (rwk T d f n) (8 * l.length) := by
    have h2 := R4.out.1
    have b2 := R4.out.2
    obtain ⟨cs, hr', hl', hc⟩ := h2.wm.row
    obtain ⟨ps, hp, _⟩ := h2.wm.md.blk
    have o1 := ne_ty h2.wm.blk b2 (by decide)
    have o2 := ne_ty hr' b2 (by decide)
    have o3 := ne_ty hp b2 (by decide)
    have o4 := ne_ty h2.wm.co.1 b2 (by decide)
    have o5 := ne_ty h2.rd.1 b2 (by decide)
    have o6 := ne_ty h2.rd.2.1 b2 (by decide)
    have k5 : Kept [Q] w4 (w4.setCell ⟨Q, 0, none⟩ (.int .i64 0)) := (Kept.refl _ _).setCell (by simp) _
    exact ⟨h2.wm.keep k5 (by simp; omega), reader_kept h2.rd k5 (by simp; omega) (by simp; omega), h2.keep.step k5 (by simp; omega), h2.tab, h2.lo⟩
  simp [Leaves, settle, results, Tryd.results20, go_sem, z0]
  exact h5
end Go.Proofs.YtahoeodpjdbdkabDoor
