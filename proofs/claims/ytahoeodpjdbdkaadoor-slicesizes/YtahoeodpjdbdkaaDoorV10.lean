import Derived.Test.YtahoeodpjdbdkaaDoorV09
import Derived.Defers
import Derived.Recover
import Derived.Laws.Pointers
namespace Go.Proofs.YtahoeodpjdbdkaaDoor
open Go.RowKit

/-- The bytes begin with these bits. -/
def Holds (l : List Nat) (x : Nat × Nat) : Prop := x.2 ≤ 8 * l.length ∧ nextN l 0 x.2 = x.1

theorem holds_ap {l : List Nat} {x : Nat × Nat} {w v : Nat} (h : Holds l (ap x w v)) (hv : v < 2 ^ w) : Holds l x ∧ x.2 + w ≤ 8 * l.length ∧ nextN l x.2 w = v := by
  obtain ⟨h1, h2⟩ := h
  have h1 : x.2 + w ≤ 8 * l.length := h1
  have h2 : nextN l 0 (x.2 + w) = x.1 * 2 ^ w + v := h2
  have j := nextN_join l 0 x.2 w (by omega)
  rw [Nat.zero_add] at j
  rw [h2] at j
  have b := nextN_lt l x.2 w
  have d1 := two_parts x.1 w v hv
  have d2 := two_parts (nextN l 0 x.2) w _ b
  rw [← j] at d2
  refine ⟨⟨by omega, ?_⟩, h1, ?_⟩
  · rw [← d2.1, d1.1]
  · rw [← d2.2, d1.2]

theorem rch_lt {T d : Int} {W n : Nat} {f : Nat → Int} {J j : Nat} (hW : 1 ≤ W) (hE : Enc T d W n f J) (h : (stp T d W (cE T d W f) (wk0 T d) j).t < n) : j < J := by
  rcases Nat.lt_or_ge j J with h1 | h1
  · exact h1
  · rcases Nat.eq_or_lt_of_le h1 with h2 | h2
    · subst h2; have := hE.fin; omega
    · have := stp_lt (T := T) (d := d) (s := wk0 T d) (cE T d W f) hW J j h2
      have := hE.fin; omega

theorem fit_q {T d : Int} (G : Gd T d) {W : Nat} {f : Nat → Int} {s : Wk} (h : s.In T) (hW : 1 ≤ W) (hf : ∀ i, 0 ≤ f i ∧ f i ≤ T) (least : Nat) (k : Nat) : gf (fld (cE T d W f s).2 - least) k < 2 ^ gw (fld (cE T d W f s).2 - least) k (wde T d) := by
  refine gf_lt _ _ _ (lt_wde G _ ?_)
  have := cE_q G (f := f) h hW hf
  omega
theorem holds_bit {T d : Int} (G : Gd T d) {W : Nat} {f : Nat → Int} {s : Wk} {x : Nat × Nat} {l : List Nat} (h : s.In T) (hW : 1 ≤ W) (hf : ∀ i, 0 ≤ f i ∧ f i ≤ T) (hh : Holds l (bit T d W s (cE T d W f s) x)) : Holds l x := by
  unfold bit at hh
  split at hh
  · split at hh
    · exact (holds_ap hh (rf_lt _ _ _)).1
    · exact (holds_ap (holds_ap hh (fit_q G h hW hf _ _)).1 (rf_lt _ _ _)).1
  · exact (holds_ap hh (fit_q G h hW hf _ _)).1
theorem holds_wrt {T d : Int} (G : Gd T d) {W : Nat} {f : Nat → Int} {l : List Nat} (hW : 1 ≤ W) (hf : ∀ i, 0 ≤ f i ∧ f i ≤ T) (j k : Nat) (h : Holds l (wrt T d W (cE T d W f) (wk0 T d) (j + k))) : Holds l (wrt T d W (cE T d W f) (wk0 T d) j) := by
  induction k with
  | zero => exact h
  | succ k ih => exact ih (holds_bit G (stp_in G _ (wk0_in G) hW _) hW hf h)

set_option maxHeartbeats 1000000 in
/-- A decoder's two functions tell what the coder told. -/
theorem dhnd (w0 w1 : World) (B P X G O g : Nat) (T d D : Int) (W H n : Nat) (l : List Nat) (f : Nat → Int) (hG : Gd T d) (hW : 1 ≤ W) (hW2 : W ≤ 4096) (hWH : n = W * H) (hf : ∀ i, 0 ≤ f i ∧ f i ≤ T) (J : Nat) (hE : Enc T d W n f J) (hl : Holds l (wrt T d W (cE T d W f) (wk0 T d) J)) :
    Hnd B P X G 57 T d D W n (dext O) 38 39 (cdr T d W f) (fun w s x => Dm w0 B P X G O g T d D W n l w s x.2 ∧ Kept [B, P, X, G, O] w1 w) (fun _ _ => False) (Rch T d W n (cdr T d W f) (wk0 T d) (1, 8)) := by
  have hT := hG.t0
  have next : ∀ j, (stp T d W (cE T d W f) (wk0 T d) j).t < n → Holds l (bit T d W (stp T d W (cE T d W f) (wk0 T d) j) (cE T d W f (stp T d W (cE T d W f) (wk0 T d) j)) (wrt T d W (cE T d W f) (wk0 T d) j)) := by
    intro j hj
    have hlt := rch_lt hW hE hj
    exact holds_wrt hG hW hf (j + 1) (J - (j + 1)) (by rw [show j + 1 + (J - (j + 1)) = J by omega]; exact hl)
  refine ⟨fun w s x h => h.1.wm, fun w w' s s' x h hk hm => ⟨h.1.step hk hm, h.2.trans (hk.mono (fun y hy => by left; simp at hy ⊢; omega))⟩, ?_, ?_⟩
  · intro w s x ⟨h, hkw⟩ hin ht hk hR
    have hr := rom_pos (t := s.t) hW
    have hr2 := rom_in (H := H) hW (show s.t < W * H by omega)
    obtain ⟨j, hs, hx, _⟩ := rch_cdr hR
    have hn := next j (by rw [← hs]; exact ht)
    rw [← hs, ← hx] at hn
    have hm : (cE T d W f s).1 = rnl f (nA T W s.b s.t) d s.t (rom W s.t) := by rw [cE_zero hk]
    have hb : Holds l (btr W s (cE T d W f s).1 x) := by
      unfold bit at hn
      rw [if_pos hk] at hn
      split at hn
      · exact hn
      · exact (holds_ap hn (fit_q hG hin hW hf _ _)).1
    obtain ⟨_, h1, h2⟩ := holds_ap hb (rf_lt _ _ _)
    rw [hm] at h1 h2
    refine (drun_ok w0 B P X G O g T d D W n l w s x.2 h _ (rom W s.t) hr.1 (by omega) _ (rnl_le _ _ _ _ _) h1 h2).mono ?_
    rintro e w' ⟨rfl, hd, h98, hkk⟩
    exact .inl ⟨_, (btr W s (rnl f (nA T W s.b s.t) d s.t (rom W s.t)) x), rfl, rnl_le _ _ _ _ _, ⟨rfl, rfl⟩, ⟨hd, hkw.trans (hkk.mono (fun y hy => by left; simp at hy ⊢; omega))⟩, h98⟩
  · intro w s x k gg p least ⟨h, hkw⟩ hin ht hP
    rcases hP with ⟨rfl, rfl, rfl, rfl, hk, hR⟩ | ⟨rfl, rfl, s1, x1, m, hm, hm2, ⟨hr, hx1⟩, hs, rfl, rfl, hk, hin1, ht1, hR⟩
    · obtain ⟨j, hs, hx, _⟩ := rch_cdr hR
      have hn := next j (by rw [← hs]; exact ht)
      rw [← hs, ← hx] at hn
      have hq := cE_q hG (f := f) hin hW hf
      have fq := fit_q hG hin hW hf 0 (po s.L (xk T d W s))
      unfold bit at hn
      rw [if_neg hk, cE_else hk] at hn
      rw [cE_else hk] at hq fq
      have hrg := rg_pos T d hG
      dsimp only at hq hn fq
      obtain ⟨_, h1, h2⟩ := holds_ap hn fq
      have hql : -5000 ≤ shr T d (xs T d W s * (f s.t - xp T d W s)) ∧ shr T d (xs T d W s * (f s.t - xp T d W s)) ≤ 5000 := by unfold fld at hq; split at hq <;> omega
      refine (done_ok w0 B P X G O g T d D W n l w s x.2 h hG _ _ _ 0 (shr T d (xs T d W s * (f s.t - xp T d W s))) (fld (shr T d (xs T d W s * (f s.t - xp T d W s))) - 0) (lt_wde hG _ (by simpa using hq)) (by omega) hq h1 h2).mono ?_
      rintro e w' ⟨rfl, hc, h98, hkk⟩
      exact .inl ⟨_, (bto T d s (xk T d W s) 0 (shr T d (xs T d W s * (f s.t - xp T d W s))) x), rfl, hql.1, hql.2, ⟨rfl, rfl⟩, ⟨hc, hkw.trans (hkk.mono (fun y hy => by left; simp at hy ⊢; omega))⟩, h98⟩
    · obtain ⟨j, hs', hx, _⟩ := rch_cdr hR
      have hn := next j (by rw [← hs']; exact ht1)
      rw [← hs', ← hx] at hn
      have hq := cE_q hG (f := f) hin1 hW hf
      have hq1 := cE_run hG (f := f) hin1 hW hf hk
      have fq := fit_q hG hin1 hW hf 1 (po s.L 0)
      unfold bit at hn
      rw [if_pos hk] at hn
      rw [cE_zero hk, ← hr] at hq hq1 fq hn
      have hq1 := hq1 (by show m < _; omega)
      dsimp only at hn
      rw [if_neg hm2] at hn
      have hrg := rg_pos T d hG
      have hst : s.t = s1.t + m := by rw [hs]; rfl
      have hsL : (gor T W s1 m) = s := hs.symm
      rw [hsL] at hn
      rw [← hst] at hq hq1 hn fq
      have hx1' : btr W s1 m x1 = x := hx1.symm
      rw [hx1'] at hn
      dsimp only at hq hq1 fq
      obtain ⟨_, h1, h2⟩ := holds_ap hn fq
      have hql : -5000 ≤ shr T d (xs T d W s1 * (f s.t - nA T W s1.b s1.t)) ∧ shr T d (xs T d W s1 * (f s.t - nA T W s1.b s1.t)) ≤ 5000 := by unfold fld at hq; split at hq <;> omega
      refine (done_ok w0 B P X G O g T d D W n l w s x.2 h hG _ _ _ 1 (shr T d (xs T d W s1 * (f s.t - nA T W s1.b s1.t))) (fld (shr T d (xs T d W s1 * (f s.t - nA T W s1.b s1.t))) - 1) (lt_wde hG _ (by omega)) (by omega) hq h1 h2).mono ?_
      rintro e w' ⟨rfl, hc, h98, hkk⟩
      exact .inl ⟨_, (bto T d s 0 1 (shr T d (xs T d W s1 * (f s.t - nA T W s1.b s1.t))) x), rfl, hql.1, hql.2, ⟨rfl, rfl⟩, ⟨hc, hkw.trans (hkk.mono (fun y hy => by left; simp at hy ⊢; omega))⟩, h98⟩
end Go.Proofs.YtahoeodpjdbdkaaDoor

namespace Go.Proofs.YtahoeodpjdbdkaaDoor
open Go.RowKit

set_option maxHeartbeats 4000000 in
set_option maxRecDepth 1000000 in
theorem newDecoder_any (ao : Option Addr) (cap m : Nat) (l : List Nat) (n P X G W : Nat) (D : Int) (w : World) (hr : Reads w ao l) (hb : Byts l) (hm : l.length = m) (hl : m ≤ 281474976710656) :
    Calls Tryd.prog 20 #[.slice ao m cap, .agg (wc W D P X G n 0 []).toArray] w fun e w' => ∃ B O g, e = .returned (.pointer (some ⟨B, 0, none⟩)) ∧ w'.heap[B]? = some (.cells (wc W D P X G n 0 (dext O)).toArray 57 (0, 0)) ∧ ReaderAt w' O g l 0 ∧ w.heap.size ≤ B ∧ w.heap.size ≤ O ∧ w.heap.size ≤ g ∧ Kept [] w w' := by
  obtain ⟨w1, hw1, k1, b1⟩ := six_new w (wc W D P X G n 0 []) 52
  obtain ⟨Q, hQ⟩ : ∃ Q, w.heap.size = Q := ⟨_, rfl⟩
  rw [hQ] at b1
  obtain ⟨⟨y0, y1, y2, y3, y4, y5⟩, -⟩ := six_cells b1
  have C := Hid.mk (fun W' (hk : Kept [] w1 W') => (newReader_any ao cap m l W' ((hr.keep k1).keep hk) hb hm hl).mono (R' := fun e w' => ∃ O g : Nat, e = .returned (.pointer (some ⟨O, 0, none⟩)) ∧ Hid (W'.heap.size ≤ O ∧ W'.heap.size ≤ g ∧ ReaderAt w' O g l 0 ∧ Kept [] W' w') ∧ w'.cell? ⟨Q, 0, none⟩ = some (.int .i64 (W : Int)) ∧ w'.cell? ⟨Q, 1, none⟩ = some (.int .i64 D) ∧ w'.cell? ⟨Q, 2, none⟩ = some (.pointer (some ⟨P, 0, none⟩)) ∧ w'.cell? ⟨Q, 3, none⟩ = some (.pointer (some ⟨X, 0, none⟩)) ∧ w'.cell? ⟨Q, 4, none⟩ = some (.slice (some ⟨G, 0, none⟩) n n) ∧ w'.cell? ⟨Q, 5, none⟩ = some (.int .i64 0)) (by
    rintro e w' ⟨O, g, rfl, h1, h2, h3, h4⟩
    have hb' := (hk.trans h4).heap b1 (by simp)
    obtain ⟨x, y⟩ := six_cells hb'
    exact ⟨O, g, rfl, Hid.mk ⟨h1, h2, h3, h4⟩, x⟩))
  have K1 := Hid.mk k1
  have hlt := lt_of_block b1
  replace hw1 : w.alloc (.cells #[.int .i64 (W : Int), .int .i64 D, .pointer (some ⟨P, 0, none⟩), .pointer (some ⟨X, 0, none⟩), .slice (some ⟨G, 0, none⟩) n n, .int .i64 0] 52 (0, 0)) = w1 := hw1
  clear b1 k1 hr
  go_enter Tryd.func20, Tryd.ntmps20
  go_wp2
  go_region_with (first | (go_at_call 31; refine (C.out _ (by with_reducible exact (Kept.refl _ _).drew)).mono ?_; rintro e w2 ⟨O, g, rfl, R2, t0, t1, t2, t3, t4, t5⟩))
  all_goals
    clear C t0 t1 t2 t3 t4 t5 y0 y1 y2 y3 y4 y5
    go_wp2
    go_ret
    obtain ⟨e1, e2, hX, k2⟩ := R2.out
    have hsz := K1.out.size
    have k3 := alloc_kept w2 (.cells (wc W D P X G n 0 (dext O)).toArray 57)
    refine ⟨w2.heap.size, O, g, rfl, heap_alloc_new w2 (.cells (wc W D P X G n 0 (dext O)).toArray 57), reader_kept hX k3 (by simp) (by simp), (K1.out.trans k2.undrew).size, Nat.le_trans hsz e1, Nat.le_trans hsz e2, (K1.out.trans k2.undrew).trans k3⟩

set_option maxHeartbeats 4000000 in
set_option maxRecDepth 1000000 in
/-- The end of what is read: filling alone. -/
theorem dend_ok (w0 : World) (B P X G O g : Nat) (T d D : Int) (W n : Nat) (l : List Nat) (w : World) (s : Wk) (t : Nat) (h : Dm w0 B P X G O g T d D W n l w s t) (h1 : 8 * l.length - t < 8) (h2 : t ≤ 8 * l.length) (hz : nextN l t (8 * l.length - t) = 0) :
    Calls Tryd.prog 40 #[.pointer (some ⟨B, 0, none⟩)] w fun e w' => e = .returned (.tuple #[]) ∧ Dm w0 B P X G O g T d D W n l w' s (8 * l.length) ∧ Kept [O] w w' := by
  have c6 := dext_cell h.wm
  obtain ⟨r, hr⟩ : ∃ r : Nat, 8 * l.length - t = r := ⟨_, rfl⟩
  rw [hr] at h1 hz
  have hrI : 8 * (l.length : Int) - (t : Int) = (r : Int) := by omega
  have hr8 : (r : Int).tmod 8 = (r : Int) := by rw [Int.tmod_eq_emod_of_nonneg (by omega)]; omega
  have C1 := Hid.mk (fun W' (hk : Kept [] w W') => left_any O g l t W' (h.kp hk).rd)
  rw [hrI] at C1
  have C2 := Hid.mk (fun W' (hk : Kept [] w W') => (get_any O g l t (r : Int) W' (h.kp hk).rd (by omega) (by omega) (by omega)).mono (R' := fun e w' => e = .returned (.tuple #[.int .u32 0, .int .i64 0]) ∧ Hid (Dm w0 B P X G O g T d D W n l w' s (8 * l.length) ∧ Kept [O] w w') ∧ w'.cell? ⟨B, 6, none⟩ = some (.pointer (some ⟨O, 0, none⟩))) (by
    rintro e w' ⟨rfl, hrd, hkk⟩
    have h3 := h.kp hk
    obtain ⟨cs, hr', hl', hc⟩ := h3.wm.row
    obtain ⟨ps, hp, _⟩ := h3.wm.md.blk
    have o1 := ne_ty h3.rd.1 h3.wm.blk (by decide)
    have o2 := ne_ty h3.rd.1 hr' (by decide)
    have o3 := ne_ty h3.rd.1 hp (by decide)
    have o4 := ne_ty h3.rd.1 h3.wm.co.1 (by decide)
    have hlo := h3.lo
    have hm' : Wm w' B P X G 57 T d D W n (dext O) s := h3.wm.keep hkk (by simp; omega)
    rw [Int.toNat_natCast, hz]
    rw [Int.toNat_natCast, show t + r = 8 * l.length by omega] at hrd
    exact ⟨rfl, Hid.mk ⟨⟨hm', hrd, h3.keep.step hkk (fun y hy => by right; simp at hy; omega), h3.tab, h3.lo⟩, (hk.mono (by simp)).trans hkk⟩, dext_cell hm'⟩))
  have C3 := Hid.mk (fun W' (hm : Hid (Dm w0 B P X G O g T d D W n l W' s (8 * l.length) ∧ Kept [O] w W')) => left_any O g l (8 * l.length) W' hm.out.1.rd)
  have e0 : 8 * (l.length : Int) - ((8 * l.length : Nat) : Int) = 0 := by omega
  rw [e0] at C3
  clear h hz hrI e0 h2 hr
  go_enter Tryd.func40, Tryd.ntmps40
  go_wp2
  go_region_held_law (fun w' => w'.cell? ⟨B, 6, none⟩ = some (.pointer (some ⟨O, 0, none⟩))) (first | exact c6 | exact t6 | go_keep) (first | (go_at_call 47; refine (C1.out _ (by with_reducible exact (Kept.refl _ _).drew)).mono ?_; rintro e w1 ⟨rfl, q1, rfl⟩) | (go_at_call 35; refine (C2.out _ (by with_reducible exact (Kept.refl _ _).drewN _)).mono ?_; rintro e w2 ⟨rfl, R2, t6⟩) | (go_at_call 34; refine (takenU_ok _ _).mono ?_; rintro e w3 ⟨rfl, hw3⟩; obtain rfl := hw3.symm))
  all_goals
    clear C1 C2
    go_wp2_with (go_at_call 47; refine (C3.out _ R2).mono ?_; rintro e w4 ⟨rfl, q4, rfl⟩)
    go_end0
    exact ⟨rfl, R2.out.1.kp ((Kept.refl _ _).drewN _), R2.out.2.drewN _⟩
end Go.Proofs.YtahoeodpjdbdkaaDoor

namespace Go.Proofs.YtahoeodpjdbdkaaDoor
open Go.RowKit

set_option maxRecDepth 100000 in
theorem catch_idle (p : Addr) (w : World) :
    CallsD Tryd.prog 33 #[.pointer (some p)] .returning w fun e u' w' => e = .returned (.tuple #[]) ∧ u' = .returning ∧ w' = w := by
  have hnil : ∀ w : World, (binOp BinOp.neq 20 .nilIface .nilIface).run Tryd.prog w = .ok (.bool false) w := fun _ => by kernel_rfl
  refine callsD_of_wpS Tryd.func33 rfl fun c₀ cs hu => ?_
  apply wpS_seq
  apply wpS_region
  simp [wpOpsS, go_sem, recoverD, hu, Tryd.ntmps33, Exit.thenS]
  apply wpS_seq
  apply wpS_region
  simp [wpOpsS, go_sem, hnil, Exit.thenS]
  refine wpS_cond (t := false) (by simp [Act.eval, Array.replicate]) ?_
  simp only [Bool.false_eq_true, if_false]
  refine wpS_of_wp (wp_skip ?_)
  cases c₀
  simp_all [bodyPostS, results, Tryd.results33]
set_option maxHeartbeats 4000000 in
set_option maxRecDepth 1000000 in
/-- What was coded is read. -/
theorem read_coded (w0 : World) (B P X G O g : Nat) (T d D : Int) (W H n : Nat) (l : List Nat) (f : Nat → Int) (w : World) (hG : Gd T d) (hD : Dp D T) (hn : n ≤ 4194304) (hW : 1 ≤ W) (hW2 : W ≤ 4096) (hWH : n = W * H) (hf : ∀ i, 0 ≤ f i ∧ f i ≤ T) (J : Nat) (hE : Enc T d W n f J) (hl : Holds l (wrt T d W (cE T d W f) (wk0 T d) J))
    (h1 : 8 * l.length - (wrt T d W (cE T d W f) (wk0 T d) J).2 < 8) (hz : nextN l (wrt T d W (cE T d W f) (wk0 T d) J).2 (8 * l.length - (wrt T d W (cE T d W f) (wk0 T d) J).2) = 0)
    (h : Dm w0 B P X G O g T d D W n l w (wk0 T d) 0) :
    Calls Tryd.prog 22 #[.pointer (some ⟨B, 0, none⟩)] w fun e w' => e = .returned (.int .i64 0) ∧ Dm w0 B P X G O g T d D W n l w' (stp T d W (cE T d W f) (wk0 T d) J) (8 * l.length) := by
  have hmf : ∀ (fn : Fn) (first cap : Array Value) (w : World), (Instr.makeFunc fn first cap).run Tryd.prog w = .ok (.func fn first cap) w := fun _ _ _ _ => rfl
  have hb0 : Holds l (1, 8) := holds_wrt hG hW hf 0 J (by rw [Nat.zero_add]; exact hl)
  obtain ⟨w1, hw1, k1⟩ : ∃ w1, w.alloc (.cells #[.int .i64 0] 23 (0, 0)) = w1 ∧ Kept [] w w1 := ⟨_, rfl, alloc_kept _ _⟩
  have b1 : w1.heap[w.heap.size]? = some (.cells #[.int .i64 0] 23 (0, 0)) := by rw [← hw1]; exact heap_alloc_new _ _
  obtain ⟨Q, hQ⟩ : ∃ Q, w.heap.size = Q := ⟨_, rfl⟩
  rw [hQ] at b1
  have H1 := h.kp k1
  have c6 := dext_cell H1.wm
  have C1 := Hid.mk ((get_any O g l 0 8 w1 H1.rd (by omega) (by omega) (by have := hb0.1; simp at this; omega)).mono (R' := fun e w' => e = .returned (.tuple #[.int .u32 1, .int .i64 0]) ∧ Hid (Dm w0 B P X G O g T d D W n l w' (wk0 T d) 8 ∧ w'.heap[Q]? = some (.cells #[.int .i64 0] 23 (0, 0)))) (by
    rintro e w' ⟨rfl, hrd, hkk⟩
    obtain ⟨cs, hr', hl', hc⟩ := H1.wm.row
    obtain ⟨ps, hp, _⟩ := H1.wm.md.blk
    have o1 := ne_ty H1.rd.1 H1.wm.blk (by decide)
    have o2 := ne_ty H1.rd.1 hr' (by decide)
    have o3 := ne_ty H1.rd.1 hp (by decide)
    have o4 := ne_ty H1.rd.1 H1.wm.co.1 (by decide)
    have o5 := ne_ty H1.rd.1 b1 (by decide)
    have hlo := H1.lo
    have e8 : nextN l 0 (Int.toNat 8) = 1 := hb0.2
    have hm' : Wm w' B P X G 57 T d D W n (dext O) (wk0 T d) := H1.wm.keep hkk (by simp; omega)
    rw [e8]
    exact ⟨rfl, Hid.mk ⟨⟨hm', hrd, H1.keep.step hkk (fun y hy => by right; simp at hy; omega), H1.tab, H1.lo⟩, hkk.heap b1 (by simp; omega)⟩⟩))
  have hQl : w0.heap.size ≤ Q := by rw [← hQ]; exact h.keep.size
  clear h H1 k1 b1 hb0
  go_enter_defers Tryd.func22, Tryd.ntmps22
  go_wp2_with (first | (go_at_call 35; refine C1.out.mono ?_; rintro e w2 ⟨rfl, R2⟩) | (go_at_call 34; refine (takenU_ok _ _).mono ?_; rintro e w3 ⟨rfl, hw3⟩; obtain rfl := hw3.symm))
  refine (through38 B P X G 57 T d D W H n (dext O) (cdr T d W f) (fun w s x => Dm w0 B P X G O g T d D W n l w s x.2 ∧ Kept [B, P, X, G, O] w2 w) (fun _ _ => False) hD hG hn hW hW2 hWH (wk0 T d) (1, 8) (dhnd w0 w2 B P X G O g T d D W H n l f hG hW hW2 hWH hf J hE hl) w2 ⟨R2.out.1, Kept.refl _ _⟩ (wk0_in hG) (by show 0 ≤ n; omega)).mono ?_
  rintro e w3 (⟨rfl, s3, x3, hR, ht, -, h3, k3⟩ | ⟨pc, s3, x3, -, -, -, -, hF⟩)
  · obtain ⟨j, hs3, hx3, hj⟩ := rch_cdr hR
    have hjJ : j = J := by
      rcases Nat.lt_trichotomy j J with h | h | h
      · have := hE.all j h; rw [← hs3] at this; omega
      · exact h
      · have := hj J h; have := hE.fin; omega
    subst hjJ
    rw [← hx3] at h1 hz
    have HS := Hid.mk hs3
    clear hs3 hx3
    have b3 : w3.heap[Q]? = some (.cells #[.int .i64 0] 23 (0, 0)) := by
      have h2 := R2.out.1
      have b2 := R2.out.2
      obtain ⟨cs, hr', hl', hc⟩ := h2.wm.row
      obtain ⟨ps, hp, _⟩ := h2.wm.md.blk
      have o1 := ne_ty b2 h2.wm.blk (by decide)
      have o2 := ne_ty b2 hr' (by decide)
      have o3 := ne_ty b2 hp (by decide)
      have o4 := ne_ty b2 h2.wm.co.1 (by decide)
      have o5 := ne_ty b2 h2.rd.1 (by decide)
      exact k3.heap b2 (by simp; omega)
    have C4 := Hid.mk ((dend_ok w0 B P X G O g T d D W n l w3 s3 x3.2 h3 h1 h3.rd.2.2.2.1 hz).mono (R' := fun e w' => e = .returned (.tuple #[]) ∧ Hid (Dm w0 B P X G O g T d D W n l w' s3 (8 * l.length) ∧ w'.heap[Q]? = some (.cells #[.int .i64 0] 23 (0, 0))) ∧ w'.cell? ⟨Q, 0, none⟩ = some (.int .i64 0) ∧ w'.frozen? ⟨Q, 0, none⟩ = false) (by
      rintro e w' ⟨rfl, h4, k4⟩
      have o5 := ne_ty b3 h3.rd.1 (by decide)
      have b4 := k4.heap b3 (by simp; omega)
      obtain ⟨x, y⟩ := cells_one b4
      exact ⟨rfl, Hid.mk ⟨h4, b4⟩, x, y⟩))
    clear h3 k3 b3 hR hj hz h1 hl R2 C1
    go_wp2_with (first | (go_at_call 40; refine C4.out.mono ?_; rintro e w4 ⟨rfl, R4, z0, zf⟩))
    refine leaves_cons (f := 33) (args := #[.pointer (some ⟨Q, 0, none⟩)]) (by simp) (by simp [go_sem]) ?_
    refine (catch_idle ⟨Q, 0, none⟩ _).mono ?_
    rintro e u' w'' ⟨rfl, rfl, rfl⟩
    have h5 : Dm w0 B P X G O g T d D W n l (w4.setCell ⟨Q, 0, none⟩ (.int .i64 0)) s3 (8 * l.length) := by
      have h2 := R4.out.1
      have b2 := R4.out.2
      obtain ⟨cs, hr', hl', hc⟩ := h2.wm.row
      obtain ⟨ps, hp, _⟩ := h2.wm.md.blk
      have o1 := ne_ty h2.wm.blk b2 (by decide)
      have o2 := ne_ty hr' b2 (by decide)
      have o3 := ne_ty hp b2 (by decide)
      have o4 := ne_ty h2.wm.co.1 b2 (by decide)
      have o5 := ne_ty h2.rd.1 b2 (by decide)
      have o6 := ne_ty h2.rd.2.1 b2 (by decide)
      have k5 : Kept [Q] w4 (w4.setCell ⟨Q, 0, none⟩ (.int .i64 0)) := (Kept.refl _ _).setCell (by simp) _
      exact ⟨h2.wm.keep k5 (by simp; omega), reader_kept h2.rd k5 (by simp; omega) (by simp; omega), h2.keep.step k5 (by simp; omega), h2.tab, h2.lo⟩
    rw [HS.out] at h5
    simp [Leaves, settle, results, Tryd.results22, go_sem, z0]
    exact h5
  · exact hF.elim
end Go.Proofs.YtahoeodpjdbdkaaDoor

namespace Go.Proofs.YtahoeodpjdbdkaaDoor
open Go.RowKit

set_option maxHeartbeats 2000000 in
set_option maxRecDepth 100000 in
theorem Encode_coded (W H n sb so sc : Nat) (D T d : Int) (f : Nat → Int) (w : World) (hs : Smp w sb so n f) (hT : Tab w) (hz : szd (W : Int) (H : Int) = true) (hn : n = W * H) (hD : Dp D T) (d0 : 0 ≤ d) (d1 : d ≤ 63) (hf : ∀ i, 0 ≤ f i ∧ f i ≤ T)
    (hc : ∀ j, Enc T d W n f j → (nby (xw T d W f j) : Int) < (rsz W H D).1) :
    Calls Tryd.prog 11 #[.agg #[.int .i64 (W : Int), .int .i64 (H : Int), .slice (some ⟨sb, so, none⟩) n sc], .int .i64 D, .int .i64 d] w fun e w' => ∃ j g, Enc T d W n f j ∧ e = .returned (.tuple #[.slice (some ⟨g, 0, none⟩) (nby (xw T d W f j)) (nby (xw T d W f j)), .int .i64 0]) ∧ w.heap.size ≤ g ∧ w'.heap[g]? = some (.cells ((byts (xw T d W f j)).map byt).toArray 5 (0, 0)) ∧ Kept [] w w' := by
  obtain ⟨w1, hw1, k1, b1⟩ := three_new w (.int .i64 (W : Int)) (.int .i64 (H : Int)) (.slice (some ⟨sb, so, none⟩) n sc) 29
  obtain ⟨Q, hQ⟩ : ∃ Q, w.heap.size = Q := ⟨_, rfl⟩
  have hsz := k1.size
  rw [hQ] at b1
  obtain ⟨z0, z1, z2⟩ := agg3' b1
  have C := Hid.mk (encode_mid W H n sb so sc D T d f w1 (hs.keep k1 (by simp)) (hT.kept k1 (by simp)) hz hn hD d0 d1 hf hc)
  have K1 := Hid.mk k1
  have HQ := Hid.mk hQ
  clear hs hT hz hn hD hf hc b1 k1
  go_enter Tryd.func11, Tryd.ntmps11
  go_wp2_with (fail)
  refine C.out.mono ?_
  rintro e w2 ⟨j, g, G, hE, rfl, hg, -, hb, -, k2⟩
  have HE := Hid.mk hE
  have HB := Hid.mk hb
  have K2 := Hid.mk k2
  have Hg := Hid.mk hg
  clear hE hb k2 C hg
  obtain ⟨L, hL⟩ : ∃ L, nby (xw T d W f j) = L := ⟨_, rfl⟩
  have HL := Hid.mk hL
  rw [hL]
  clear hL
  go_wp2
  go_ret2
  exact ⟨j, g, HE.out, by rw [HL.out]; rfl, by have := Hg.out; have := HQ.out; omega, HB.out, K1.out.trans K2.out⟩


set_option maxHeartbeats 8000000 in
set_option maxRecDepth 1000000 in
theorem Decode_coded (W H n : Nat) (ao : Option Addr) (cap m : Nat) (l : List Nat) (D T d : Int) (f : Nat → Int) (w : World) (hr : Reads w ao l) (hby : Byts l) (hm : l.length = m) (hl : m ≤ 281474976710656) (hT : Tab w) (hz : szd (W : Int) (H : Int) = true) (hn : n = W * H) (hD : Dp D T) (d0 : 0 ≤ d) (d1 : d ≤ 63) (hf : ∀ i, 0 ≤ f i ∧ f i ≤ T)
    (J : Nat) (hE : Enc T d W n f J) (hh : Holds l (xw T d W f J)) (h1 : 8 * l.length - (xw T d W f J).2 < 8) (hzz : nextN l (xw T d W f J).2 (8 * l.length - (xw T d W f J).2) = 0) :
    Calls Tryd.prog 12 #[.slice ao m cap, .int .i64 (W : Int), .int .i64 (H : Int), .int .i64 D, .int .i64 d] w fun e w' => ∃ G, e = .returned (.tuple #[.agg #[.int .i64 (W : Int), .int .i64 (H : Int), .slice (some ⟨G, 0, none⟩) n n], .int .i64 0]) ∧ w.heap.size ≤ G ∧ Smp w' G 0 n (sw T d W f J).b ∧ Kept [] w w' := by
  have hb := szd_in hz
  have hcst : (W : Int) * H = (n : Int) := by rw [hn]; simp
  rw [hcst] at hb
  have hG := hD.gd d0 d1
  have HN := Hid.mk hn
  have Hf := Hid.mk hf
  obtain ⟨w1, hw1, k1, b1⟩ := three_new w (.int .i64 0) (.int .i64 0) (.slice none 0 0) 29
  obtain ⟨Q, hQ⟩ : ∃ Q, w.heap.size = Q := ⟨_, rfl⟩
  rw [hQ] at b1
  have HQ := Hid.mk hQ
  have C1 := Hid.mk (newm_any D T d hD w1 d0 d1)
  have C2 := Hid.mk (fun W' => sized_any (W : Int) (H : Int) W')
  rw [hz] at C2
  have HT := Hid.mk hT
  have HRd := Hid.mk (hr.keep k1)
  have K1 := Hid.mk k1
  have B1 := Hid.mk b1
  have HD := Hid.mk hD
  have Hh := Hid.mk (And.intro hh (And.intro h1 hzz))
  have HE := Hid.mk hE
  clear hn hf hT hr k1 b1 hz hcst hD hh h1 hzz hE
  go_enter Tryd.func12, Tryd.ntmps12
  go_wp2_with (fail)
  refine C1.out.mono ?_
  rintro e w2 ⟨P, rfl, m2, hP, k2⟩
  have K2 := Hid.mk k2
  have M2 := Hid.mk m2
  have HP := Hid.mk hP
  clear k2 m2 hP C1
  go_wp2_with (fail)
  refine (C2.out _).mono ?_
  rintro e w3 ⟨rfl, hw3⟩
  obtain rfl := hw3.symm
  clear hw3 C2
  go_wp2_with (fail)
  refine (newWalk_any P W H n D w2 (by omega) (by omega) HN.out.symm).mono ?_
  rintro e w4 ⟨X, G, rfl, a1, a2, a3, a4, k4⟩
  have R4 := Hid.mk (And.intro a1 (And.intro a2 (And.intro (Nat.le_trans K2.out.size a3) (And.intro (Nat.le_trans K2.out.size a4) k4))))
  clear a1 a2 a3 a4 k4
  go_wp2_with (fail)
  refine (newDecoder_any ao cap m l n P X G W D w4 ((HRd.out.keep K2.out).keep R4.out.2.2.2.2) hby hm hl).mono ?_
  rintro e w5 ⟨B, O, g, rfl, b1, b2, b3, b4, b5, b6⟩
  obtain ⟨a1, a2, a3, a4, k4⟩ := R4.out
  have hs4 : w1.heap.size ≤ w4.heap.size := (K2.out.trans k4).size
  have h5 : Dm w1 B P X G O g T d D W n l w5 (wk0 T d) 0 := by
    refine ⟨⟨b1, M2.out.keep (k4.trans b6) (by simp), a1.kept b6 (by simp), ⟨_, b6.heap a2 (by simp), by simp, fun i hi => ?_⟩, .inr rfl⟩, b2, K2.out.trans (k4.trans b6), HT.out.kept K1.out (by simp), by omega, HP.out, a3, a4, by omega, by omega⟩
    have : i < 0 := hi
    omega
  have C5 := Hid.mk (read_coded w1 B P X G O g T d D W H n l f w5 hG HD.out (by omega) (by omega) (by omega) HN.out Hf.out J HE.out Hh.out.1 Hh.out.2.1 Hh.out.2.2 h5)
  clear b1 b2 b3 b4 b5 b6 h5 a1 a2 a3 a4 k4 hs4
  go_wp2_with (fail)
  refine C5.out.mono ?_
  rintro e w6 ⟨rfl, h6⟩
  have c4 := h6.wm.fact.c4
  have B6 := Hid.mk (h6.keep.heap B1.out (by simp))
  obtain ⟨z0, z1, z2, zf⟩ := cells_three B6.out
  have zf0 := zf 0
  have zf1 := zf 1
  have zf2 := zf 2
  have H6 := Hid.mk h6
  clear h6 zf C5
  go_wp2
  have k7 : Kept [Q] w6 (((w6.setCell ⟨Q, 0, none⟩ (.int .i64 (W : Int))).setCell ⟨Q, 1, none⟩ (.int .i64 (H : Int))).setCell ⟨Q, 2, none⟩ (.slice (some ⟨G, 0, none⟩) n n)) :=
    (((Kept.refl [Q] w6).setCell (p := ⟨Q, 0, none⟩) (by simp) _).setCell (p := ⟨Q, 1, none⟩) (by simp) _).setCell (p := ⟨Q, 2, none⟩) (by simp) _
  have hlo := H6.out.lo
  have hs1 := K1.out.size
  have hQs := HQ.out
  have hsm : Smp w6 G 0 n (sw T d W f J).b := fun i hi => by
    rw [Nat.zero_add]
    exact H6.out.wm.cel i (by rw [HE.out.fin]; exact hi)
  have hQG : Q < w1.heap.size := lt_of_block B1.out
  refine bodyPost_ret (v := .tuple #[.agg #[.int .i64 (W : Int), .int .i64 (H : Int), .slice (some ⟨G, 0, none⟩) n n], .int .i64 0]) (by simp [results, Tryd.results12, go_sem, z0, z1, z2]) rfl ⟨G, rfl, by omega, hsm.keep k7 (by simp; omega), (K1.out.trans H6.out.keep).step k7 (by simp; omega)⟩
end Go.Proofs.YtahoeodpjdbdkaaDoor

namespace Go.Proofs.YtahoeodpjdbdkaaDoor
open Go.RowKit

abbrev f512 : Nat → Int := fun _ => 512
theorem al_x : xw 1023 0 1 f512 1 = (3, 9) := by decide +kernel
theorem al_t : (sw 1023 0 1 f512 1).t = 1 := by decide +kernel
theorem al_b : (sw 1023 0 1 f512 1).b 0 = 512 := by decide +kernel
theorem al_enc : Enc 1023 0 1 1 f512 1 := by
  refine ⟨?_, al_t⟩
  intro i hi
  have e : i = 0 := by omega
  subst e
  exact Nat.zero_lt_one
theorem al_one (j : Nat) (h : Enc 1023 0 1 1 f512 j) : j = 1 := by
  rcases Nat.lt_trichotomy j 1 with h1 | h1 | h1
  · have e : j = 0 := by omega
    subst e
    have h2 := h.fin
    have e : (stp 1023 0 1 (cE 1023 0 1 f512) (wk0 1023 0) 0).t = 0 := rfl
    rw [e] at h2
    exact absurd h2 (by decide)
  · exact h1
  · have h2 := h.all 1 h1
    rw [al_t] at h2
    exact absurd h2 (by decide)
theorem al_by : byts (3, 9) = [1, 128] ∧ nby (3, 9) = 2 := by decide +kernel
theorem al_raw : (rsz ((1 : Nat) : Int) ((1 : Nat) : Int) 10).1 = 3 := by decide +kernel
theorem al_sz : szd ((1 : Nat) : Int) ((1 : Nat) : Int) = true := by decide +kernel
theorem al_hold : Holds [1, 128] (3, 9) ∧ 8 * [1, 128].length - (3, 9).2 < 8 ∧ nextN [1, 128] (3, 9).2 (8 * [1, 128].length - (3, 9).2) = 0 := by
  refine ⟨⟨by decide, by decide +kernel⟩, by decide, by decide +kernel⟩

set_option maxHeartbeats 2000000 in
theorem al_enc_call (sb : Nat) (w : World) (hs : w.heap[sb]? = some (.cells #[.int .u16 512] 41 (0, 0))) (hT : Tab w) :
    Calls Tryd.prog 11 #[.agg #[.int .i64 1, .int .i64 1, .slice (some ⟨sb, 0, none⟩) 1 1], .int .i64 10, .int .i64 0] w fun e w' => ∃ g, e = .returned (.tuple #[.slice (some ⟨g, 0, none⟩) 2 2, .int .i64 0]) ∧ w.heap.size ≤ g ∧ w'.heap[g]? = some (.cells ([1, 128].map byt).toArray 5 (0, 0)) ∧ Kept [] w w' := by
  have hsm : Smp w sb 0 1 f512 := fun i hi => by
    obtain rfl : i = 0 := by omega
    simp [World.cell?, hs]
  refine (Encode_coded 1 1 1 sb 0 1 10 1023 0 f512 w hsm hT al_sz rfl (.inl ⟨rfl, rfl⟩) (by omega) (by omega) (fun i => by show (0 : Int) ≤ 512 ∧ (512 : Int) ≤ 1023; omega) (fun j hj => by
    rw [al_one j hj, al_x, al_by.2, al_raw]; decide)).mono ?_
  rintro e w' ⟨j, g, hj, rfl, hg, hb, hk⟩
  rw [al_one j hj, al_x] at hb
  rw [al_by.1] at hb
  refine ⟨g, ?_, hg, hb, hk⟩
  rw [al_one j hj, al_x, al_by.2]

set_option maxHeartbeats 2000000 in
theorem al_dec_call (g : Nat) (w : World) (hs : w.heap[g]? = some (.cells #[.int .u8 1, .int .u8 128] 5 (0, 0))) (hT : Tab w) :
    Calls Tryd.prog 12 #[.slice (some ⟨g, 0, none⟩) 2 2, .int .i64 1, .int .i64 1, .int .i64 10, .int .i64 0] w fun e w' => ∃ G, e = .returned (.tuple #[.agg #[.int .i64 1, .int .i64 1, .slice (some ⟨G, 0, none⟩) 1 1], .int .i64 0]) ∧ w.heap.size ≤ G ∧ w'.cell? ⟨G, 0, none⟩ = some (.int .u16 512) ∧ Kept [] w w' := by
  have hr : Reads w (some ⟨g, 0, none⟩) [1, 128] := .inr ⟨g, 0, rfl, fun i hi => by
    have : i = 0 ∨ i = 1 := by simp at hi; omega
    rcases this with rfl | rfl <;> simp [World.cell?, hs, byt]⟩
  have hh := al_hold
  rw [← al_x] at hh
  refine (Decode_coded 1 1 1 (some ⟨g, 0, none⟩) 2 2 [1, 128] 10 1023 0 f512 w hr (fun b hb => by simp at hb; omega) rfl (by omega) hT al_sz rfl (.inl ⟨rfl, rfl⟩) (by omega) (by omega) (fun i => by show (0 : Int) ≤ 512 ∧ (512 : Int) ≤ 1023; omega) 1 al_enc hh.1 hh.2.1 hh.2.2).mono ?_
  rintro e w' ⟨G, rfl, hG, hS, hk⟩
  have := hS 0 (by omega)
  rw [al_b] at this
  exact ⟨G, rfl, hG, this, hk⟩

set_option maxHeartbeats 4000000 in
set_option maxRecDepth 100000 in
theorem alive_any (w : World) (hT : Tab w) : Calls Tryd.prog 7 #[] w fun e w' => e = .returned (.bool true) ∧ Kept [] w w' := by
  have HT := Hid.mk hT
  clear hT
  go_enter Tryd.func7, Tryd.ntmps7
  go_wp2_with (fail)
  obtain ⟨w1, hw1, k1⟩ : ∃ w1, w.alloc (.cells #[.int .u16 512] 41 (0, 0)) = w1 ∧ Kept [] w w1 := ⟨_, rfl, alloc_kept _ _⟩
  have b1 : w1.heap[w.heap.size]? = some (.cells #[.int .u16 512] 41 (0, 0)) := by rw [← hw1]; exact heap_alloc_new _ _
  rw [hw1]
  refine (al_enc_call w.heap.size w1 b1 (HT.out.kept k1 (by simp))).mono ?_
  rintro e w2 ⟨g, rfl, hg, hb, k2⟩
  have K2 := Hid.mk (k1.trans k2)
  have HB := Hid.mk hb
  have Hg := Hid.mk hg
  clear hw1 k1 b1 k2 hb hg
  go_wp2_with (fail)
  obtain ⟨w3, hw3, k3⟩ : ∃ w3, w2.alloc (.cells #[.int .u8 1, .int .u8 128] 5 (0, 0)) = w3 ∧ Kept [] w2 w3 := ⟨_, rfl, alloc_kept _ _⟩
  have b3 : w3.heap[w2.heap.size]? = some (.cells #[.int .u8 1, .int .u8 128] 5 (0, 0)) := by rw [← hw3]; exact heap_alloc_new _ _
  rw [hw3]
  refine (al_dec_call w2.heap.size w3 b3 (HT.out.kept (K2.out.trans k3) (by simp))).mono ?_
  rintro e w4 ⟨G, rfl, hG, hc, k4⟩
  have K4 := Hid.mk (K2.out.trans (k3.trans k4))
  have b4 := (k3.trans k4).heap HB.out (by simp)
  obtain ⟨w5, hw5, k5, b5⟩ := three_new w4 (.int .i64 1) (.int .i64 1) (.slice (some ⟨G, 0, none⟩) 1 1) 29
  have es : bstr [1, 128] = ⟨#[1, 128]⟩ := by decide +kernel
  have hst : Sem.run Tryd.prog (convert 32 9 (.slice (some ⟨g, 0, none⟩) 2 2)) w5 = .ok (.string ⟨#[1, 128]⟩) w5 := by
    have := str_run (w := w5) (cap := 2) (l := [1, 128]) (rest := []) (by simpa using k5.heap b4 (by simp))
    rw [es] at this
    exact this
  have hc5 : w5.cell? ⟨G, 0, none⟩ = some (.int .u16 512) := by
    rw [← hc]; exact World.cell?_of_block (a := ⟨G, 0, none⟩) (k5.block G (World.block_lt_of_cell? w4 _ hc) (by simp))
  obtain ⟨z0, z1, z2⟩ := agg3' b5
  have K5 := Hid.mk (K4.out.trans k5)
  clear hw3 k3 b3 k4 hG HB K2 b4 k5 b5 es hc K4
  go_wp2
  go_ret
  exact ⟨rfl, K5.out⟩
end Go.Proofs.YtahoeodpjdbdkaaDoor

namespace Go.Proofs.YtahoeodpjdbdkaaDoor
open Go.RowKit

set_option maxHeartbeats 1000000 in
set_option maxRecDepth 100000 in
theorem names_any (w : World) (hT : Tab w) : Calls Tryd.prog 3 #[] w fun e w' => e = .returned (.bool true) ∧ Kept [] w w' := by
  have C := Hid.mk (alive_any w hT)
  clear hT
  go_enter Tryd.func3, Tryd.ntmps3
  go_wp2_with (go_at_call 7; refine C.out.mono ?_; rintro e w1 ⟨rfl, k1⟩)
  go_ret
  exact ⟨rfl, k1⟩

set_option maxHeartbeats 1000000 in
set_option maxRecDepth 100000 in
theorem sizes_any (a b c : Int) (w : World) (hT : Tab w) : Calls Tryd.prog 4 #[.int .i64 a, .int .i64 b, .int .i64 c] w fun e w' => e = .returned (.bool true) ∧ Kept [] w w' := by
  have C := Hid.mk (alive_any w hT)
  have C1 := Hid.mk (fun W => rawSize_any a b c W)
  have C2 := Hid.mk (fun W => rawSizeD_any a b c W)
  generalize (rsz a b c).1 = x at *
  generalize (rsz a b c).2 = y at *
  clear hT
  go_enter Tryd.func4, Tryd.ntmps4
  go_wp2_with (first | (go_at_call 7; refine C.out.mono ?_; rintro e w1 ⟨rfl, k1⟩) | (go_at_call 8; refine (C1.out _).mono ?_; rintro e w2 ⟨rfl, rfl⟩) | (go_at_call 9; refine (C2.out _).mono ?_; rintro e w3 ⟨rfl, rfl⟩))
  go_ret
  exact ⟨rfl, k1⟩
end Go.Proofs.YtahoeodpjdbdkaaDoor
