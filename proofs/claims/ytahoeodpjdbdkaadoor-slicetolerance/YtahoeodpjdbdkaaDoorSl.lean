import Derived.Test.YtahoeodpjdbdkaaDoorSk
namespace Go.Proofs.YtahoeodpjdbdkaaDoor
open Go.RowKit

set_option maxHeartbeats 4000000 in
set_option maxRecDepth 1000000 in
theorem newCoder_any (sb so n sc P X G W : Nat) (d D : Int) (w : World) :
    Calls Tryd.prog 25 #[.slice (some ⟨sb, so, none⟩) n sc, .int .i64 d, .agg (wc W D P X G n 0 []).toArray] w fun e w' => ∃ B O, e = .returned (.pointer (some ⟨B, 0, none⟩)) ∧ w'.heap[B]? = some (.cells (wc W D P X G n 0 (cext sb so n sc d O)).toArray 65 (0, 0)) ∧ WriterAt w' O (.slice none 0 0) 0 0 ∧ w.heap.size ≤ B ∧ w.heap.size ≤ O ∧ Kept [] w w' := by
  obtain ⟨w1, hw1, k1, b1⟩ := six_new w (wc W D P X G n 0 []) 52
  obtain ⟨Q, hQ⟩ : ∃ Q, w.heap.size = Q := ⟨_, rfl⟩
  rw [hQ] at b1
  obtain ⟨⟨y0, y1, y2, y3, y4, y5⟩, -⟩ := six_cells b1
  have C := Hid.mk (fun W' (hk : Kept [] w1 W') => (newWriter_any W').mono (R' := fun e w' => ∃ O : Nat, e = .returned (.pointer (some ⟨O, 0, none⟩)) ∧ Hid (O = W'.heap.size ∧ WriterAt w' O (.slice none 0 0) 0 0 ∧ Kept [] W' w') ∧ w'.cell? ⟨Q, 0, none⟩ = some (.int .i64 (W : Int)) ∧ w'.cell? ⟨Q, 1, none⟩ = some (.int .i64 D) ∧ w'.cell? ⟨Q, 2, none⟩ = some (.pointer (some ⟨P, 0, none⟩)) ∧ w'.cell? ⟨Q, 3, none⟩ = some (.pointer (some ⟨X, 0, none⟩)) ∧ w'.cell? ⟨Q, 4, none⟩ = some (.slice (some ⟨G, 0, none⟩) n n) ∧ w'.cell? ⟨Q, 5, none⟩ = some (.int .i64 0)) (by
    rintro e w' ⟨rfl, rfl⟩
    have hb' := (hk.trans (alloc_kept W' (.cells #[.slice none 0 0, .int .u64 0, .int .i64 0] 107))).heap b1 (by simp)
    obtain ⟨x, y⟩ := six_cells hb'
    exact ⟨_, rfl, Hid.mk ⟨rfl, newWriter_at W', alloc_kept _ _⟩, x⟩))
  have K1 := Hid.mk k1
  have hlt := lt_of_block b1
  replace hw1 : w.alloc (.cells #[.int .i64 (W : Int), .int .i64 D, .pointer (some ⟨P, 0, none⟩), .pointer (some ⟨X, 0, none⟩), .slice (some ⟨G, 0, none⟩) n n, .int .i64 0] 52 (0, 0)) = w1 := hw1
  clear b1 k1
  go_enter Tryd.func25, Tryd.ntmps25
  go_wp2
  go_region_with (first | (go_at_call 42; refine (C.out _ (by with_reducible exact (Kept.refl _ _).drew)).mono ?_; rintro e w2 ⟨O, rfl, R2, t0, t1, t2, t3, t4, t5⟩))
  all_goals
    clear C t0 t1 t2 t3 t4 t5 y0 y1 y2 y3 y4 y5
    go_wp2
    go_ret
    obtain ⟨e1, hX, k2⟩ := R2.out
    have k3 := alloc_kept w2 (.cells (wc W D P X G n 0 (cext sb so n sc d O)).toArray 65)
    refine ⟨w2.heap.size, O, rfl, heap_alloc_new w2 (.cells (wc W D P X G n 0 (cext sb so n sc d O)).toArray 65), hX.kept k3 (by simp) (by simp), (K1.out.trans k2.undrew).size, by rw [e1]; exact K1.out.size, (K1.out.trans k2.undrew).trans k3⟩

/-- How a walk begins. -/
def wk0 (T d : Int) : Wk := ⟨fun _ => sx0 T d, 0, fun _ => 0, 0⟩
theorem wk0_in {T d : Int} (G : Gd T d) : (wk0 T d).In T := ⟨fun _ => sx0_fit T d G, by show 0 ≤ 22; omega, fun i hi => by have : i < 0 := hi; omega⟩

/-- What a coder has laid down: the rounds are j. -/
structure Enc (T d : Int) (W n : Nat) (f : Nat → Int) (j : Nat) : Prop where
  all : ∀ i, i < j → (stp T d W (cE T d W f) (wk0 T d) i).t < n
  fin : (stp T d W (cE T d W f) (wk0 T d) j).t = n

theorem put8 (O : Nat) (w : World) (hw : WriterAt w O (.slice none 0 0) 0 0) :
    Calls Tryd.prog 43 #[.pointer (some ⟨O, 0, none⟩), .int .u32 1, .int .i64 8] w fun e w' => e = .returned (.int .i64 0) ∧ ∃ V', WriterAt w' O V' 1 8 ∧ Kept [O] w w' ∧ Lies w (.slice none 0 0) V' := by
  refine (put_any O (.slice none 0 0) 0 0 1 8 w hw (by omega) (by omega) (by omega) (by decide) (by omega)).mono ?_
  rintro e w' ⟨rfl, V', h1, h2, h3⟩
  exact ⟨rfl, V', h1, h2, h3⟩

set_option maxHeartbeats 4000000 in
set_option maxRecDepth 1000000 in
theorem write_any (w0 : World) (B P X G O : Nat) (T d D : Int) (W H n sb so sc : Nat) (f : Nat → Int) (w : World) (hG : Gd T d) (hD : Dp D T) (hn : n ≤ 4194304) (hW : 1 ≤ W) (hW2 : W ≤ 4096) (hWH : n = W * H) (hf : ∀ i, 0 ≤ f i ∧ f i ≤ T)
    (h : Cm w0 B P X G O T d D W n sb so sc f w (wk0 T d) (0, 0)) (hwr : WriterAt w O (.slice none 0 0) 0 0) :
    Calls Tryd.prog 26 #[.pointer (some ⟨B, 0, none⟩)] w fun e w' => ∃ j g, Enc T d W n f j ∧ Cm w0 B P X G O T d D W n sb so sc f w' (stp T d W (cE T d W f) (wk0 T d) j) (wrt T d W (cE T d W f) (wk0 T d) j) ∧ w0.heap.size ≤ g ∧
      e = .returned (.slice (some ⟨g, 0, none⟩) (((wrt T d W (cE T d W f) (wk0 T d) j).2 + 7) / 8) (((wrt T d W (cE T d W f) (wk0 T d) j).2 + 7) / 8)) ∧
      w'.heap[g]? = some (.cells ((big (((wrt T d W (cE T d W f) (wk0 T d) j).2 + 7) / 8) ((wrt T d W (cE T d W f) (wk0 T d) j).1 * 2 ^ (8 * (((wrt T d W (cE T d W f) (wk0 T d) j).2 + 7) / 8) - (wrt T d W (cE T d W f) (wk0 T d) j).2))).map byt).toArray 5 (0, 0)) := by
  have C0 := Hid.mk (put8 O w hwr)
  obtain ⟨e6, e7, e8⟩ := ext_cells h.wm
  have HC := Hid.mk h
  have hmf : ∀ (fn : Fn) (first cap : Array Value) (w : World), (Instr.makeFunc fn first cap).run Tryd.prog w = .ok (.func fn first cap) w := fun _ _ _ _ => rfl
  clear h
  go_enter Tryd.func26, Tryd.ntmps26
  go_wp2_with (go_at_call 43; refine C0.out.mono ?_; rintro e w1 ⟨rfl, V1, hw1, k1, l1⟩)
  have h1 : Cm w0 B P X G O T d D W n sb so sc f w1 (wk0 T d) (1, 8) := by
    have h := HC.out
    obtain ⟨cs, hr, hl, hc⟩ := h.wm.row
    obtain ⟨ps, hp, _⟩ := h.wm.md.blk
    have hlo := h.lo
    refine ⟨h.wm.keep k1 ⟨?_, ?_, ?_, ?_⟩, ⟨V1, hw1, ?_⟩, h.keep.step k1 (fun y hy => by right; simp at hy; omega), h.smp, h.tab, h.lo⟩
    · simp; exact ne_ty h.wm.blk hwr.1 (by decide)
    · simp; exact ne_ty hp hwr.1 (by decide)
    · simp; exact ne_ty h.wm.co.1 hwr.1 (by decide)
    · simp; exact ne_ty hr hwr.1 (by decide)
    · intro g hg
      rcases l1 with h' | ⟨g', hg', hl'⟩
      · rw [h'] at hg; simp [Value.ownBlock] at hg
      · rw [hg'] at hg; simp at hg; subst hg
        have := h.keep.size; omega
  have HC1 := Hid.mk h1
  clear hw1 k1 l1 h1 e6 e7 e8 C0 hwr
  refine (through44 B P X G 65 T d D W H n (cext sb so n sc d O) (cdr T d W f) (Cm w0 B P X G O T d D W n sb so sc f) (fun _ _ => False) hD hG hn hW hW2 hWH (wk0 T d) (1, 8) (chnd w0 B P X G O T d D W H n sb so sc f hG hn hW hW2 hWH hf (wk0 T d)) w1 HC1.out (wk0_in hG) (by show 0 ≤ n; omega)).mono ?_
  rintro e w2 (⟨rfl, s2, x2, hR, ht, -, h2⟩ | ⟨pc, s2, x2, -, -, -, -, hF⟩)
  · obtain ⟨j, rfl, rfl, hj⟩ := rch_cdr hR
    have hl := wrt_len hG (cE T d W f) (wk0 T d) hW j
    rw [ht] at hl
    obtain ⟨e6, e7, e8⟩ := ext_cells h2.wm
    obtain ⟨V, hwr, hV⟩ := h2.wr
    have C3 := Hid.mk (bytes_any O V _ _ w2 hwr (by have : (2 : Nat) ^ 50 = 1125899906842624 := by decide
                                                    omega))
    have HE : Hid (Enc T d W n f j) := Hid.mk ⟨hj, ht⟩
    have H2 := Hid.mk h2
    clear hR ht h2 hj hl hwr hV hmf HC HC1
    obtain ⟨xx, hxx⟩ : ∃ xx, wrt T d W (cE T d W f) (wk0 T d) j = xx := ⟨_, rfl⟩
    obtain ⟨ss, hss⟩ : ∃ ss, stp T d W (cE T d W f) (wk0 T d) j = ss := ⟨_, rfl⟩
    rw [hxx] at C3 H2
    rw [hss] at H2
    have Hx := Hid.mk hxx
    have Hs := Hid.mk hss
    clear hxx hss
    go_wp2_with (go_at_call 46; refine C3.out.mono ?_; rintro e w3 ⟨rfl, hb, k3⟩)
    go_ret
    refine ⟨j, w2.heap.size, HE.out, ?_, H2.out.keep.size, ?_, ?_⟩
    · rw [Hx.out, Hs.out]; exact H2.out.kp k3
    · rw [Hx.out]; rfl
    · rw [Hx.out]; exact hb
  · exact hF.elim
end Go.Proofs.YtahoeodpjdbdkaaDoor
