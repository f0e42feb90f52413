import Derived.Test.YtahoeodpjdbdkabDoorEdZ
namespace Go.Proofs.YtahoeodpjdbdkabDoor
open Go.RowKit

/-- Raw bits of the first samples. -/
def rwb (D : Nat) (f : Nat → Int) : Nat → Nat × Nat
  | 0 => (0, 8)
  | k + 1 => ap (rwb D f k) D (f k).toNat
theorem rwb_len (D : Nat) (f : Nat → Int) (k : Nat) : (rwb D f k).2 = 8 + D * k := by
  induction k with
  | zero => rfl
  | succ k ih => show (rwb D f k).2 + D = _; rw [ih, Nat.mul_succ]; omega

theorem Dp.up {D T v : Int} (h : Dp D T) (h0 : 0 ≤ v) (h1 : v ≤ T) : v.toNat < 2 ^ D.toNat := by
  rcases h with ⟨rfl, rfl⟩ | ⟨rfl, rfl⟩
  · show v.toNat < 1024; omega
  · show v.toNat < 4096; omega
theorem put8z (O : Nat) (w : World) (hw : WriterAt w O (.slice none 0 0) 0 0) :
    Calls Tryd.prog 42 #[.pointer (some ⟨O, 0, none⟩), .int .u32 0, .int .i64 8] w fun e w' => e = .returned (.int .i64 0) ∧ ∃ V', WriterAt w' O V' 0 8 ∧ Kept [O] w w' ∧ Lies w (.slice none 0 0) V' := by
  refine (put_any O (.slice none 0 0) 0 0 0 8 w hw (by omega) (by omega) (by omega) (by decide) (by omega)).mono ?_
  rintro e w' ⟨rfl, V', h1, h2, h3⟩
  exact ⟨rfl, V', h1, h2, h3⟩

/-- A writer that began behind w0. -/
structure Wr (w0 w : World) (O : Nat) (x : Nat × Nat) : Prop where
  at_ : ∃ V, WriterAt w O V x.1 x.2 ∧ ∀ g, V.ownBlock = some g → w0.heap.size ≤ g
  lo : w0.heap.size ≤ O
  keep : Kept [] w0 w
theorem Wr.step {w0 w w' : World} {O : Nat} {x x' : Nat × Nat} {V V' : Value} (h : Wr w0 w O x) (hV : ∀ g, V.ownBlock = some g → w0.heap.size ≤ g) (hw : WriterAt w' O V' x'.1 x'.2) (hk : Kept (O :: V.ownBlock.toList) w w') (hl : Lies w V V') : Wr w0 w' O x' := by
  refine ⟨⟨V', hw, ?_⟩, h.lo, h.keep.step hk ?_⟩
  · intro g hg
    rcases hl with e | ⟨g', hg', hl'⟩
    · rw [e] at hg; exact hV g hg
    · rw [hg'] at hg; simp at hg; subst hg
      have := h.keep.size; omega
  · intro y hy
    right
    rcases List.mem_cons.1 hy with rfl | hy
    · exact h.lo
    · exact hV y (by simpa using hy)

set_option maxHeartbeats 4000000 in
set_option maxRecDepth 1000000 in
theorem rawOf_any (sb so n sc : Nat) (D T : Int) (f : Nat → Int) (w : World) (hs : Smp w sb so n f) (hD : Dp D T) (hn : n ≤ 4194304) (hf : ∀ i, 0 ≤ f i ∧ f i ≤ T) :
    Calls Tryd.prog 26 #[.slice (some ⟨sb, so, none⟩) n sc, .int .i64 D] w fun e w' => ∃ g, e = .returned (.slice (some ⟨g, 0, none⟩) (nby (rwb D.toNat f n)) (nby (rwb D.toNat f n))) ∧ w.heap.size ≤ g ∧ w'.heap[g]? = some (.cells ((byts (rwb D.toNat f n)).map byt).toArray 5 (0, 0)) ∧ Kept [] w w' := by
  have hd := hD.mid
  have hT : T ≤ 4095 := by rcases hD with ⟨_, h⟩ | ⟨_, h⟩ <;> omega
  have HD := Hid.mk hD
  have HS := Hid.mk hs
  have Hf := Hid.mk hf
  clear hD hs hf
  go_enter Tryd.func26, Tryd.ntmps26
  go_wp2_with (fail)
  refine (newWriter_any w).mono ?_
  rintro e w1 ⟨rfl, hw1⟩
  obtain ⟨O, hO⟩ : ∃ O, w.heap.size = O := ⟨_, rfl⟩
  have a1 := newWriter_at w
  have k1 := alloc_kept w (.cells #[.slice none 0 0, .int .u64 0, .int .i64 0] 112)
  rw [← hw1] at a1 k1
  rw [hO] at a1 ⊢
  have HO := Hid.mk hO
  have K1 := Hid.mk k1
  have A1 := Hid.mk a1
  clear hw1 hO a1 k1
  go_wp2_with (fail)
  refine (put8z O w1 A1.out).mono ?_
  rintro e w2 ⟨rfl, V2, a2, k2, l2⟩
  have W2 : Hid (Wr w w2 O (0, 8)) := Hid.mk ⟨⟨V2, a2, fun g hg => by
    rcases l2 with e | ⟨g', hg', hl'⟩
    · rw [e] at hg; simp [Value.ownBlock] at hg
    · rw [hg'] at hg; simp at hg; subst hg
      have := K1.out.size; omega⟩, by have := HO.out; omega, K1.out.step k2 (by simp; have := HO.out; omega)⟩
  clear a2 k2 l2 A1
  go_wp2_with (fail)
  go_loopw [13] (fun i wr => ∃ k : Nat, k ≤ n ∧ i = .int .i64 (k : Int) ∧ Wr w wr O (rwb D.toNat f k)) (fun i _ => n - (intOf i).toNat)
  case atStart => exact ⟨0, by omega, rfl, W2.out⟩
  case round =>
    obtain ⟨k, hk, rfl, hw⟩ := hrel
    have HW := Hid.mk hw
    have c := (HS.out.keep hw.keep (by simp))
    by_cases hlt : k < n
    · have c := c k hlt
      have fv := Hf.out k
      have up := Hid.mk (HD.out.up fv.1 fv.2)
      obtain ⟨v, hv⟩ : ∃ v, f k = v := ⟨_, rfl⟩
      rw [hv] at c fv up
      have HV := Hid.mk hv
      have ix : (k : Int) < n := by omega
      have wv : IntKind.u32.wrap v = v := by simp only [IntKind.wrap, IntKind.bits, IntKind.signed]; simp; omega
      obtain ⟨V, a, hV⟩ := hw.at_
      have hlen := rwb_len D.toNat f k
      have hmul : D.toNat * k ≤ 12 * 4194304 := Nat.mul_le_mul (by omega) (by omega)
      have C := Hid.mk (put_any O V (rwb D.toNat f k).1 (rwb D.toNat f k).2 v D wr a (by omega) (by omega) fv.1 up.out (by omega))
      have A := Hid.mk (And.intro a hV)
      clear hw hv a hV hlen hmul
      go_wp2_with (fail)
      refine C.out.mono ?_
      rintro e w3 ⟨rfl, V3, a3, k3, l3⟩
      have W3 : Hid (Wr w w3 O (rwb D.toNat f (k + 1))) := Hid.mk (HW.out.step A.out.2 (by show WriterAt w3 O V3 ((rwb D.toNat f k).1 * 2 ^ D.toNat + (f k).toNat) ((rwb D.toNat f k).2 + D.toNat); rw [HV.out]; exact a3) k3 l3)
      clear a3 k3 l3 C A c
      go_wp2
      go_roundw
      case rel => exact ⟨k + 1, by omega, by go_num, W3.out⟩
      case measure => simp [intOf]; omega
    · obtain rfl : n = k := by omega
      have hlen := rwb_len D.toNat f n
      have hmul : D.toNat * n ≤ 12 * 4194304 := Nat.mul_le_mul (by omega) (by omega)
      obtain ⟨V, a, hV⟩ := hw.at_
      have h50 : (2 : Nat) ^ 50 = 1125899906842624 := by decide
      have C := Hid.mk (bytes_any O V _ _ wr a (by omega))
      clear h50
      obtain ⟨xx, hxx⟩ : ∃ xx, rwb D.toNat f n = xx := ⟨_, rfl⟩
      rw [hxx] at C
      have Hx := Hid.mk hxx
      clear hw a hV hlen hmul c hxx
      go_wp2_with (fail)
      refine C.out.mono ?_
      rintro e w3 ⟨rfl, b3, k3⟩
      have B3 := Hid.mk b3
      have K3 := Hid.mk k3
      clear b3 k3
      go_wp2
      go_ret
      refine ⟨wr.heap.size, ?_, HW.out.keep.size, ?_, HW.out.keep.trans K3.out⟩
      · rw [Hx.out]; rfl
      · rw [Hx.out]; exact B3.out
/-- The first values of a function, as a list. -/
def fl (f : Nat → Value) (n : Nat) : List Value := (List.range n).map f
theorem fl_length (f : Nat → Value) (n : Nat) : (fl f n).length = n := by simp [fl]
theorem fl_at (f : Nat → Value) (n i : Nat) (h : i < n) : (fl f n)[i]? = some (f i) := by simp [fl, h]

set_option maxHeartbeats 4000000 in
set_option maxRecDepth 1000000 in
/-- slices.Clone of samples. -/
theorem clone_any (sb so n sc : Nat) (f : Nat → Int) (w : World) (hs : Smp w sb so n f) (hn : n ≤ 4194304) :
    Calls Tryd.prog 27 #[.slice (some ⟨sb, so, none⟩) n sc] w fun e w' => ∃ g1 c1, e = .returned (.slice (some ⟨g1, 0, none⟩) n c1) ∧ w.heap.size ≤ g1 ∧ Smp w' g1 0 n f ∧ Kept [] w w' := by
  obtain ⟨j0, gi, gz0, gz1, gz2⟩ := info_parts Tryd.info39
  have ho : (w.alloc (.cells #[] 39)).ownsRow w.heap.size 39 1 (.slice (some ⟨w.heap.size, 0, none⟩) 0 0) 0 ([] : List Value) := World.ownsRow_lit w #[] 0 (Nat.le_refl _) (by decide) rfl
  have HO := Hid.mk ho
  have hq : ∀ W : World, (binOp BinOp.eql 22 (.slice (some ⟨sb, so, none⟩) n sc) (.slice none 0 0)).run Tryd.prog W = .ok (.bool false) W := fun W => by
    have := Lib.run_eql_slice_nil (P := Tryd.prog) W 22 39 (some ⟨sb, so, none⟩) n sc 0 0 Tryd.underlying22
    simpa using this
  have H0 := Hid.mk hs
  clear ho hs
  go_enter Tryd.func27, Tryd.ntmps27
  go_wp2_with (at_builtin; refine wpList_append_own_at _ rfl _ _ 22 rfl w.heap.size 39 j0 (.int .u16 0) 1 2 Tryd.underlying22 gi gz0 gz1 gz2 rfl (by decide) _ 0 [] rfl HO.out ⟨sb, so, none⟩ n sc (fl (fun i => .int .u16 (f i)) n) rfl ?c1 ?c2 ?c3 ?c4 ?c5 ?c6 ?_)
  case c1 => rw [fl_length, Nat.mul_one]
  case c2 =>
    intro j x hj
    have hjm : j < n := by
      rcases Nat.lt_or_ge j n with h | h
      · exact h
      · rw [List.getElem?_eq_none (by rw [fl_length]; exact h)] at hj; cases hj
    rw [fl_at _ _ _ hjm] at hj
    cases hj
    rw [show (⟨sb, so, none⟩ : Addr).add j = ⟨sb, so + j, none⟩ by unfold Addr.add; split <;> simp_all]
    exact (H0.out.keep (alloc_kept w _) (by simp)) j hjm
  case c3 =>
    intro x hx
    simp only [fl, List.mem_map] at hx
    obtain ⟨i, _, rfl⟩ := hx
    rfl
  case c4 => unfold maxLen; omega
  case c5 => omega
  case c6 => rw [World.size_alloc]; omega
  intro v' w' h2 h3 h4 _
  have hk : Kept [] w w' := (alloc_kept w _).step (Kept.of_grown h3) (fun x hx => by simp [Value.ownBlock] at hx; subst hx; exact .inr (Nat.le_refl _))
  rcases h2.2 with ⟨e, h0⟩ | ⟨g1, cap, cur, e, hb, hg, hc, _, hcs, htk⟩
  · exact absurd e h4
  · subst e
    have HR : Hid (w.heap.size ≤ g1 ∧ Smp w' g1 0 n f ∧ Kept [] w w') := Hid.mk ⟨hb, fun i hi => by
      have hcc := h2.cells (g := g1) rfl i _ (fl_at _ n i hi)
      rwa [show (⟨g1, 0, none⟩ : Addr).add i = ⟨g1, 0 + i, none⟩ by unfold Addr.add; split <;> simp_all] at hcc, hk⟩
    clear h2 h3 h4 hb hg hc hcs htk hk
    go_wp2
    go_ret
    obtain ⟨r1, r2, r3⟩ := HR.out
    exact ⟨g1, cap, rfl, r1, r2, r3⟩
end Go.Proofs.YtahoeodpjdbdkabDoor

namespace Go.Proofs.YtahoeodpjdbdkabDoor
open Go.RowKit

set_option maxHeartbeats 8000000 in
set_option maxRecDepth 1000000 in
/-- A block that may be, raw. -/
theorem encode_raw (W H n sb so sc : Nat) (D T d : Int) (f : Nat → Int) (w : World) (hs : Smp w sb so n f) (hT : Tab w) (hz : szd (W : Int) (H : Int) = true) (hn : n = W * H) (hD : Dp D T) (d0 : 0 ≤ d) (d1 : d ≤ 63) (hf : ∀ i, 0 ≤ f i ∧ f i ≤ T)
    (hc : ∀ j, Enc T d W n f j → ¬ (nby (xw T d W f j) : Int) < (rsz W H D).1) :
    Calls Tryd.prog 15 #[.agg #[.int .i64 (W : Int), .int .i64 (H : Int), .slice (some ⟨sb, so, none⟩) n sc], .int .i64 D, .int .i64 d] w fun e w' => ∃ g G c, e = .returned (.tuple #[.slice (some ⟨g, 0, none⟩) (nby (rwb D.toNat f n)) (nby (rwb D.toNat f n)), .slice (some ⟨G, 0, none⟩) n c, .int .i64 0]) ∧ w.heap.size ≤ g ∧ w.heap.size ≤ G ∧ w'.heap[g]? = some (.cells ((byts (rwb D.toNat f n)).map byt).toArray 5 (0, 0)) ∧ Smp w' G 0 n f ∧ Kept [] w w' := by
  have hb := szd_in hz
  have hcst : (W : Int) * H = (n : Int) := by rw [hn]; simp
  rw [hcst] at hb
  have hG := hD.gd d0 d1
  have HC := Hid.mk hc
  have HN := Hid.mk hn
  have Hf := Hid.mk hf
  obtain ⟨w1, hw1, k1, b1⟩ := three_new w (.int .i64 (W : Int)) (.int .i64 (H : Int)) (.slice (some ⟨sb, so, none⟩) n sc) 24
  obtain ⟨Q, hQ⟩ : ∃ Q, w.heap.size = Q := ⟨_, rfl⟩
  have hQw := hQ
  rw [hQ] at b1
  have C1 := Hid.mk (newm_any D T d hD w1 d0 d1)
  have HT := Hid.mk hT
  have HS := Hid.mk hs
  have K1 := Hid.mk k1
  have B1 := Hid.mk b1
  have C8 := Hid.mk (fun W' => rawSize_any (W : Int) (H : Int) D W')
  have er : (rsz (W : Int) (H : Int) D).2 = 0 := by
    unfold rsz
    rw [if_neg (by rcases hD with ⟨h, _⟩ | ⟨h, _⟩ <;> omega), if_pos hz]
  rw [er] at C8
  obtain ⟨R, hR⟩ : ∃ R, (rsz (W : Int) (H : Int) D).1 = R := ⟨_, rfl⟩
  rw [hR] at C8 HC
  have HZ := Hid.mk hz
  have HD := Hid.mk hD
  obtain ⟨z0, z1, z2⟩ := agg3' b1
  clear hc hn hf hT hs k1 b1 er hR hz hcst hD
  go_enter Tryd.func15, Tryd.ntmps15
  go_wp2_with (fail)
  refine C1.out.mono ?_
  rintro e w2 ⟨P, rfl, m2, hP, k2⟩
  have B2 := Hid.mk (k2.heap B1.out (by simp))
  obtain ⟨y0, y1, y2⟩ := agg3' B2.out
  have K2 := Hid.mk k2
  have M2 := Hid.mk m2
  have HP := Hid.mk hP
  have C2 := Hid.mk (mayBe_yes W H n sb so sc D T f w2 (HS.out.keep (K1.out.trans K2.out) (by simp)) HZ.out HN.out HD.out Hf.out)
  clear k2 m2 hP z0 z1 z2 C1
  go_wp2_with (fail)
  refine C2.out.mono ?_
  rintro e w3 ⟨rfl, k3⟩
  have B3 := Hid.mk (k3.heap B2.out (by simp))
  obtain ⟨z0, z1, z2⟩ := agg3' B3.out
  have K3 := Hid.mk (K2.out.trans k3)
  have M3 := Hid.mk (M2.out.keep k3 (by simp))
  have C3 := Hid.mk (fun W' (hk : Kept [] w3 W') => (newWalk_any P W H n D W' (by omega) (by omega) HN.out.symm).mono (R' := fun e w' => ∃ X G, e = .returned (.agg (wc W D P X G n 0 []).toArray) ∧ Hid (CoderAt w' X 0 ∧ w'.heap[G]? = some (.cells (List.replicate n (.int .u16 0)).toArray 39 (0, 0)) ∧ w1.heap.size ≤ X ∧ w1.heap.size ≤ G ∧ Kept [] w3 w') ∧ w'.cell? ⟨Q, 0, none⟩ = some (.int .i64 (W : Int)) ∧ w'.cell? ⟨Q, 1, none⟩ = some (.int .i64 (H : Int)) ∧ w'.cell? ⟨Q, 2, none⟩ = some (.slice (some ⟨sb, so, none⟩) n sc)) (by
    rintro e w' ⟨X, G, rfl, a1, a2, a3, a4, a5⟩
    have hk' := hk.trans a5
    have hsz := (K3.out.trans hk).size
    exact ⟨X, G, rfl, Hid.mk ⟨a1, a2, Nat.le_trans hsz a3, Nat.le_trans hsz a4, hk'⟩, agg3' (hk'.heap B3.out (by simp))⟩))
  have C4 := Hid.mk (fun W' (hk : Kept [] w3 W') X G => (newCoder_any sb so n sc P X G W d D W').mono (R' := fun e w' => ∃ B O, e = .returned (.pointer (some ⟨B, 0, none⟩)) ∧ Hid (w'.heap[B]? = some (.cells (wc W D P X G n 0 (cext sb so n sc d O)).toArray 71 (0, 0)) ∧ WriterAt w' O (.slice none 0 0) 0 0 ∧ w1.heap.size ≤ B ∧ w1.heap.size ≤ O ∧ Kept [] W' w' ∧ Kept [] w3 w') ∧ w'.cell? ⟨Q, 0, none⟩ = some (.int .i64 (W : Int)) ∧ w'.cell? ⟨Q, 1, none⟩ = some (.int .i64 (H : Int)) ∧ w'.cell? ⟨Q, 2, none⟩ = some (.slice (some ⟨sb, so, none⟩) n sc)) (by
    rintro e w' ⟨B, O, rfl, a1, a2, a3, a4, a5⟩
    have hk' := hk.trans a5
    have hsz := (K3.out.trans hk).size
    exact ⟨B, O, rfl, Hid.mk ⟨a1, a2, Nat.le_trans hsz a3, Nat.le_trans hsz a4, a5, hk'⟩, agg3' (hk'.heap B3.out (by simp))⟩))
  clear k3 y0 y1 y2 C2
  go_wp2_with (fail)
  go_region_held_law (fun w' => w'.cell? ⟨Q, 0, none⟩ = some (.int .i64 (W : Int)) ∧ w'.cell? ⟨Q, 1, none⟩ = some (.int .i64 (H : Int)) ∧ w'.cell? ⟨Q, 2, none⟩ = some (.slice (some ⟨sb, so, none⟩) n sc)) (first | exact ⟨z0, z1, z2⟩ | exact ⟨t0, t1, t2⟩ | exact ⟨r0, r1, r2⟩ | go_keep) (first | (go_at_call 19; refine (C3.out _ (by with_reducible exact (Kept.refl _ _).drew)).mono ?_; rintro e w4 ⟨X, G, rfl, R4, t0, t1, t2⟩) | (go_at_call 23; refine (C4.out _ R4.out.2.2.2.2 X G).mono ?_; rintro e w5 ⟨B, O, rfl, R5, r0, r1, r2⟩))
  obtain ⟨a1, a2, a3, a4, a5⟩ := R4.out
  obtain ⟨b1, b2, b3, b4, b5, b6⟩ := R5.out
  have h5 : Cm w1 B P X G O T d D W n sb so sc f w5 (wk0 T d) (0, 0) := by
    refine ⟨⟨b1, M3.out.keep b6 (by simp), a1.kept b5 (by simp), ⟨_, b5.heap a2 (by simp), by simp, fun i hi => ?_⟩, .inl rfl⟩, ⟨_, b2, fun g hg => by simp [Value.ownBlock] at hg⟩, K3.out.trans b6, HS.out.keep K1.out (by simp), HT.out.kept K1.out (by simp), b3, HP.out, a3, a4, b4⟩
    have : i < 0 := hi
    omega
  have C5 := Hid.mk (write_any w1 B P X G O T d D W H n sb so sc f w5 hG HD.out (by omega) (by omega) (by omega) HN.out Hf.out h5 b2)
  clear a1 a2 a3 a4 a5 b1 b2 b3 b4 b5 b6 h5 R4 R5 C3 C4 t0 t1 t2 r0 r1 r2 z0 z1 z2
  go_wp2_with (fail)
  refine C5.out.mono ?_
  rintro e w6 ⟨j, g, hE, h6, hg, rfl, hb6⟩
  have B6 := Hid.mk (h6.keep.heap B1.out (by simp))
  obtain ⟨z0, z1, z2⟩ := agg3' B6.out
  have hlt := HC.out j hE
  have H6 := Hid.mk h6
  have HB6 := Hid.mk hb6
  have HE := Hid.mk hE
  have Hg := Hid.mk hg
  have nb : ((wrt T d W (cE T d W f) (wk0 T d) j).snd + 7) / 8 = nby (xw T d W f j) := rfl
  rw [nb] at HB6 ⊢
  obtain ⟨L, hL⟩ : ∃ L, nby (xw T d W f j) = L := ⟨_, rfl⟩
  rw [hL] at hlt HB6 ⊢
  have HL := Hid.mk hL
  have K6 := Hid.mk (K1.out.trans h6.keep)
  have C9 := Hid.mk (fun W' (hk : Kept [] w6 W') => (rawOf_any sb so n sc D T f W' (HS.out.keep (K6.out.trans hk) (by simp)) HD.out (by omega) Hf.out).mono (R' := fun e w' => ∃ g, e = .returned (.slice (some ⟨g, 0, none⟩) (nby (rwb D.toNat f n)) (nby (rwb D.toNat f n))) ∧ Hid (w.heap.size ≤ g ∧ w'.heap[g]? = some (.cells ((byts (rwb D.toNat f n)).map byt).toArray 5 (0, 0)) ∧ Kept [] W' w' ∧ Kept [] w6 w') ∧ w'.cell? ⟨Q, 2, none⟩ = some (.slice (some ⟨sb, so, none⟩) n sc)) (by
    rintro e w' ⟨g, rfl, a1, a2, a3⟩
    exact ⟨g, rfl, Hid.mk ⟨Nat.le_trans (K6.out.trans hk).size a1, a2, a3, hk.trans a3⟩, (agg3' ((hk.trans a3).heap B6.out (by simp))).2.2⟩))
  have C10 := Hid.mk (fun W' (hk : Kept [] w6 W') => (clone_any sb so n sc f W' (HS.out.keep (K6.out.trans hk) (by simp)) (by omega)).mono (R' := fun e w' => ∃ G c, e = .returned (.slice (some ⟨G, 0, none⟩) n c) ∧ Hid (w.heap.size ≤ G ∧ Smp w' G 0 n f ∧ Kept [] W' w' ∧ Kept [] w6 w') ∧ w'.cell? ⟨Q, 2, none⟩ = some (.slice (some ⟨sb, so, none⟩) n sc)) (by
    rintro e w' ⟨G, c, rfl, a1, a2, a3⟩
    exact ⟨G, c, rfl, Hid.mk ⟨Nat.le_trans (K6.out.trans hk).size a1, a2, a3, hk.trans a3⟩, (agg3' ((hk.trans a3).heap B6.out (by simp))).2.2⟩))
  obtain ⟨LL, hLL⟩ : ∃ LL, nby (rwb D.toNat f n) = LL := ⟨_, rfl⟩
  rw [hLL] at C9
  have HLL := Hid.mk hLL
  clear h6 hb6 hE hg C5 nb hL hLL
  go_wp2_with (fail)
  refine (C8.out _).mono ?_
  rintro e w7 ⟨rfl, hw7⟩
  obtain rfl := hw7.symm
  clear C8 hw7
  go_wp2
  go_region_held_law (fun w' => w'.cell? ⟨Q, 2, none⟩ = some (.slice (some ⟨sb, so, none⟩) n sc)) (first | exact z2 | exact t2 | exact r2 | go_keep) (first | (go_at_call 26; refine (C9.out _ (by first | with_reducible exact (Kept.refl _ _).drew | exact R8.out.2.2.2)).mono ?_; rintro e w9 ⟨g9, rfl, R9, t2⟩) | (go_at_call 27; refine (C10.out _ (by first | with_reducible exact (Kept.refl _ _).drew | exact R9.out.2.2.2)).mono ?_; rintro e w8 ⟨G8, c8, rfl, R8, r2⟩))
  all_goals
    clear C9 C10 t2 r2
    go_wp2
    (try simp only [Exit.inBlock, Exit.then]); refine bodyPost_ret (results_tmp3 rfl _ _ _) rfl ?_
    obtain ⟨a1, a2, a3, a4⟩ := R9.out
    obtain ⟨b1, b2, b3, b4⟩ := R8.out
    refine ⟨g9, G8, c8, ?_, a1, b1, ?_, ?_, ?_⟩
    · rw [HLL.out]; rfl
    · first | exact a2 | exact b3.heap a2 (by simp)
    · first | exact b2 | exact b2.keep a3 (by simp)
    · first | exact K6.out.trans b4 | exact K6.out.trans a4
end Go.Proofs.YtahoeodpjdbdkabDoor
