import Derived.Test.YtiganmmacmhndaaGreatDoorDcZ
namespace Go.Proofs.YtiganmmacmhndaaGreatDoor
open Go.RowKit

/-- Raw bits of the first samples. -/
def rwb (D : Nat) (f : Nat → Int) : Nat → Nat × Nat
  | 0 => (0, 8)
  | k + 1 => ap (rwb D f k) D (f k).toNat
theorem rwb_len (D : Nat) (f : Nat → Int) (k : Nat) : (rwb D f k).2 = 8 + D * k := by
  induction k with
  | zero => rfl
  | succ k ih => show (rwb D f k).2 + D = _; rw [ih, Nat.mul_succ]; omega

theorem Dp.up {D T v : Int} (h : Dp D T) (h0 : 0 ≤ v) (h1 : v ≤ T) : v.toNat < 2 ^ D.toNat := by
  rcases h with ⟨rfl, rfl⟩ | ⟨rfl, rfl⟩
  · show v.toNat < 1024; omega
  · show v.toNat < 4096; omega
theorem put8z (O : Nat) (w : World) (hw : WriterAt w O (.slice none 0 0) 0 0) :
    Calls Tryz.prog 177 #[.pointer (some ⟨O, 0, none⟩), .int .u32 0, .int .i64 8] w fun e w' => e = .returned (.int .i64 0) ∧ ∃ V', WriterAt w' O V' 0 8 ∧ Kept [O] w w' ∧ Lies w (.slice none 0 0) V' := by
  refine (put_any O (.slice none 0 0) 0 0 0 8 w hw (by omega) (by omega) (by omega) (by decide) (by omega)).mono ?_
  rintro e w' ⟨rfl, V', h1, h2, h3⟩
  exact ⟨rfl, V', h1, h2, h3⟩

/-- A writer that began behind w0. -/
structure Wr (w0 w : World) (O : Nat) (x : Nat × Nat) : Prop where
  at_ : ∃ V, WriterAt w O V x.1 x.2 ∧ ∀ g, V.ownBlock = some g → w0.heap.size ≤ g
  lo : w0.heap.size ≤ O
  keep : Kept [] w0 w
theorem Wr.step {w0 w w' : World} {O : Nat} {x x' : Nat × Nat} {V V' : Value} (h : Wr w0 w O x) (hV : ∀ g, V.ownBlock = some g → w0.heap.size ≤ g) (hw : WriterAt w' O V' x'.1 x'.2) (hk : Kept (O :: V.ownBlock.toList) w w') (hl : Lies w V V') : Wr w0 w' O x' := by
  refine ⟨⟨V', hw, ?_⟩, h.lo, h.keep.step hk ?_⟩
  · intro g hg
    rcases hl with e | ⟨g', hg', hl'⟩
    · rw [e] at hg; exact hV g hg
    · rw [hg'] at hg; simp at hg; subst hg
      have := h.keep.size; omega
  · intro y hy
    right
    rcases List.mem_cons.1 hy with rfl | hy
    · exact h.lo
    · exact hV y (by simpa using hy)

set_option maxHeartbeats 4000000 in
set_option maxRecDepth 1000000 in
theorem rawOf_any (sb so n sc : Nat) (D T : Int) (f : Nat → Int) (w : World) (hs : Smp w sb so n f) (hD : Dp D T) (hn : n ≤ 4194304) (hf : ∀ i, 0 ≤ f i ∧ f i ≤ T) :
    Calls Tryz.prog 158 #[.slice (some ⟨sb, so, none⟩) n sc, .int .i64 D] w fun e w' => ∃ g, e = .returned (.slice (some ⟨g, 0, none⟩) (nby (rwb D.toNat f n)) (nby (rwb D.toNat f n))) ∧ w.heap.size ≤ g ∧ w'.heap[g]? = some (.cells ((byts (rwb D.toNat f n)).map byt).toArray 5 (0, 0)) ∧ Kept [] w w' := by
  have hd := hD.mid
  have hT : T ≤ 4095 := by rcases hD with ⟨_, h⟩ | ⟨_, h⟩ <;> omega
  have HD := Hid.mk hD
  have HS := Hid.mk hs
  have Hf := Hid.mk hf
  clear hD hs hf
  go_enter Tryz.func158, Tryz.ntmps158
  go_wp2_with (fail)
  refine (newWriter_any w).mono ?_
  rintro e w1 ⟨rfl, hw1⟩
  obtain ⟨O, hO⟩ : ∃ O, w.heap.size = O := ⟨_, rfl⟩
  have a1 := newWriter_at w
  have k1 := alloc_kept w (.cells #[.slice none 0 0, .int .u64 0, .int .i64 0] 242)
  rw [← hw1] at a1 k1
  rw [hO] at a1 ⊢
  have HO := Hid.mk hO
  have K1 := Hid.mk k1
  have A1 := Hid.mk a1
  clear hw1 hO a1 k1
  go_wp2_with (fail)
  refine (put8z O w1 A1.out).mono ?_
  rintro e w2 ⟨rfl, V2, a2, k2, l2⟩
  have W2 : Hid (Wr w w2 O (0, 8)) := Hid.mk ⟨⟨V2, a2, fun g hg => by
    rcases l2 with e | ⟨g', hg', hl'⟩
    · rw [e] at hg; simp [Value.ownBlock] at hg
    · rw [hg'] at hg; simp at hg; subst hg
      have := K1.out.size; omega⟩, by have := HO.out; omega, K1.out.step k2 (by simp; have := HO.out; omega)⟩
  clear a2 k2 l2 A1
  go_wp2_with (fail)
  go_loopw [13] (fun i wr => ∃ k : Nat, k ≤ n ∧ i = .int .i64 (k : Int) ∧ Wr w wr O (rwb D.toNat f k)) (fun i _ => n - (intOf i).toNat)
  case atStart => exact ⟨0, by omega, rfl, W2.out⟩
  case round =>
    obtain ⟨k, hk, rfl, hw⟩ := hrel
    have HW := Hid.mk hw
    have c := (HS.out.keep hw.keep (by simp))
    by_cases hlt : k < n
    · have c := c k hlt
      have fv := Hf.out k
      have up := Hid.mk (HD.out.up fv.1 fv.2)
      obtain ⟨v, hv⟩ : ∃ v, f k = v := ⟨_, rfl⟩
      rw [hv] at c fv up
      have HV := Hid.mk hv
      have ix : (k : Int) < n := by omega
      have wv : IntKind.u32.wrap v = v := by simp only [IntKind.wrap, IntKind.bits, IntKind.signed]; simp; omega
      obtain ⟨V, a, hV⟩ := hw.at_
      have hlen := rwb_len D.toNat f k
      have hmul : D.toNat * k ≤ 12 * 4194304 := Nat.mul_le_mul (by omega) (by omega)
      have C := Hid.mk (put_any O V (rwb D.toNat f k).1 (rwb D.toNat f k).2 v D wr a (by omega) (by omega) fv.1 up.out (by omega))
      have A := Hid.mk (And.intro a hV)
      clear hw hv a hV hlen hmul
      go_wp2_with (fail)
      refine C.out.mono ?_
      rintro e w3 ⟨rfl, V3, a3, k3, l3⟩
      have W3 : Hid (Wr w w3 O (rwb D.toNat f (k + 1))) := Hid.mk (HW.out.step A.out.2 (by show WriterAt w3 O V3 ((rwb D.toNat f k).1 * 2 ^ D.toNat + (f k).toNat) ((rwb D.toNat f k).2 + D.toNat); rw [HV.out]; exact a3) k3 l3)
      clear a3 k3 l3 C A c
      go_wp2
      go_roundw
      case rel => exact ⟨k + 1, by omega, by go_num, W3.out⟩
      case measure => simp [intOf]; omega
    · obtain rfl : n = k := by omega
      have hlen := rwb_len D.toNat f n
      have hmul : D.toNat * n ≤ 12 * 4194304 := Nat.mul_le_mul (by omega) (by omega)
      obtain ⟨V, a, hV⟩ := hw.at_
      have h50 : (2 : Nat) ^ 50 = 1125899906842624 := by decide
      have C := Hid.mk (bytes_any O V _ _ wr a (by omega))
      clear h50
      obtain ⟨xx, hxx⟩ : ∃ xx, rwb D.toNat f n = xx := ⟨_, rfl⟩
      rw [hxx] at C
      have Hx := Hid.mk hxx
      clear hw a hV hlen hmul c hxx
      go_wp2_with (fail)
      refine C.out.mono ?_
      rintro e w3 ⟨rfl, b3, k3⟩
      have B3 := Hid.mk b3
      have K3 := Hid.mk k3
      clear b3 k3
      go_wp2
      go_ret
      refine ⟨wr.heap.size, ?_, HW.out.keep.size, ?_, HW.out.keep.trans K3.out⟩
      · rw [Hx.out]; rfl
      · rw [Hx.out]; exact B3.out
/-- The first values of a function, as a list. -/
def fl (f : Nat → Value) (n : Nat) : List Value := (List.range n).map f
theorem fl_length (f : Nat → Value) (n : Nat) : (fl f n).length = n := by simp [fl]
theorem fl_at (f : Nat → Value) (n i : Nat) (h : i < n) : (fl f n)[i]? = some (f i) := by simp [fl, h]

set_option maxHeartbeats 4000000 in
set_option maxRecDepth 1000000 in
/-- slices.Clone of samples. -/
theorem clone_any (sb so n sc : Nat) (f : Nat → Int) (w : World) (hs : Smp w sb so n f) (hn : n ≤ 4194304) :
    Calls Tryz.prog 159 #[.slice (some ⟨sb, so, none⟩) n sc] w fun e w' => ∃ g1 c1, e = .returned (.slice (some ⟨g1, 0, none⟩) n c1) ∧ w.heap.size ≤ g1 ∧ Smp w' g1 0 n f ∧ Kept [] w w' := by
  obtain ⟨j0, gi, gz0, gz1, gz2⟩ := info_parts Tryz.info54
  have ho : (w.alloc (.cells #[] 54)).ownsRow w.heap.size 54 1 (.slice (some ⟨w.heap.size, 0, none⟩) 0 0) 0 ([] : List Value) := World.ownsRow_lit w #[] 0 (Nat.le_refl _) (by decide) rfl
  have HO := Hid.mk ho
  have hq : ∀ W : World, (binOp BinOp.eql 51 (.slice (some ⟨sb, so, none⟩) n sc) (.slice none 0 0)).run Tryz.prog W = .ok (.bool false) W := fun W => by
    have := Lib.run_eql_slice_nil (P := Tryz.prog) W 51 54 (some ⟨sb, so, none⟩) n sc 0 0 Tryz.underlying51
    simpa using this
  have H0 := Hid.mk hs
  clear ho hs
  go_enter Tryz.func159, Tryz.ntmps159
  go_wp2_with (at_builtin; refine wpList_append_own_at _ rfl _ _ 51 rfl w.heap.size 54 j0 (.int .u16 0) 1 2 Tryz.underlying51 gi gz0 gz1 gz2 rfl (by decide) _ 0 [] rfl HO.out ⟨sb, so, none⟩ n sc (fl (fun i => .int .u16 (f i)) n) rfl ?c1 ?c2 ?c3 ?c4 ?c5 ?c6 ?_)
  case c1 => rw [fl_length, Nat.mul_one]
  case c2 =>
    intro j x hj
    have hjm : j < n := by
      rcases Nat.lt_or_ge j n with h | h
      · exact h
      · rw [List.getElem?_eq_none (by rw [fl_length]; exact h)] at hj; cases hj
    rw [fl_at _ _ _ hjm] at hj
    cases hj
    rw [show (⟨sb, so, none⟩ : Addr).add j = ⟨sb, so + j, none⟩ by unfold Addr.add; split <;> simp_all]
    exact (H0.out.keep (alloc_kept w _) (by simp)) j hjm
  case c3 =>
    intro x hx
    simp only [fl, List.mem_map] at hx
    obtain ⟨i, _, rfl⟩ := hx
    rfl
  case c4 => unfold maxLen; omega
  case c5 => omega
  case c6 => rw [World.size_alloc]; omega
  intro v' w' h2 h3 h4 _
  have hk : Kept [] w w' := (alloc_kept w _).step (Kept.of_grown h3) (fun x hx => by simp [Value.ownBlock] at hx; subst hx; exact .inr (Nat.le_refl _))
  rcases h2.2 with ⟨e, h0⟩ | ⟨g1, cap, cur, e, hb, hg, hc, _, hcs, htk⟩
  · exact absurd e h4
  · subst e
    have HR : Hid (w.heap.size ≤ g1 ∧ Smp w' g1 0 n f ∧ Kept [] w w') := Hid.mk ⟨hb, fun i hi => by
      have hcc := h2.cells (g := g1) rfl i _ (fl_at _ n i hi)
      rwa [show (⟨g1, 0, none⟩ : Addr).add i = ⟨g1, 0 + i, none⟩ by unfold Addr.add; split <;> simp_all] at hcc, hk⟩
    clear h2 h3 h4 hb hg hc hcs htk hk
    go_wp2
    go_ret
    obtain ⟨r1, r2, r3⟩ := HR.out
    exact ⟨g1, cap, rfl, r1, r2, r3⟩
end Go.Proofs.YtiganmmacmhndaaGreatDoor

namespace Go.Proofs.YtiganmmacmhndaaGreatDoor
open Go.RowKit

theorem Wm.congr {w : World} {B P X G ty : Nat} {T d D : Int} {W n : Nat} {ext : List Value} {s : Wk} (h : Wm w B P X G ty T d D W n ext s) (b' : Nat → Int) (hb : ∀ i, i < s.t → b' i = s.b i) : Wm w B P X G ty T d D W n ext ⟨s.L, s.r, b', s.t⟩ := by
  obtain ⟨cs, hr, hl, hc⟩ := h.row
  exact ⟨h.blk, h.md, h.co, ⟨cs, hr, hl, fun i hi => by rw [hc i hi, ← hb i hi]⟩, h.ty⟩

theorem holds_rwb {l : List Nat} {D : Nat} {f : Nat → Int} (hf : ∀ i, (f i).toNat < 2 ^ D) (k m : Nat) (h : Holds l (rwb D f (k + m))) : Holds l (rwb D f k) := by
  induction m with
  | zero => exact h
  | succ m ih => exact ih (holds_ap h (hf _)).1

/-- Behind k raw samples. -/
abbrev rwk (T d : Int) (f : Nat → Int) (k : Nat) : Wk := ⟨fun _ => sx0 T d, 0, f, k⟩

set_option maxHeartbeats 8000000 in
set_option maxRecDepth 1000000 in
theorem samples_ok (w0 : World) (B P X G O g : Nat) (T d D : Int) (W n : Nat) (l : List Nat) (f : Nat → Int) (w : World) (hD : Dp D T) (hn : n ≤ 4194304) (hf : ∀ i, 0 ≤ f i ∧ f i ≤ T) (hh : Holds l (rwb D.toNat f n)) (h : Dm w0 B P X G O g T d D W n l w (rwk T d f 0) 8) :
    Calls Tryz.prog 94 #[.pointer (some ⟨B, 0, none⟩)] w fun e w' => e = .returned (.tuple #[]) ∧ Dm w0 B P X G O g T d D W n l w' (rwk T d f n) (8 + D.toNat * n) ∧ Kept [B, P, X, G, O] w w' := by
  have c4 := h.wm.fact.c4
  have hd := hD.mid
  have hT : T ≤ 4095 := by rcases hD with ⟨_, h⟩ | ⟨_, h⟩ <;> omega
  have HH := Hid.mk hh
  have Hf := Hid.mk hf
  have HD := Hid.mk hD
  have H0 := Hid.mk h
  clear hf hD hh h
  go_enter Tryz.func94, Tryz.ntmps94
  go_wp2
  go_loopw [8] (fun i wr => ∃ k : Nat, k ≤ n ∧ i = .int .i64 (k : Int) ∧ Dm w0 B P X G O g T d D W n l wr (rwk T d f k) (8 + D.toNat * k) ∧ Kept [B, P, X, G, O] w wr) (fun i _ => n - (intOf i).toNat)
  case atStart => exact ⟨0, by omega, rfl, H0.out, Kept.refl _ _⟩
  case round =>
    obtain ⟨k, hk, rfl, hm, hkw⟩ := hrel
    have HM := Hid.mk hm
    have HK := Hid.mk hkw
    by_cases hlt : k < n
    · have hb := Hid.mk (holds_ap (holds_rwb (fun i => HD.out.up (Hf.out i).1 (Hf.out i).2) (k + 1) (n - (k + 1)) (by rw [show k + 1 + (n - (k + 1)) = n by omega]; exact HH.out)) (HD.out.up (Hf.out k).1 (Hf.out k).2))
      have fv := Hf.out k
      have c1 := hm.wm.fact.c1
      have c6 := dext_cell hm.wm
      have ix : (k : Int) < n := by omega
      have C1 := Hid.mk (fun W' (hk' : Kept [] wr W') => (get_any O g l (8 + D.toNat * k) D W' (hm.kp hk').rd (by omega) (by omega) (by have := hb.out.2.1; rw [rwb_len] at this; omega)).mono (R' := fun e w' => e = .returned (.tuple #[.int .u32 (f k), .int .i64 0]) ∧ Hid (Dm w0 B P X G O g T d D W n l w' (rwk T d f k) (8 + D.toNat * (k + 1)) ∧ Kept [O] wr w') ∧ w'.cell? ⟨B, 1, none⟩ = some (.int .i64 D) ∧ w'.cell? ⟨B, 6, none⟩ = some (.pointer (some ⟨O, 0, none⟩))) (by
        rintro e w' ⟨rfl, hrd, hkk⟩
        have h3 := hm.kp hk'
        obtain ⟨cs, hr', hl', hc⟩ := h3.wm.row
        obtain ⟨ps, hp, _⟩ := h3.wm.md.blk
        have o1 := ne_ty h3.rd.1 h3.wm.blk (by decide)
        have o2 := ne_ty h3.rd.1 hr' (by decide)
        have o3 := ne_ty h3.rd.1 hp (by decide)
        have o4 := ne_ty h3.rd.1 h3.wm.co.1 (by decide)
        have hlo := h3.lo
        have e1 := hb.out.2.2
        rw [rwb_len] at e1
        have hm' : Wm w' B P X G 126 T d D W n (dext O) (rwk T d f k) := h3.wm.keep hkk (by simp; omega)
        rw [e1, show (((f k).toNat : Nat) : Int) = f k by omega]
        exact ⟨rfl, Hid.mk ⟨⟨hm', by rw [Nat.mul_succ, ← Nat.add_assoc]; exact hrd, h3.keep.step hkk (fun y hy => by right; simp at hy; omega), h3.tab, h3.lo⟩, (hk'.mono (by simp)).trans hkk⟩, hm'.fact.c1, dext_cell hm'⟩))
      have C2 := Hid.mk (fun W' (hm2 : Hid (Dm w0 B P X G O g T d D W n l W' (rwk T d f k) (8 + D.toNat * (k + 1)) ∧ Kept [O] wr W')) => (fill_any B P X G 126 T d D W n (dext O) (rwk T d f k) 1 (f k) W' hm2.out.1.wm (by omega) (by show k + 1 ≤ n; omega) hn fv.1 (by omega)).mono (R' := fun e w' => e = .returned (.tuple #[]) ∧ Hid (Dm w0 B P X G O g T d D W n l w' (rwk T d f (k + 1)) (8 + D.toNat * (k + 1)) ∧ Kept [B, P, X, G, O] w w') ∧ w'.cell? ⟨B, 1, none⟩ = some (.int .i64 D) ∧ w'.cell? ⟨B, 6, none⟩ = some (.pointer (some ⟨O, 0, none⟩))) (by
        rintro e w' ⟨rfl, m3, k3⟩
        have m4 : Wm w' B P X G 126 T d D W n (dext O) (rwk T d f (k + 1)) := m3.congr f (fun i hi => by
          have hi : i < k + 1 := hi
          show f i = fil f k 1 (f k) i
          by_cases e : i < k
          · rw [fil_same _ _ _ _ _ e]
          · obtain rfl : i = k := by omega
            rw [fil_in _ _ _ _ _ (by omega) (by omega)])
        exact ⟨rfl, Hid.mk ⟨hm2.out.1.step (k3.mono (by simp)) m4, (HK.out.trans (hm2.out.2.mono (fun y hy => by left; simp at hy ⊢; omega))).trans (k3.mono (fun y hy => by left; simp at hy ⊢; omega))⟩, m4.fact.c1, dext_cell m4⟩))
      obtain ⟨v, hv⟩ : ∃ v, f k = v := ⟨_, rfl⟩
      rw [hv] at C1 C2 fv
      have wv : IntKind.i64.wrap v = v := wrap_i (by omega) (by omega)
      clear hm hkw hv hb
      go_wp2
      go_region_held_law (fun w' => w'.cell? ⟨B, 1, none⟩ = some (.int .i64 D) ∧ w'.cell? ⟨B, 6, none⟩ = some (.pointer (some ⟨O, 0, none⟩))) (first | exact ⟨c1, c6⟩ | exact ⟨t1, t6⟩ | exact ⟨r1, r6⟩ | go_keep) (first | (go_at_call 93; refine (C1.out _ (by with_reducible exact (Kept.refl _ _).drew)).mono ?_; rintro e w2 ⟨rfl, R2, t1, t6⟩) | (go_at_call 92; refine (takenU_ok _ _).mono ?_; rintro e w3 ⟨rfl, hw3⟩; obtain rfl := hw3.symm) | (go_at_call 112; refine (C2.out _ R2).mono ?_; rintro e w4 ⟨rfl, R4, r1, r6⟩))
      all_goals
        clear C1 C2 t1 t6 r1 r6 R2
        go_wp2
        go_roundw
        case rel => exact ⟨k + 1, by omega, by go_num, R4.out.1, R4.out.2⟩
        case measure => simp [intOf]; omega
    · obtain rfl : n = k := by omega
      have ix : ¬ (n : Int) < (n : Int) := by omega
      clear hm hkw
      go_wp2
      go_end0
      exact ⟨rfl, HM.out, HK.out⟩
end Go.Proofs.YtiganmmacmhndaaGreatDoor
