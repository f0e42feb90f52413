import Derived.Test.YthhegomjipbdbaaGreatDoorDcZ
namespace Go.Proofs.YthhegomjipbdbaaGreatDoor
open Go.RowKit

/-- Raw bits of the first samples. -/
def rwb (D : Nat) (f : Nat → Int) : Nat → Nat × Nat
  | 0 => (0, 8)
  | k + 1 => ap (rwb D f k) D (f k).toNat
theorem rwb_len (D : Nat) (f : Nat → Int) (k : Nat) : (rwb D f k).2 = 8 + D * k := by
  induction k with
  | zero => rfl
  | succ k ih => show (rwb D f k).2 + D = _; rw [ih, Nat.mul_succ]; omega

theorem Dp.up {D T v : Int} (h : Dp D T) (h0 : 0 ≤ v) (h1 : v ≤ T) : v.toNat < 2 ^ D.toNat := by
  rcases h with ⟨rfl, rfl⟩ | ⟨rfl, rfl⟩
  · show v.toNat < 1024; omega
  · show v.toNat < 4096; omega
theorem put8z (O : Nat) (w : World) (hw : WriterAt w O (.slice none 0 0) 0 0) :
    Calls Tryz.prog 131 #[.pointer (some ⟨O, 0, none⟩), .int .u32 0, .int .i64 8] w fun e w' => e = .returned (.int .i64 0) ∧ ∃ V', WriterAt w' O V' 0 8 ∧ Kept [O] w w' ∧ Lies w (.slice none 0 0) V' := by
  refine (put_any O (.slice none 0 0) 0 0 0 8 w hw (by omega) (by omega) (by omega) (by decide) (by omega)).mono ?_
  rintro e w' ⟨rfl, V', h1, h2, h3⟩
  exact ⟨rfl, V', h1, h2, h3⟩

/-- A writer that began behind w0. -/
structure Wr (w0 w : World) (O : Nat) (x : Nat × Nat) : Prop where
  at_ : ∃ V, WriterAt w O V x.1 x.2 ∧ ∀ g, V.ownBlock = some g → w0.heap.size ≤ g
  lo : w0.heap.size ≤ O
  keep : Kept [] w0 w
theorem Wr.step {w0 w w' : World} {O : Nat} {x x' : Nat × Nat} {V V' : Value} (h : Wr w0 w O x) (hV : ∀ g, V.ownBlock = some g → w0.heap.size ≤ g) (hw : WriterAt w' O V' x'.1 x'.2) (hk : Kept (O :: V.ownBlock.toList) w w') (hl : Lies w V V') : Wr w0 w' O x' := by
  refine ⟨⟨V', hw, ?_⟩, h.lo, h.keep.step hk ?_⟩
  · intro g hg
    rcases hl with e | ⟨g', hg', hl'⟩
    · rw [e] at hg; exact hV g hg
    · rw [hg'] at hg; simp at hg; subst hg
      have := h.keep.size; omega
  · intro y hy
    right
    rcases List.mem_cons.1 hy with rfl | hy
    · exact h.lo
    · exact hV y (by simpa using hy)

set_option maxHeartbeats 4000000 in
set_option maxRecDepth 1000000 in
theorem rawOf_any (sb so n sc : Nat) (D T : Int) (f : Nat → Int) (w : World) (hs : Smp w sb so n f) (hD : Dp D T) (hn : n ≤ 4194304) (hf : ∀ i, 0 ≤ f i ∧ f i ≤ T) :
    Calls Tryz.prog 112 #[.slice (some ⟨sb, so, none⟩) n sc, .int .i64 D] w fun e w' => ∃ g, e = .returned (.slice (some ⟨g, 0, none⟩) (nby (rwb D.toNat f n)) (nby (rwb D.toNat f n))) ∧ w.heap.size ≤ g ∧ w'.heap[g]? = some (.cells ((byts (rwb D.toNat f n)).map byt).toArray 5 (0, 0)) ∧ Kept [] w w' := by
  have hd := hD.mid
  have hT : T ≤ 4095 := by rcases hD with ⟨_, h⟩ | ⟨_, h⟩ <;> omega
  have HD := Hid.mk hD
  have HS := Hid.mk hs
  have Hf := Hid.mk hf
  clear hD hs hf
  go_enter Tryz.func112, Tryz.ntmps112
  go_wp2_with (fail)
  refine (newWriter_any w).mono ?_
  rintro e w1 ⟨rfl, hw1⟩
  obtain ⟨O, hO⟩ : ∃ O, w.heap.size = O := ⟨_, rfl⟩
  have a1 := newWriter_at w
  have k1 := alloc_kept w (.cells #[.slice none 0 0, .int .u64 0, .int .i64 0] 213)
  rw [← hw1] at a1 k1
  rw [hO] at a1 ⊢
  have HO := Hid.mk hO
  have K1 := Hid.mk k1
  have A1 := Hid.mk a1
  clear hw1 hO a1 k1
  go_wp2_with (fail)
  refine (put8z O w1 A1.out).mono ?_
  rintro e w2 ⟨rfl, V2, a2, k2, l2⟩
  have W2 : Hid (Wr w w2 O (0, 8)) := Hid.mk ⟨⟨V2, a2, fun g hg => by
    rcases l2 with e | ⟨g', hg', hl'⟩
    · rw [e] at hg; simp [Value.ownBlock] at hg
    · rw [hg'] at hg; simp at hg; subst hg
      have := K1.out.size; omega⟩, by have := HO.out; omega, K1.out.step k2 (by simp; have := HO.out; omega)⟩
  clear a2 k2 l2 A1
  go_wp2_with (fail)
  go_loopw [13] (fun i wr => ∃ k : Nat, k ≤ n ∧ i = .int .i64 (k : Int) ∧ Wr w wr O (rwb D.toNat f k)) (fun i _ => n - (intOf i).toNat)
  case atStart => exact ⟨0, by omega, rfl, W2.out⟩
  case round =>
    obtain ⟨k, hk, rfl, hw⟩ := hrel
    have HW := Hid.mk hw
    have c := (HS.out.keep hw.keep (by simp))
    by_cases hlt : k < n
    · have c := c k hlt
      have fv := Hf.out k
      have up := Hid.mk (HD.out.up fv.1 fv.2)
      obtain ⟨v, hv⟩ : ∃ v, f k = v := ⟨_, rfl⟩
      rw [hv] at c fv up
      have HV := Hid.mk hv
      have ix : (k : Int) < n := by omega
      have wv : IntKind.u32.wrap v = v := by simp only [IntKind.wrap, IntKind.bits, IntKind.signed]; simp; omega
      obtain ⟨V, a, hV⟩ := hw.at_
      have hlen := rwb_len D.toNat f k
      have hmul : D.toNat * k ≤ 12 * 4194304 := Nat.mul_le_mul (by omega) (by omega)
      have C := Hid.mk (put_any O V (rwb D.toNat f k).1 (rwb D.toNat f k).2 v D wr a (by omega) (by omega) fv.1 up.out (by omega))
      have A := Hid.mk (And.intro a hV)
      clear hw hv a hV hlen hmul
      go_wp2_with (fail)
      refine C.out.mono ?_
      rintro e w3 ⟨rfl, V3, a3, k3, l3⟩
      have W3 : Hid (Wr w w3 O (rwb D.toNat f (k + 1))) := Hid.mk (HW.out.step A.out.2 (by show WriterAt w3 O V3 ((rwb D.toNat f k).1 * 2 ^ D.toNat + (f k).toNat) ((rwb D.toNat f k).2 + D.toNat); rw [HV.out]; exact a3) k3 l3)
      clear a3 k3 l3 C A c
      go_wp2
      go_roundw
      case rel => exact ⟨k + 1, by omega, by go_num, W3.out⟩
      case measure => simp [intOf]; omega
    · obtain rfl : n = k := by omega
      have hlen := rwb_len D.toNat f n
      have hmul : D.toNat * n ≤ 12 * 4194304 := Nat.mul_le_mul (by omega) (by omega)
      obtain ⟨V, a, hV⟩ := hw.at_
      have h50 : (2 : Nat) ^ 50 = 1125899906842624 := by decide
      have C := Hid.mk (bytes_any O V _ _ wr a (by omega))
      clear h50
      obtain ⟨xx, hxx⟩ : ∃ xx, rwb D.toNat f n = xx := ⟨_, rfl⟩
      rw [hxx] at C
      have Hx := Hid.mk hxx
      clear hw a hV hlen hmul c hxx
      go_wp2_with (fail)
      refine C.out.mono ?_
      rintro e w3 ⟨rfl, b3, k3⟩
      have B3 := Hid.mk b3
      have K3 := Hid.mk k3
      clear b3 k3
      go_wp2
      go_ret
      refine ⟨wr.heap.size, ?_, HW.out.keep.size, ?_, HW.out.keep.trans K3.out⟩
      · rw [Hx.out]; rfl
      · rw [Hx.out]; exact B3.out
/-- The first values of a function, as a list. -/
def fl (f : Nat → Value) (n : Nat) : List Value := (List.range n).map f
theorem fl_length (f : Nat → Value) (n : Nat) : (fl f n).length = n := by simp [fl]
theorem fl_at (f : Nat → Value) (n i : Nat) (h : i < n) : (fl f n)[i]? = some (f i) := by simp [fl, h]

set_option maxHeartbeats 4000000 in
set_option maxRecDepth 1000000 in
/-- slices.Clone of samples. -/
theorem clone_any (sb so n sc : Nat) (f : Nat → Int) (w : World) (hs : Smp w sb so n f) (hn : n ≤ 4194304) :
    Calls Tryz.prog 113 #[.slice (some ⟨sb, so, none⟩) n sc] w fun e w' => ∃ g1 c1, e = .returned (.slice (some ⟨g1, 0, none⟩) n c1) ∧ w.heap.size ≤ g1 ∧ Smp w' g1 0 n f ∧ Kept [] w w' := by
  obtain ⟨j0, gi, gz0, gz1, gz2⟩ := info_parts Tryz.info93
  have ho : (w.alloc (.cells #[] 93)).ownsRow w.heap.size 93 1 (.slice (some ⟨w.heap.size, 0, none⟩) 0 0) 0 ([] : List Value) := World.ownsRow_lit w #[] 0 (Nat.le_refl _) (by decide) rfl
  have HO := Hid.mk ho
  have hq : ∀ W : World, (binOp BinOp.eql 94 (.slice (some ⟨sb, so, none⟩) n sc) (.slice none 0 0)).run Tryz.prog W = .ok (.bool false) W := fun W => by
    have := Lib.run_eql_slice_nil (P := Tryz.prog) W 94 93 (some ⟨sb, so, none⟩) n sc 0 0 Tryz.underlying94
    simpa using this
  have H0 := Hid.mk hs
  clear ho hs
  go_enter Tryz.func113, Tryz.ntmps113
  go_wp2_with (at_builtin; refine wpList_append_own_at _ rfl _ _ 94 rfl w.heap.size 93 j0 (.int .u16 0) 1 2 Tryz.underlying94 gi gz0 gz1 gz2 rfl (by decide) _ 0 [] rfl HO.out ⟨sb, so, none⟩ n sc (fl (fun i => .int .u16 (f i)) n) rfl ?c1 ?c2 ?c3 ?c4 ?c5 ?c6 ?_)
  case c1 => rw [fl_length, Nat.mul_one]
  case c2 =>
    intro j x hj
    have hjm : j < n := by
      rcases Nat.lt_or_ge j n with h | h
      · exact h
      · rw [List.getElem?_eq_none (by rw [fl_length]; exact h)] at hj; cases hj
    rw [fl_at _ _ _ hjm] at hj
    cases hj
    rw [show (⟨sb, so, none⟩ : Addr).add j = ⟨sb, so + j, none⟩ by unfold Addr.add; split <;> simp_all]
    exact (H0.out.keep (alloc_kept w _) (by simp)) j hjm
  case c3 =>
    intro x hx
    simp only [fl, List.mem_map] at hx
    obtain ⟨i, _, rfl⟩ := hx
    rfl
  case c4 => unfold maxLen; omega
  case c5 => omega
  case c6 => rw [World.size_alloc]; omega
  intro v' w' h2 h3 h4 _
  have hk : Kept [] w w' := (alloc_kept w _).step (Kept.of_grown h3) (fun x hx => by simp [Value.ownBlock] at hx; subst hx; exact .inr (Nat.le_refl _))
  rcases h2.2 with ⟨e, h0⟩ | ⟨g1, cap, cur, e, hb, hg, hc, _, hcs, htk⟩
  · exact absurd e h4
  · subst e
    have HR : Hid (w.heap.size ≤ g1 ∧ Smp w' g1 0 n f ∧ Kept [] w w') := Hid.mk ⟨hb, fun i hi => by
      have hcc := h2.cells (g := g1) rfl i _ (fl_at _ n i hi)
      rwa [show (⟨g1, 0, none⟩ : Addr).add i = ⟨g1, 0 + i, none⟩ by unfold Addr.add; split <;> simp_all] at hcc, hk⟩
    clear h2 h3 h4 hb hg hc hcs htk hk
    go_wp2
    go_ret
    obtain ⟨r1, r2, r3⟩ := HR.out
    exact ⟨g1, cap, rfl, r1, r2, r3⟩
end Go.Proofs.YthhegomjipbdbaaGreatDoor

namespace Go.Proofs.YthhegomjipbdbaaGreatDoor
open Go.RowKit

theorem Wm.congr {w : World} {B P X G ty : Nat} {T d D : Int} {W n : Nat} {ext : List Value} {s : Wk} (h : Wm w B P X G ty T d D W n ext s) (b' : Nat → Int) (hb : ∀ i, i < s.t → b' i = s.b i) : Wm w B P X G ty T d D W n ext ⟨s.L, s.r, b', s.t⟩ := by
  obtain ⟨cs, hr, hl, hc⟩ := h.row
  exact ⟨h.blk, h.md, h.co, ⟨cs, hr, hl, fun i hi => by rw [hc i hi, ← hb i hi]⟩, h.ty⟩

theorem holds_rwb {l : List Nat} {D : Nat} {f : Nat → Int} (hf : ∀ i, (f i).toNat < 2 ^ D) (k m : Nat) (h : Holds l (rwb D f (k + m))) : Holds l (rwb D f k) := by
  induction m with
  | zero => exact h
  | succ m ih => exact ih (holds_ap h (hf _)).1

/-- Behind k raw samples. -/
abbrev rwk (T d : Int) (f : Nat → Int) (k : Nat) : Wk := ⟨fun _ => sx0 T d, 0, f, k⟩

end Go.Proofs.YthhegomjipbdbaaGreatDoor
