import Derived.Test.YthhcihcgefeblaaDoorE1
namespace Go.Proofs.YthhcihcgefeblaaDoor
open Go.RowKit

/-- The state within the document's Put of a run. -/
structure PutD (w wr : World) (X B : Nat) (V V1 : Value) (N len r i : Nat) : Prop where
  coder : RefX wr X (ri r i)
  writer : RefW wr B V1 (bin (len + i) (ones N i))
  keep : Kept (X :: B :: V.ownBlock.toList) w wr
  lies : Lies w V V1

theorem PutD.ne {w wr : World} {X B : Nat} {V V1 : Value} {N len r i : Nat} (h : PutD w wr X B V V1 N len r i) : X ≠ B ∧ V1.ownBlock ≠ some X ∧ V1.ownBlock ≠ some B := by
  refine ⟨?_, own_ne2 h.coder.1 (by decide) h.writer.2, own_ne2 h.writer.1 (by decide) h.writer.2⟩
  rintro rfl
  have h1 := h.coder.1
  rw [h.writer.1] at h1
  simp at h1

theorem PutD.keep0 {w wr w' : World} {X B : Nat} {V V1 : Value} {N len r i : Nat} (h : PutD w wr X B V V1 N len r i) (hk : Kept [] wr w') : PutD w w' X B V V1 N len r i :=
  ⟨h.coder.kept hk (by simp), ⟨hk.heap h.writer.1 (by simp), hk.row h.writer.2 (by simp)⟩, h.keep.step hk (by simp), h.lies⟩

/-- A row of bits and one more. -/
theorem PutD.row {w wr : World} {X B : Nat} {V V1 : Value} {N len r i : Nat} (h : PutD w wr X B V V1 N len r i) : wr.ownsRow 0 5 1 V1 (len + i) ((bin (len + i) (ones N i)).map byt) := by
  have := h.writer.2
  rwa [bin_length] at this

theorem bin_bit (a N b : Nat) (hb : b < 2) : bin (a + 1) (N * 2 + b) = bin a N ++ [b] := by
  rw [bin, show (N * 2 + b) / 2 = N by omega, show (N * 2 + b) % 2 = b by omega]

/-- What an append and a store leave. -/
theorem PutD.bit {w wr w2 : World} {X B m M : Nat} {V V1 V2 : Value} {N len r i : Nat} (h : PutD w wr X B V V1 N len r i) (hr : w2.ownsRow 0 5 1 V2 m ((bin m M).map byt)) (hk : Kept V1.ownBlock.toList wr w2) (hl : Lies wr V1 V2) :
    RefX (w2.setCell ⟨B, 0, none⟩ V2) X (ri r i) ∧ RefW (w2.setCell ⟨B, 0, none⟩ V2) B V2 (bin m M) ∧ Kept (X :: B :: V.ownBlock.toList) w (w2.setCell ⟨B, 0, none⟩ V2) ∧ Lies w V V2 := by
  obtain ⟨n1, n2, n3⟩ := h.ne
  have hB2 := hk.heap h.writer.1 (by rw [mem_own]; exact n3)
  have hX2 := h.coder.kept hk (by rw [mem_own]; exact n2)
  have hn := own_ne2 hB2 (by decide) hr
  refine ⟨⟨?_, hX2.2⟩, ⟨by rw [heap_setCell_at hB2]; simp, by rw [bin_length]; exact ownsRow_setCell_other hr hn _⟩, ?_, h.lies.trans hl h.keep.size⟩
  · rw [Below.heap_setCell _ _ _ _ n1]; exact hX2.1
  · refine (h.keep.step hk (fun x hx => ?_)).setCell (by simp) _
    rcases h.lies.mem x hx with h | h
    · left; simp only [List.mem_cons]; exact .inr (.inr h)
    · right; exact h

/-- What an append of digits and a store leave. -/
theorem putD_last {w Wc wd w5 : World} {X B ρ a c M f : Nat} {V V3 V5 : Value} (h1 : RefX Wc X ρ) (hB : Wc.heap[B]? = some (.cells #[V3] 101 (0, 0))) (hrow : Wc.ownsRow 0 5 1 V3 a ((bin a M).map byt)) (h3 : Kept (X :: B :: V.ownBlock.toList) w Wc) (h4 : Lies w V V3)
    (hkD : Kept [] Wc wd) (ho5 : w5.ownsRow 0 5 1 V5 (a + c) ((bin a M).map byt ++ (bin c f).map byt)) (hk5 : Kept V3.ownBlock.toList wd w5) (hl5 : Lies wd V3 V5) (hf : f < 2 ^ c) :
    RefX (w5.setCell ⟨B, 0, none⟩ V5) X ρ ∧ RefW (w5.setCell ⟨B, 0, none⟩ V5) B V5 (bin (a + c) (M * 2 ^ c + f)) ∧ Kept (X :: B :: V.ownBlock.toList) w (w5.setCell ⟨B, 0, none⟩ V5) ∧ Lies w V V5 := by
  have n1 : X ≠ B := by
    rintro rfl
    have h := h1.1
    rw [hB] at h
    simp at h
  have n2 := own_ne2 h1.1 (by decide) hrow
  have n3 := own_ne2 hB (by decide) hrow
  obtain ⟨p1, p2, p3⟩ := putD_meet hB n3 hkD ho5 hk5 hl5 hf
  have hX5 := (h1.kept hkD (by simp)).kept hk5 (by rw [mem_own]; exact n2)
  refine ⟨⟨by rw [Below.heap_setCell _ _ _ _ n1]; exact hX5.1, hX5.2⟩, p1, h3.step p2 (fun x hx => ?_), h4.trans p3 h3.size⟩
  rcases List.mem_cons.1 hx with h | h
  · left; simp [h]
  · rcases h4.mem x h with h | h
    · left; simp only [List.mem_cons]; exact .inr (.inr h)
    · right; exact h

/-- What the document's Put of a run comes to. -/
def RPDPost (w : World) (X B : Nat) (V : Value) (N len r n room : Nat) (e : Ending) (w' : World) : Prop :=
  e = .returned (.int .i64 0) ∧ ∃ V', RefX w' X (rr r n room) ∧ RefW w' B V' (bin (len + rw_ r n room) (N * 2 ^ rw_ r n room + rf r n room)) ∧ Kept (X :: B :: V.ownBlock.toList) w w' ∧ Lies w V V'

set_option maxHeartbeats 4000000 in
set_option maxRecDepth 1000000 in
theorem rputD_any (X B : Nat) (V : Value) (N len r : Nat) (n room : Int) (w : World) (hx : RefX w X r) (hw : RefW w B V (bin len N)) (r0 : 1 ≤ room) (r1 : room ≤ 4096) (n0 : 0 ≤ n) (n1 : n ≤ room) (hl : len ≤ 100000000000000) :
    Calls Tryd.prog 41 #[.pointer (some ⟨X, 0, none⟩), .pointer (some ⟨B, 0, none⟩), .int .i64 n, .int .i64 room] w fun e w' => RPDPost w X B V N len r n.toNat room.toNat e w' := by
  have hr := hx.2
  have ht : decide (room < 1) = false := by simp; omega
  have ht1 : decide (n < 0) = false := by simp; omega
  have HS : Hid (PutD w w X B V V N len r 0) := ⟨by rw [show ri r 0 = r by unfold ri; omega]; exact hx, by simpa [ones] using hw, Kept.refl _ _, Lies.refl _ _⟩
  clear hx hw
  obtain ⟨i0, hi, hz0, hz1, hz2⟩ := info_parts Tryd.info5
  go_enter Tryd.func41, Tryd.ntmps41
  go_wp2_with fail
  go_loopw [9] (fun lf wr => ∃ (i : Nat) (V1 : Value), S r i ≤ n.toNat ∧ lf = .int .i64 (n - (S r i : Int)) ∧ PutD w wr X B V V1 N len r i) (fun lf _ => (intOf lf).toNat)
  case atStart => exact ⟨0, V, Nat.zero_le _, by simp [S], HS.out⟩
  case round =>
    obtain ⟨i, V1, hi1, rfl, hS⟩ := hrel
    obtain ⟨s, hs⟩ : ∃ s : Int, s = ((2 ^ J (ri r i) : Nat) : Int) := ⟨_, rfl⟩
    have Hs := Hid.mk hs
    have s0 : 1 ≤ s := by have := Nat.two_pow_pos (J (ri r i)); omega
    have s1 : s ≤ 4096 := by have := stretch_le (ri r i); omega
    have j12 := J_le (ri r i)
    have hge := S_ge r i
    have HSi := Hid.mk hS
    have hrr := hS.coder.2
    obtain ⟨c0, f0⟩ := cells_one hS.coder.1
    have Hp := Hid.mk (fun w => power_any (J (ri r i) : Int) s w (by omega) (by omega) (by rw [Int.toNat_natCast]; exact hs))
    clear hS hs
    by_cases hlt : s ≤ n - (S r i : Int)
    · have hpos : 0 < n - (S r i : Int) := by omega
      go_wp2_with fail
      refine (jD_any (ri r i) _ hrr).mono ?_
      rintro e w1 ⟨rfl, hk1⟩
      have HS1 := Hid.mk (HSi.out.keep0 hk1)
      clear hk1 HSi c0 f0
      go_wp2_with fail
      refine (Hp.out _).mono ?_
      rintro e w2 ⟨rfl, rfl⟩
      obtain ⟨ao, cp, rfl⟩ := row_form HS1.out.row
      obtain ⟨q0, q1⟩ := cells_one HS1.out.writer.1
      go_wp2_with (at_builtin; refine wpList_append_own_at _ rfl _ _ 34 rfl 0 5 i0 (.int .u8 0) 1 1 Tryd.underlying34 hi hz0 hz1 hz2 rfl (by decide) _ _ _ rfl (HS1.out.row.alloc _) ⟨w2.heap.size, 0, none⟩ 1 1 [.int .u8 1] rfl rfl ?c1 ?c2 ?c3 ?c4 ?c5 ?_)
      case c1 =>
        intro i u hu
        match i, hu with
        | 0, hu => simp at hu; subst hu; simp [Addr.add]
      case c2 => intro u hu; simp at hu; subst hu; rfl
      case c3 => unfold maxLen; omega
      case c4 => omega
      case c5 => omega
      intro v' w3 hown' hgrow _ hat
      have hk3 : Kept (Value.slice ao (len + i) cp).ownBlock.toList w2 w3 := ((Kept.refl _ _).alloc _).step (Kept.of_grown hgrow) (fun x hx => .inl hx)
      have hl3 : Lies w2 (Value.slice ao (len + i) cp) v' := by
        rcases hat with h | h
        · exact .inl h
        · exact .inr ⟨_, h, by simp⟩
      have hr3 : w3.ownsRow 0 5 1 v' (len + (i + 1)) ((bin (len + (i + 1)) (ones N (i + 1))).map byt) := by
        rw [← ones_succ, ← Nat.add_assoc, bin_bit _ _ _ (by decide), List.map_append]
        exact hown'
      obtain ⟨ao3, cp3, rfl⟩ := row_form hr3
      obtain ⟨b1, b2, b3, b4⟩ := HS1.out.bit hr3 hk3 hl3
      obtain ⟨n1, n2, n3⟩ := HS1.out.ne
      have hB3 := hk3.heap HS1.out.writer.1 (by rw [mem_own]; exact n3)
      obtain ⟨m0, m1⟩ := cells_one hB3
      have B1 := Hid.mk b1
      have B2 := Hid.mk b2
      have B3 := Hid.mk b3
      have B4 := Hid.mk b4
      clear hown' hgrow hat hk3 hl3 hr3 b1 b2 b3 b4 hB3 q0 q1
      have x0 := (cells_one B1.out.1).1
      go_wp2_with fail
      refine (jD_any (ri r i) _ hrr).mono ?_
      rintro e w4 ⟨rfl, hk4⟩
      have C1 := Hid.mk (B1.out.kept hk4 (by simp))
      have C2 : Hid (RefW w4 B (.slice ao3 (len + (i + 1)) cp3) (bin (len + (i + 1)) (ones N (i + 1)))) := ⟨hk4.heap B2.out.1 (by simp), hk4.row B2.out.2 (by simp)⟩
      have C3 := Hid.mk (B3.out.step hk4 (by simp))
      obtain ⟨y0, y1⟩ := cells_one C1.out.1
      clear hk4 B1 B2 B3 HS1 m0 m1
      go_wp2_with (go_at_call 63; refine (Hp.out _).mono ?_; rintro e w5 ⟨rfl, rfl⟩)
      go_roundw
      case rel =>
        refine ⟨i + 1, .slice ao3 (len + (i + 1)) cp3, ?_, ?_, ?_⟩
        · have := Hs.out; rw [S_succ]; omega
        · have := Hs.out
          rw [S_succ]
          congr 1
          omega
        · refine ⟨⟨?_, ri_le _ _⟩, ?_, C3.out.setCell (by simp) _, B4.out⟩
          · rw [heap_setCell_at C1.out.1]
            have e : min ((ri r i : Int) + 1) 22 = ((ri r (i + 1) : Nat) : Int) := by unfold ri; omega
            rw [e]
            rfl
          · refine ⟨by rw [Below.heap_setCell _ _ _ _ n1.symm]; exact C2.out.1, ?_⟩
            exact ownsRow_setCell_other C2.out.2 (own_ne2 C1.out.1 (by decide) C2.out.2) _
      case measure => simp [intOf]; omega
    · have hm : cnt r n.toNat = i := cnt_eq r _ i hi1 (by have := Hs.out; rw [S_succ]; omega)
      have Hm := Hid.mk hm
      have l0 : 0 ≤ n - (S r i : Int) := by omega
      have l1 : n - (S r i : Int) ≤ 4096 := by omega
      clear hm
      by_cases hnr : n = room
      · subst hnr
        by_cases hpos : 0 < n - (S r i : Int)
        · go_wp2_with fail
          refine (jD_any (ri r i) _ hrr).mono ?_
          rintro e w1 ⟨rfl, hk1⟩
          have HS1 := Hid.mk (HSi.out.keep0 hk1)
          clear hk1 HSi c0 f0
          go_wp2_with fail
          refine (Hp.out _).mono ?_
          rintro e w2 ⟨rfl, rfl⟩
          obtain ⟨ao, cp, rfl⟩ := row_form HS1.out.row
          obtain ⟨q0, q1⟩ := cells_one HS1.out.writer.1
          go_wp2_with (at_builtin; refine wpList_append_own_at _ rfl _ _ 34 rfl 0 5 i0 (.int .u8 0) 1 1 Tryd.underlying34 hi hz0 hz1 hz2 rfl (by decide) _ _ _ rfl (HS1.out.row.alloc _) ⟨w2.heap.size, 0, none⟩ 1 1 [.int .u8 1] rfl rfl ?c1 ?c2 ?c3 ?c4 ?c5 ?_)
          case c1 =>
            intro i u hu
            match i, hu with
            | 0, hu => simp at hu; subst hu; simp [Addr.add]
          case c2 => intro u hu; simp at hu; subst hu; rfl
          case c3 => unfold maxLen; omega
          case c4 => omega
          case c5 => omega
          intro v' w3 hown' hgrow _ hat
          have hk3 : Kept (Value.slice ao (len + i) cp).ownBlock.toList w2 w3 := ((Kept.refl _ _).alloc _).step (Kept.of_grown hgrow) (fun x hx => .inl hx)
          have hl3 : Lies w2 (Value.slice ao (len + i) cp) v' := by
            rcases hat with h | h
            · exact .inl h
            · exact .inr ⟨_, h, by simp⟩
          have hr3 : w3.ownsRow 0 5 1 v' (len + (i + 1)) ((bin (len + (i + 1)) (ones N i * 2 + 1)).map byt) := by
            rw [← Nat.add_assoc, bin_bit _ _ _ (by decide), List.map_append]
            exact hown'
          obtain ⟨ao3, cp3, rfl⟩ := row_form hr3
          obtain ⟨b1, b2, b3, b4⟩ := HS1.out.bit hr3 hk3 hl3
          obtain ⟨n1, n2, n3⟩ := HS1.out.ne
          have hB3 := hk3.heap HS1.out.writer.1 (by rw [mem_own]; exact n3)
          obtain ⟨m0, m1⟩ := cells_one hB3
          have B1 := Hid.mk b1
          have B2 := Hid.mk b2
          have B3 := Hid.mk b3
          have B4 := Hid.mk b4
          clear hown' hgrow hat hk3 hl3 hr3 b1 b2 b3 b4 hB3 q0 q1
          go_wp2_with fail
          go_ret
          obtain ⟨e1, e2, e3⟩ := run_over (r := r) (room := n.toNat) (by rw [Hm.out]; omega)
          rw [Hm.out] at e1 e2 e3
          refine ⟨rfl, _, by rw [e3]; exact B1.out, ?_, B3.out, B4.out⟩
          have h := B2.out
          rw [ones_succ] at h
          rw [e1, e2]
          exact h
        · go_wp2_with fail
          go_ret
          obtain ⟨e1, e2, e3⟩ := run_full (r := r) (room := n.toNat) (by rw [Hm.out]; omega)
          rw [Hm.out] at e1 e2 e3
          refine ⟨rfl, V1, by rw [e3]; exact HSi.out.coder, ?_, HSi.out.keep, HSi.out.lies⟩
          rw [e1, e2]
          exact HSi.out.writer
      · by_cases hpos : 0 < n - (S r i : Int)
        · go_wp2_with fail
          refine (jD_any (ri r i) _ hrr).mono ?_
          rintro e w1 ⟨rfl, hk1⟩
          have HS1 := Hid.mk (HSi.out.keep0 hk1)
          clear hk1 HSi c0 f0
          go_wp2_with fail
          refine (Hp.out _).mono ?_
          rintro e w2 ⟨rfl, rfl⟩
          obtain ⟨ao, cp, rfl⟩ := row_form HS1.out.row
          obtain ⟨q0, q1⟩ := cells_one HS1.out.writer.1
          go_wp2_with (at_builtin; refine wpList_append_own_at _ rfl _ _ 34 rfl 0 5 i0 (.int .u8 0) 1 1 Tryd.underlying34 hi hz0 hz1 hz2 rfl (by decide) _ _ _ rfl (HS1.out.row.alloc _) ⟨w2.heap.size, 0, none⟩ 1 1 [.int .u8 0] rfl rfl ?c1 ?c2 ?c3 ?c4 ?c5 ?_)
          case c1 =>
            intro i u hu
            match i, hu with
            | 0, hu => simp at hu; subst hu; simp [Addr.add]
          case c2 => intro u hu; simp at hu; subst hu; rfl
          case c3 => unfold maxLen; omega
          case c4 => omega
          case c5 => omega
          intro v' w3 hown' hgrow _ hat
          have hk3 : Kept (Value.slice ao (len + i) cp).ownBlock.toList w2 w3 := ((Kept.refl _ _).alloc _).step (Kept.of_grown hgrow) (fun x hx => .inl hx)
          have hl3 : Lies w2 (Value.slice ao (len + i) cp) v' := by
            rcases hat with h | h
            · exact .inl h
            · exact .inr ⟨_, h, by simp⟩
          have hr3 : w3.ownsRow 0 5 1 v' (len + (i + 1)) ((bin (len + (i + 1)) (ones N i * 2 + 0)).map byt) := by
            rw [← Nat.add_assoc, bin_bit _ _ _ (by decide), List.map_append]
            exact hown'
          obtain ⟨ao3, cp3, rfl⟩ := row_form hr3
          obtain ⟨b1, b2, b3, b4⟩ := HS1.out.bit hr3 hk3 hl3
          obtain ⟨n1, n2, n3⟩ := HS1.out.ne
          have hB3 := hk3.heap HS1.out.writer.1 (by rw [mem_own]; exact n3)
          obtain ⟨m0, m1⟩ := cells_one hB3
          have B1 := Hid.mk b1
          have B2 := Hid.mk b2
          have B3 := Hid.mk b3
          have B4 := Hid.mk b4
          clear hown' hgrow hat hk3 hl3 hr3 b1 b2 b3 b4 hB3 q0 q1
          have x0 := (cells_one B1.out.1).1
          have y0 := (cells_one B2.out.1).1
          go_wp2_with fail
          refine wp_gen (fun Wc => RefX Wc X (ri r i) ∧ RefW Wc B (.slice ao3 (len + (i + 1)) cp3) (bin (len + (i + 1)) (ones N i * 2 + 0)) ∧ Kept (X :: B :: V.ownBlock.toList) w Wc) ⟨B1.out, B2.out, B3.out⟩ ?_
          intro Wc ⟨b1, b2, b3⟩
          have hrow : Wc.ownsRow 0 5 1 (.slice ao3 (len + (i + 1)) cp3) (len + (i + 1)) ((bin (len + (i + 1)) (ones N i * 2 + 0)).map byt) := by have := b2.2; rwa [bin_length] at this
          have hneB := own_ne2 b2.1 (by decide) hrow
          obtain ⟨xc, xf⟩ := cells_one b1.1
          obtain ⟨bc, bf⟩ := cells_one b2.1
          have C1 := Hid.mk b1
          have C2 := Hid.mk b2.1
          have C3 := Hid.mk b3
          have CR := Hid.mk hrow
          have Hneb := Hid.mk hneB
          clear b1 b2 b3 hrow hneB x0 y0 m0 m1 B1 B2 B3
          go_region_law (first | (refine step_app _ (by rfl) (.tmp 89) (.tmp 96) (by rfl) _ _ _ (by rfl) (hkD.row CR.out (by simp)) _ _ _ (by rfl) hoD (bytes_one _) (by omega) ?_; intro ao5 cp5 w5 ho5 hk5 hl5; have hB5 := hk5.heap (hkD.heap C2.out (by simp)) (by rw [mem_own]; exact Hneb.out); have g0 := (cells_one hB5).1; have g1 := (cells_one hB5).2) | (go_simp; go_at_call 66; refine (jD_any (ri r i) _ hrr).mono ?_; rintro e wj ⟨rfl, hkj⟩; have k0 := (cells_one (hkj.undrew.heap C2.out (by simp))).1) | (go_simp; go_at_call 67; refine (digits_any (n - (S r i : Int)) (J (ri r i) : Int) _ l0 (by omega) (by omega) (by omega)).mono ?_; rintro e wd ⟨U, rfl, hoD, hkD0, hlD⟩; rw [Int.toNat_natCast] at hoD; have hkD := hkj.undrew.trans hkD0; have k1 := (cells_one (hkD.heap C2.out (by simp))).1))
          all_goals
            obtain ⟨z1, z2, z3, z4⟩ := putD_last C1.out C2.out CR.out C3.out B4.out hkD ho5 hk5 hl5 (by have := Hs.out; omega)
            obtain ⟨x5, y5⟩ := cells_one ((C1.out.kept hkD (by simp)).kept hk5 (by rw [mem_own]; exact own_ne2 C1.out.1 (by decide) CR.out)).1
            have n1' := n1.symm
            have Z1 := Hid.mk z1
            have Z2 := Hid.mk z2
            have Z3 := Hid.mk z3
            have Z4 := Hid.mk z4
            clear z1 z2 z3 z4
            go_wp2
            go_ret
            obtain ⟨e1, e2, e3⟩ := run_short (r := r) (n := n.toNat) (room := room.toNat) (by omega)
            rw [Hm.out] at e1 e2 e3
            refine ⟨rfl, .slice ao5 (len + (i + 1) + J (ri r i)) cp5, ⟨?_, by have := rr_le r n.toNat room.toNat; exact this⟩, ⟨?_, ?_⟩, Z3.out.setCell (by simp) _, Z4.out⟩
            · rw [heap_setCell_at Z1.out.1, e3]
              have e : max ((ri r i : Int) - 1) 0 = ((ri r i - 1 : Nat) : Int) := by omega
              rw [e]
              rfl
            · rw [Below.heap_setCell _ _ _ _ n1.symm]
              exact Z2.out.1
            · have eb : bin (len + rw_ r n.toNat room.toNat) (N * 2 ^ rw_ r n.toNat room.toNat + rf r n.toNat room.toNat) = bin (len + (i + 1) + J (ri r i)) ((ones N i * 2 + 0) * 2 ^ J (ri r i) + (n - (S r i : Int)).toNat) := by
                rw [show (n - (S r i : Int)).toNat = n.toNat - S r i by omega, ones_mul, show len + (i + 1) + J (ri r i) = len + (i + 1 + J (ri r i)) by omega, ← e1, ← e2]
              rw [eb]
              exact ownsRow_setCell_other Z2.out.2 (own_ne2 Z1.out.1 (by decide) Z2.out.2) _
        · have HS1 := HSi
          clear c0 f0
          obtain ⟨ao, cp, rfl⟩ := row_form HS1.out.row
          obtain ⟨q0, q1⟩ := cells_one HS1.out.writer.1
          go_wp2_with (at_builtin; refine wpList_append_own_at _ rfl _ _ 34 rfl 0 5 i0 (.int .u8 0) 1 1 Tryd.underlying34 hi hz0 hz1 hz2 rfl (by decide) _ _ _ rfl (HS1.out.row.alloc _) ⟨wr.heap.size, 0, none⟩ 1 1 [.int .u8 0] rfl rfl ?c1 ?c2 ?c3 ?c4 ?c5 ?_)
          case c2 => rfl
          case c3 => unfold maxLen; omega
          case c4 => omega
          intro v' w3 hown' hgrow _ hat
          have hk3 : Kept (Value.slice ao (len + i) cp).ownBlock.toList wr w3 := ((Kept.refl _ _).alloc _).step (Kept.of_grown hgrow) (fun x hx => .inl hx)
          have hl3 : Lies wr (Value.slice ao (len + i) cp) v' := by
            rcases hat with h | h
            · exact .inl h
            · exact .inr ⟨_, h, by simp⟩
          have hr3 : w3.ownsRow 0 5 1 v' (len + (i + 1)) ((bin (len + (i + 1)) (ones N i * 2 + 0)).map byt) := by
            rw [← Nat.add_assoc, bin_bit _ _ _ (by decide), List.map_append]
            exact hown'
          obtain ⟨ao3, cp3, rfl⟩ := row_form hr3
          obtain ⟨b1, b2, b3, b4⟩ := HS1.out.bit hr3 hk3 hl3
          obtain ⟨n1, n2, n3⟩ := HS1.out.ne
          have hB3 := hk3.heap HS1.out.writer.1 (by rw [mem_own]; exact n3)
          obtain ⟨m0, m1⟩ := cells_one hB3
          have B1 := Hid.mk b1
          have B2 := Hid.mk b2
          have B3 := Hid.mk b3
          have B4 := Hid.mk b4
          clear hown' hgrow hat hk3 hl3 hr3 b1 b2 b3 b4 hB3 q0 q1
          have x0 := (cells_one B1.out.1).1
          have y0 := (cells_one B2.out.1).1
          go_wp2_with fail
          refine wp_gen (fun Wc => RefX Wc X (ri r i) ∧ RefW Wc B (.slice ao3 (len + (i + 1)) cp3) (bin (len + (i + 1)) (ones N i * 2 + 0)) ∧ Kept (X :: B :: V.ownBlock.toList) w Wc) ⟨B1.out, B2.out, B3.out⟩ ?_
          intro Wc ⟨b1, b2, b3⟩
          have hrow : Wc.ownsRow 0 5 1 (.slice ao3 (len + (i + 1)) cp3) (len + (i + 1)) ((bin (len + (i + 1)) (ones N i * 2 + 0)).map byt) := by have := b2.2; rwa [bin_length] at this
          have hneB := own_ne2 b2.1 (by decide) hrow
          obtain ⟨xc, xf⟩ := cells_one b1.1
          obtain ⟨bc, bf⟩ := cells_one b2.1
          have C1 := Hid.mk b1
          have C2 := Hid.mk b2.1
          have C3 := Hid.mk b3
          have CR := Hid.mk hrow
          have Hneb := Hid.mk hneB
          clear b1 b2 b3 hrow hneB x0 y0 m0 m1 B1 B2 B3
          go_region_law (first | (refine step_app _ (by rfl) (.tmp 89) (.tmp 96) (by rfl) _ _ _ (by rfl) (hkD.row CR.out (by simp)) _ _ _ (by rfl) hoD (bytes_one _) (by omega) ?_; intro ao5 cp5 w5 ho5 hk5 hl5; have hB5 := hk5.heap (hkD.heap C2.out (by simp)) (by rw [mem_own]; exact Hneb.out); have g0 := (cells_one hB5).1; have g1 := (cells_one hB5).2) | (go_simp; go_at_call 66; refine (jD_any (ri r i) _ hrr).mono ?_; rintro e wj ⟨rfl, hkj⟩; have k0 := (cells_one (hkj.undrew.heap C2.out (by simp))).1) | (go_simp; go_at_call 67; refine (digits_any (n - (S r i : Int)) (J (ri r i) : Int) _ l0 (by omega) (by omega) (by omega)).mono ?_; rintro e wd ⟨U, rfl, hoD, hkD0, hlD⟩; rw [Int.toNat_natCast] at hoD; have hkD := hkj.undrew.trans hkD0; have k1 := (cells_one (hkD.heap C2.out (by simp))).1))
          all_goals
            obtain ⟨z1, z2, z3, z4⟩ := putD_last C1.out C2.out CR.out C3.out B4.out hkD ho5 hk5 hl5 (by have := Hs.out; omega)
            obtain ⟨x5, y5⟩ := cells_one ((C1.out.kept hkD (by simp)).kept hk5 (by rw [mem_own]; exact own_ne2 C1.out.1 (by decide) CR.out)).1
            have n1' := n1.symm
            have Z1 := Hid.mk z1
            have Z2 := Hid.mk z2
            have Z3 := Hid.mk z3
            have Z4 := Hid.mk z4
            clear z1 z2 z3 z4
            go_wp2
            go_ret
            obtain ⟨e1, e2, e3⟩ := run_short (r := r) (n := n.toNat) (room := room.toNat) (by omega)
            rw [Hm.out] at e1 e2 e3
            refine ⟨rfl, .slice ao5 (len + (i + 1) + J (ri r i)) cp5, ⟨?_, by have := rr_le r n.toNat room.toNat; exact this⟩, ⟨?_, ?_⟩, Z3.out.setCell (by simp) _, Z4.out⟩
            · rw [heap_setCell_at Z1.out.1, e3]
              have e : max ((ri r i : Int) - 1) 0 = ((ri r i - 1 : Nat) : Int) := by omega
              rw [e]
              rfl
            · rw [Below.heap_setCell _ _ _ _ n1.symm]
              exact Z2.out.1
            · have eb : bin (len + rw_ r n.toNat room.toNat) (N * 2 ^ rw_ r n.toNat room.toNat + rf r n.toNat room.toNat) = bin (len + (i + 1) + J (ri r i)) ((ones N i * 2 + 0) * 2 ^ J (ri r i) + (n - (S r i : Int)).toNat) := by
                rw [show (n - (S r i : Int)).toNat = n.toNat - S r i by omega, ones_mul, show len + (i + 1) + J (ri r i) = len + (i + 1 + J (ri r i)) by omega, ← e1, ← e2]
              rw [eb]
              exact ownsRow_setCell_other Z2.out.2 (own_ne2 Z1.out.1 (by decide) Z2.out.2) _
end Go.Proofs.YthhcihcgefeblaaDoor
