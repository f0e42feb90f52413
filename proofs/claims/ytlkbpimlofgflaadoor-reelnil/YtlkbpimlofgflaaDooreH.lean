import Derived.Test.YtlkbpimlofgflaaDooreF
namespace Go.Proofs.YtlkbpimlofgflaaDoor
open Go.RowKit

theorem inP (P : Nat) (V L : Value) : ∀ x ∈ [P], x ∈ foot P V L := fun x hx => by simp at hx; subst hx; simp [foot]
theorem inV (P : Nat) (V L : Value) : ∀ x ∈ P :: V.ownBlock.toList, x ∈ foot P V L := fun x hx => by simp only [foot, List.mem_cons, List.mem_append] at hx ⊢; rcases hx with h | h; exact .inl h; exact .inr (.inl h)
theorem inL (P : Nat) (V L : Value) : ∀ x ∈ P :: L.ownBlock.toList, x ∈ foot P V L := fun x hx => by simp only [foot, List.mem_cons, List.mem_append] at hx ⊢; rcases hx with h | h; exact .inl h; exact .inr (.inr h)
/-- A writer in its block. -/
def Wr (w : World) (Q P : Nat) (zo : Option Addr) (zn zc : Nat) (done : Bool) : Prop := w.heap[Q]? = some (.cells #[.pointer (some ⟨P, 0, none⟩), .slice zo zn zc, .bool done] 48 (0, 0))
theorem Wr.cells {w : World} {Q P : Nat} {zo : Option Addr} {zn zc : Nat} {done : Bool} (h : Wr w Q P zo zn zc done) : w.cell? ⟨Q, 0, none⟩ = some (.pointer (some ⟨P, 0, none⟩)) ∧ w.cell? ⟨Q, 1, none⟩ = some (.slice zo zn zc) ∧ w.cell? ⟨Q, 2, none⟩ = some (.bool done) := by
  unfold Wr at h
  refine ⟨?_, ?_, ?_⟩ <;> simp [World.cell?, h]
theorem foot_of {w : World} {P R : Nat} {V L : Value} {s : Md} {k : Int} {cs : Array Value} {t : Nat} (h : Med w P V L s k) (hR : w.heap[R]? = some (.cells cs t (0, 0))) (h1 : t ≠ 72) (h2 : t ≠ 5) (h3 : t ≠ 79) : R ∉ foot P V L := by
  intro hm
  simp only [foot, List.mem_cons, List.mem_append] at hm
  rcases hm with rfl | hm | hm
  · have := h.box; rw [hR] at this; simp at this; exact h1 this.2
  · exact own_ty hR h2 h.row hm
  · exact own_ty hR h3 h.log hm

set_option maxHeartbeats 4000000 in
set_option maxRecDepth 1000000 in
theorem create_yes (w : World) (P : Nat) (V L : Value) (d : Md) (s : ByteArray) (r st : Nat) (h : Med w P V L d 0) (ok : Mok d) (hb : d.b = []) (hd : d.dead = false) (hl : d.left ≠ 1) (hs : s.size ≤ 100) (hv : Txt s) (r1 : 1 ≤ r) (r2 : r ≤ 7) (hst : st ≤ 5183999) :
    Calls Tryd.prog 6 #[.pointer (some ⟨P, 0, none⟩), .agg #[.string s, .int .i64 (r : Int), .int .i64 (st : Int)]] w fun e w' => ∃ Q V', e = .returned (.tuple #[.pointer (some ⟨Q, 0, none⟩), .int .i64 0]) ∧ Wr w' Q P none 0 0 false ∧ w.heap.size ≤ Q ∧ Med w' P V' L (apS d (lbl s r st)) 0 ∧ Kept (P :: V.ownBlock.toList) w w' ∧ Lies w V V' := by
  obtain ⟨w1, ew1, k1, hb1⟩ := alloc_new w (.cells #[.string s, .int .i64 (r : Int), .int .i64 (st : Int)] 25 (0, 0))
  have ld : ∀ u : World, u.heap[w.heap.size]? = some (.cells #[.string s, .int .i64 (r : Int), .int .i64 (st : Int)] 25 (0, 0)) → u.cell? ⟨w.heap.size, 0, none⟩ = some (.string s) ∧ u.cell? ⟨w.heap.size, 1, none⟩ = some (.int .i64 (r : Int)) ∧ u.cell? ⟨w.heap.size, 2, none⟩ = some (.int .i64 (st : Int)) := fun u hu => by refine ⟨?_, ?_, ?_⟩ <;> simp [World.cell?, hu]
  obtain ⟨y0, y1, y2⟩ := ld w1 hb1
  have LD := Hid.mk ld
  have HB1 := Hid.mk hb1
  have K1 := Hid.mk k1
  have HM := Hid.mk h
  have HO := Hid.mk ok
  have HV := Hid.mk hv
  clear ld hb1 k1 h ok hv
  go_enter Tryd.func6, Tryd.ntmps6
  go_wp2_with (fail)
  try rw [ew1]
  clear ew1
  refine (mayBe_yes w1 s r st hs HV.out r1 r2 hst).mono ?_
  rintro e w2 ⟨rfl, k2⟩
  have HB2 := Hid.mk (k2.heap HB1.out (by simp))
  have K2 := Hid.mk (K1.out.trans k2)
  clear y0 y1 y2 k2
  obtain ⟨y0, y1, y2⟩ := LD.out w2 HB2.out
  go_wp2_with (fail)
  refine (size_any w2 P V L d (HM.out.keep K2.out)).mono ?_
  rintro e w3 ⟨rfl, m3, k3⟩
  have HB3 := Hid.mk (k3.heap HB2.out (fun hm => by
    simp at hm
    have h9 := HB2.out
    rw [hm, (HM.out.keep K2.out).box] at h9
    simp at h9))
  have M3 := Hid.mk m3
  have K3 := Hid.mk k3
  clear y0 y1 y2 k3 m3
  obtain ⟨y0, y1, y2⟩ := LD.out w3 HB3.out
  rw [hb]
  go_wp2_with (fail)
  refine (label_any w3 s r st hs r2 (by omega)).mono ?_
  rintro e w4 ⟨v4, rfl, o4, k4, g4⟩
  obtain ⟨bo, bc, ev, b1, b2, -⟩ := row_none o4
  subst ev
  have m4 := M3.out.keep k4
  have C5 := Hid.mk (append_any w4 P V L d bo _ bc (lbl s r st) m4 HO.out (reads_row o4) rfl b2 b1 (.inr (fun g off e hg => by
    subst e hg
    have := own_ty m4.box (by decide) o4
    simp [Value.ownBlock] at this)))
  have HB4 := Hid.mk (k4.heap HB3.out (by simp))
  have K4 := Hid.mk k4
  have M4 := Hid.mk m4
  have e0 : apE d (lbl s r st) = 0 := by
    unfold apE
    rw [hd, hb, lbl_len, if_neg (by simp), if_neg (by simp; omega), if_neg hl]
  clear y0 y1 y2 k4 m4 g4 o4
  go_wp2_with (fail)
  refine C5.out.mono ?_
  rintro e w5 ⟨V', rfl, m5, k5, l5⟩
  rw [e0]
  have M5 := Hid.mk m5
  have K5 := Hid.mk k5
  have L5 := Hid.mk l5
  clear m5 k5 l5 C5
  go_wp2
  go_ret2
  have kk : Kept [] w5 (w5.alloc (.cells #[.pointer (some ⟨P, 0, none⟩), .slice none 0 0, .bool false] 48 (0, 0))) := (Kept.refl [] _).alloc _
  have k03 : Kept (P :: V.ownBlock.toList) w w3 := (K2.out.mono (by simp) : Kept (P :: V.ownBlock.toList) w w2).step K3.out (fun x hx => by simp at hx; subst hx; simp)
  have k05 : Kept (P :: V.ownBlock.toList) w w5 := (k03.step K4.out (by simp)).step K5.out (fun x hx => .inl hx)
  refine ⟨w5.heap.size, V', rfl, heap_alloc_new _ _, k05.size, M5.out.keep kk, k05.step kk (by simp), ?_⟩
  exact (L5.out.of_kept K4.out).of_kept k03

theorem Wr.kept {w w' : World} {Q P : Nat} {zo : Option Addr} {zn zc : Nat} {done : Bool} {ks : List Nat} (h : Wr w Q P zo zn zc done) (hk : Kept ks w w') (hn : Q ∉ ks) : Wr w' Q P zo zn zc done := hk.heap h hn
theorem Wr.far {w : World} {Q P : Nat} {zo : Option Addr} {zn zc : Nat} {done : Bool} {V L : Value} {s : Md} {k : Int} (h : Wr w Q P zo zn zc done) (hm : Med w P V L s k) : Q ∉ foot P V L := foot_of hm h (by decide) (by decide) (by decide)

set_option maxHeartbeats 4000000 in
set_option maxRecDepth 1000000 in
/-- What is laid down is taken. -/
theorem lay_yes (w : World) (Q P : Nat) (zo : Option Addr) (zn zc : Nat) (V L : Value) (d : Md) (bo : Option Addr) (m bc : Nat) (l : List Nat) (hw : Wr w Q P zo zn zc false) (h : Med w P V L d 0) (ok : Mok d) (hr : w.ownsRow 0 5 1 (.slice bo m bc) m (l.map byt)) (hm : l.length = m) (e0 : apE d l = 0) :
    Calls Tryd.prog 27 #[.pointer (some ⟨Q, 0, none⟩), .slice bo m bc] w fun e w' => ∃ V', e = .returned (.tuple #[.int .i64 (apA d l), .int .i64 0]) ∧ Wr w' Q P zo zn zc false ∧ Med w' P V' L (apS d l) 0 ∧ Kept (P :: V.ownBlock.toList) w w' ∧ Lies w V V' := by
  obtain ⟨_, _, ev, b1, b2, -⟩ := row_none hr
  cases ev
  have C5 := Hid.mk (append_any w P V L d bo m bc l h ok (by subst hm; exact reads_row hr) hm b2 b1 (.inr (fun g off e hg => by
    subst e hg
    have := own_ty h.box (by decide) hr
    rcases hr.2 with ⟨h1, _⟩ | ⟨g', cap, cur, h1, _⟩
    · cases h1
    · simp only [Value.slice.injEq, Option.some.injEq, Addr.mk.injEq] at h1
      obtain ⟨⟨-, rfl, -⟩, -⟩ := h1
      simp [Value.ownBlock] at this)))
  rw [e0] at C5
  have HW := Hid.mk hw
  have HF := Hid.mk (hw.far h)
  obtain ⟨c0, -, c2⟩ := hw.cells
  clear hw h hr b1 b2
  go_enter Tryd.func27, Tryd.ntmps27
  go_wp2_with (fail)
  refine C5.out.mono ?_
  rintro e w5 ⟨V', rfl, m5, k5, l5⟩
  have FN := Hid.mk (And.intro (HW.out.kept k5 (fun hm => HF.out (inV P V L Q hm))) (And.intro m5 (And.intro k5 l5)))
  clear m5 k5 l5 C5 c0 c2
  go_wp2
  go_ret2
  exact ⟨V', rfl, FN.out⟩

set_option maxHeartbeats 4000000 in
theorem count_any (w : World) (Q P : Nat) (zo : Option Addr) (zn zc : Nat) (done : Bool) (h : Wr w Q P zo zn zc done) : Calls Tryd.prog 28 #[.pointer (some ⟨Q, 0, none⟩)] w fun e w' => e = .returned (.int .i64 (zn : Int)) ∧ w' = w := by
  obtain ⟨-, c1, -⟩ := h.cells
  clear h
  go_enter Tryd.func28, Tryd.ntmps28
  go_wp2
  go_ret
  exact ⟨rfl, rfl⟩
end Go.Proofs.YtlkbpimlofgflaaDoor
