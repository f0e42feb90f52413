import Derived.Test.YtiojcfffhcipnaaEc
namespace Go.Proofs.Ytiojcfffhcipnaa
open Go.RowKit

/-- A medium was asked, and is as it was. -/
theorem StA.asked {W w w' : World} {a : Sta} (h : SepI W w a.Dm a.R) {c : Nat} (hc : c < a.C) (hk : Kept [a.P c] w w') (hm : Med w' (a.P c) (a.V c) (a.L c) (a.s c) 0) : SepI W w' a.Dm a.R := by
  have := SepI.step (r := a.R (0, c)) h (0, c) hc hk (fun x hx => .inl (inP _ (a.V c) (a.L c) x hx)) hm (fun x hx => .inl hx)
  refine this.congr (fun i hi => hi) (fun i hi => ?_)
  by_cases e : i = (0, c)
  · rw [e, updI_at]
  · rw [updI_far _ _ _ _ e]
/-- Memory that is new is no one's. -/
theorem fresh_new {W w : World} {a : Sta} (h : SepI W w a.Dm a.R) {z : Nat} (hz : w.heap.size ≤ z) : W.heap.size ≤ z ∧ ∀ j, a.Dm j → z ∉ (a.R j).F := ⟨by have := h.old.size; omega, fun j hj hm => by have := (a.R j).lt (h.P j hj) hm; omega⟩

theorem take_F {w : World} {b : Bk} {o' : Value} {X : Hd} (li : Lies w b.o o') : ∀ z ∈ ({ b with o := o', p := b.p + 1, fo := snc b.fo b.p X } : Bk).F, z ∈ b.F ∨ w.heap.size ≤ z ∨ z ∈ blk X := fun z hz => by
  rcases F_mem hz with h | h | h | h | h | h | h | h | h | h | h | h | h
  · exact .inl (vb_mem (.inl h))
  · exact .inl (vb_mem (by have h : z ∈ vb b.l := h; simp [h]))
  · exact .inl (vb_mem (by have h : z ∈ vb b.s := h; simp [h]))
  · rcases li.mem z h with q | q
    · exact .inl (vb_mem (by have q : z ∈ vb b.o := q; simp [q]))
    · exact .inr (.inl q)
  · exact .inl (vb_mem (by have h : z ∈ vb b.t := h; simp [h]))
  · exact .inl (vb_mem (by have h : z ∈ vb b.k := h; simp [h]))
  · exact .inl (vb_mem (by have h : z ∈ vb b.u := h; simp [h]))
  · exact .inl (vb_mem (by have h : z ∈ vb b.ks := h; simp [h]))
  · exact .inl (vb_mem (by have h : z ∈ vb b.us := h; simp [h]))
  · exact .inl (vb_mem (by have h : z ∈ blks b.f b.n := h; simp [h]))
  · exact .inl (vb_mem (by have h : z ∈ blks b.g b.q := h; simp [h]))
  · rcases blks_snc h with q | q
    · exact .inl (vb_mem (by simp [q]))
    · exact .inr (.inr q)
  · exact .inl (vb_mem (by have h : z ∈ blks b.ft b.r := h; simp [h]))

/-- A list of bytes that is no one's is taken. -/
theorem one_take {W w : World} {a : Sta} {k z : Nat} (h : SepI W w a.Dm a.R) (ok : a.Ok (k + 1) z) (hp : a.b.p < 8) (hb : a.b.n + a.b.p + 1 ≤ 2 * (k + 1)) {xo : Option Addr} {m c : Nat} {l : List Nat} (hm : l.length = m) (hl : m ≤ 268435456) (hx : w.ownsRow 0 5 1 (.slice xo m c) m (l.map byt)) (hf : ∀ y ∈ vb (.slice xo m c), W.heap.size ≤ y ∧ ∀ j, a.Dm j → y ∉ (a.R j).F) :
    Calls Try.prog 43 #[.pointer (some ⟨a.b.A, 0, none⟩), .slice xo m c] w fun e w' => e = .returned (.tuple #[]) ∧ ∃ a', Same a a' ∧ (a'.b.p = a.b.p + 1 ∧ a'.b.r = a.b.r ∧ a'.b.n = a.b.n) ∧ SepI W w' a'.Dm a'.R ∧ a'.Ok (k + 1) z ∧ Kept (a.b.A :: vb a.b.o) w w' ∧ (∀ j, a'.Dm j → ∀ y ∈ (a'.R j).F, (∃ j, a.Dm j ∧ y ∈ (a.R j).F) ∨ w.heap.size ≤ y ∨ y ∈ vb (.slice xo m c)) := by
  have hB : BkAt w a.b := h.P (5, 0) rfl
  refine (take_bk hB ok.bok hp xo m c l hm hl hx (fun y hy => (hf y hy).2 (5, 0) rfl)).mono ?_
  rintro e w' ⟨o', rfl, hb', ok', hk, li⟩
  refine ⟨rfl, ({ a with b := { a.b with o := o', p := a.b.p + 1, fo := snc a.b.fo a.b.p ⟨xo, m, c, 0⟩ } } : Sta), ⟨rfl, rfl, rfl, rfl, rfl, rfl, rfl, rfl, rfl, rfl, rfl, rfl, rfl, rfl, rfl, rfl⟩, ⟨rfl, rfl, rfl⟩, StA.stepB h hk (fun y hy => .inl ?_) hb' (fun y hy => ?_), ⟨ok.alk, ok.mok, ok.mokt, ok.len, ok.log, ok.mu, ok.pi, ok.pn, ok', ⟨?_, ok.bn.2⟩, ok.z, ok.k⟩, hk, fun j hj y hy => ?_⟩
  · simp only [List.mem_cons] at hy
    rcases hy with rfl | hy
    · exact vb_mem (by simp)
    · exact vb_mem (by simp [hy])
  · rcases take_F li y hy with q | q | q
    · exact .inl q
    · exact .inr (.inl q)
    · exact .inr (.inr (hf y q))
  · show a.b.n + (a.b.p + 1) ≤ 2 * (k + 1)
    omega
  · rw [Sta.setB_R] at hy
    by_cases e : j.1 = 5
    · rw [if_pos e] at hy
      rcases take_F li y hy with q | q | q
      · exact .inl ⟨(5, 0), rfl, q⟩
      · exact .inr (.inl q)
      · exact .inr (.inr q)
    · rw [if_neg e] at hy
      exact .inl ⟨j, hj, hy⟩

set_option maxHeartbeats 16000000 in
set_option maxRecDepth 1000000 in
theorem reads_bytes (W w : World) (a : Sta) (k z i : Nat) (q : Stp) (h : StA W w a k z) (hi : i < 2) (hk : k + 1 ≤ 2600000000000) (hp : a.b.p ≤ 2) (hr : a.b.r ≤ 2) (kd : q.kd = 11) :
    Calls Try.prog 11 #[.pointer (some ⟨a.X i, 0, none⟩), .pointer (some ⟨a.b.A, 0, none⟩), opv q] w (ReadsP W a k z) := by
  obtain ⟨c, ec⟩ : ∃ c, a.mu i = c := ⟨_, rfl⟩
  have hc : c < a.C := by rw [← ec]; exact h.ok.mu i hi
  obtain ⟨w1, ew1, k1, hb1⟩ := alloc_new w (.cells #[.int .i64 q.kd, .int .i64 q.n, .int .i64 q.m, .bool q.two, .slice q.ao q.mm q.cp] 43 (0, 0))
  have h1 := h.sep.keep k1
  obtain ⟨p0, -, -, -⟩ := pair_cells h1 hi
  rw [ec] at p0
  obtain ⟨o0, -, -, -⟩ := opb.cells hb1
  rw [kd] at o0
  have ok := h.ok
  have lz := ok.len c hc
  have zz := ok.z
  obtain ⟨B, eB⟩ : ∃ B, (a.s c).b = B := ⟨_, rfl⟩
  have lB : B.length ≤ 268435456 := by rw [← eB]; omega
  have tB : (a.t c).b = B := by rw [(ok.alk c hc).b, eB]
  have okr : a.Ok (k + 1) z := ⟨ok.alk, ok.mok, ok.mokt, ok.len, fun d hd => by have := ok.log d hd; omega, ok.mu, ok.pi, fun j hj => by have := ok.pn j hj; omega, ok.bok, ⟨by have := ok.bn.1; omega, by have := ok.bn.2; omega⟩, ok.z, hk⟩
  have bn := ok.bn.1
  have C1 : Hid (∀ u, SepI W u a.Dm a.R → Calls Try.prog 21 #[.pointer (some ⟨a.P c, 0, none⟩)] u fun e w' => ∃ bo bc, e = .returned (.slice bo B.length bc) ∧ Hid (w'.ownsRow u.heap.size 5 1 (.slice bo B.length bc) B.length (B.map byt) ∧ SepI W w' a.Dm a.R ∧ Kept [a.P c] u w')) := Hid.mk (fun u hu => by
    refine (bytes_any u _ _ _ _ (hu.P (0, c) hc) (by rw [eB]; exact lB)).mono ?_
    rintro e w' ⟨bo, bc, rfl, g1, g2, g3⟩
    rw [eB] at g1
    rw [eB]
    exact ⟨bo, bc, rfl, Hid.mk ⟨g1, StA.asked hu hc g3 g2, g3⟩⟩)
  have C2 : Hid (∀ u, SepI W u a.Dm a.R → Calls Try.prog 42 #[.pointer (some ⟨a.D c, 0, none⟩)] u fun e w' => ∃ bo bc, e = .returned (.slice bo B.length bc) ∧ Hid (w'.ownsRow u.heap.size 5 1 (.slice bo B.length bc) B.length (B.map byt) ∧ SepI W w' a.Dm a.R ∧ Kept [] u w')) := Hid.mk (fun u hu => by
    refine (rbytes_any u _ _ _ _ (hu.P (1, c) hc) (by rw [tB]; exact lB)).mono ?_
    rintro e w' ⟨bo, bc, rfl, g1, g3⟩
    rw [tB] at g1
    rw [tB]
    exact ⟨bo, bc, rfl, Hid.mk ⟨g1, hu.keep g3, g3⟩⟩)
  have PC : Hid (∀ u, SepI W u a.Dm a.R → u.cell? ⟨a.X i, 0, none⟩ = some (.pointer (some ⟨a.P c, 0, none⟩)) ∧ u.cell? ⟨a.X i, 1, none⟩ = some (.pointer (some ⟨a.D c, 0, none⟩))) := Hid.mk (fun u hu => by
    obtain ⟨g0, g1, -, -⟩ := pair_cells hu hi
    rw [ec] at g0 g1
    exact ⟨g0, g1⟩)
  have far : Hid (∀ u, SepI W u a.Dm a.R → ∀ x ∈ [a.P c], x < u.heap.size) := Hid.mk (fun u hu x hx => (a.R (0, c)).lt (hu.P (0, c) hc) (inP _ (a.V c) (a.L c) x hx))
  have H1 := Hid.mk h1
  have OKR := Hid.mk okr
  have LB := Hid.mk lB
  clear h h1 ok lz zz eB lB tB okr
  unfold opv
  rw [kd] at ew1 ⊢
  clear kd
  go_enter Try.func11, Try.ntmps11
  go_wp2_with (fail)
  refine (C1.out w1 H1.out).mono ?_
  rintro e w2 ⟨xo, xc, rfl, R2⟩
  obtain ⟨p0', -⟩ := PC.out w2 R2.out.2.1
  clear p0
  go_wp2_with (fail)
  refine (C1.out w2 R2.out.2.1).mono ?_
  rintro e w3 ⟨yo, yc, rfl, R3⟩
  obtain ⟨-, p1⟩ := PC.out w3 R3.out.2.1
  clear p0'
  go_wp2_with (fail)
  refine (C2.out w3 R3.out.2.1).mono ?_
  rintro e w4 ⟨vo, vc, rfl, R4⟩
  have s2 := R2.out.2.2.size
  have s3 := R3.out.2.2.size
  have s4 := R4.out.2.2.size
  have x3 : w3.ownsRow w1.heap.size 5 1 (.slice xo B.length xc) B.length (B.map byt) := R3.out.2.2.row R2.out.1 (fun g hg hm => by
    have h8 := far.out w1 H1.out g hm
    have h9 := own_new R2.out.1 g (by rw [hg]; simp)
    omega)
  have x4 := R4.out.2.2.row x3 (by simp)
  have y4 := R4.out.2.2.row R3.out.1 (by simp)
  have cv1 := reads_str (reads_row x4) xc
  have cv2 := reads_str (reads_row y4) yc
  have cv3 := reads_str (reads_row R4.out.1) vc
  have fx : ∀ z ∈ vb (.slice xo B.length xc), w1.heap.size ≤ z ∧ z < w2.heap.size := fun z hz => ⟨own_new R2.out.1 z hz, own_lt R2.out.1 z hz⟩
  have fy : ∀ z ∈ vb (.slice yo B.length yc), w2.heap.size ≤ z ∧ z < w3.heap.size := fun z hz => ⟨own_new R3.out.1 z hz, own_lt R3.out.1 z hz⟩
  have fv : ∀ z ∈ vb (.slice vo B.length vc), w3.heap.size ≤ z ∧ z < w4.heap.size := fun z hz => ⟨own_new R4.out.1 z hz, own_lt R4.out.1 z hz⟩
  have D5 := Hid.mk (one_take R4.out.2.1 OKR.out (by omega) (by omega) rfl LB.out (own_zero x4) (fun y hy => ⟨(fresh_new H1.out (fx y hy).1).1, (fresh_new H1.out (fx y hy).1).2⟩))
  have FX := Hid.mk (And.intro fx (And.intro fy fv))
  have Y4 := Hid.mk (And.intro y4 R4.out.1)
  have S := Hid.mk (And.intro s2 (And.intro s3 s4))
  clear p1 x3 x4 y4 fx fy fv s2 s3 s4
  go_wp2_with (fail)
  with_reducible refine D5.out.mono ?_
  rintro e w5 ⟨rfl, a1, sm, ⟨q1, q2, q3⟩, h5, ok5, k5, f5⟩
  have lA : ∀ z ∈ a.b.A :: vb a.b.o, z < w1.heap.size := fun z hz => (a.R (5, 0)).lt (H1.out.P (5, 0) rfl) (by
    show z ∈ a.b.F
    simp only [List.mem_cons] at hz
    rcases hz with rfl | hz
    · exact vb_mem (by simp)
    · exact vb_mem (by simp [hz]))
  have lth : ∀ j, a.Dm j → ∀ y ∈ (a.R j).F, y < w1.heap.size := fun j hj y hy => (a.R j).lt (H1.out.P j hj) hy
  have y5 : w5.ownsRow 0 5 1 (.slice yo B.length yc) B.length (B.map byt) := own_zero (k5.row Y4.out.1 (fun g hg hm => by
    have h8 := lA g hm
    have h9 := (FX.out.2.1 g (by simp [vb, hg])).1
    have := S.out
    omega))
  have v5 : w5.ownsRow 0 5 1 (.slice vo B.length vc) B.length (B.map byt) := own_zero (k5.row Y4.out.2 (fun g hg hm => by
    have h8 := lA g hm
    have h9 := (FX.out.2.2 g (by simp [vb, hg])).1
    have := S.out
    omega))
  have C6 := Hid.mk (both_held h5 ok5 (by omega) (by omega) LB.out y5 v5 (fun y hy => by
    have hs := S.out
    have hr1 : w2.heap.size ≤ y ∧ y < w4.heap.size := by
      rcases hy with hy | hy
      · have := FX.out.2.1 y hy; omega
      · have := FX.out.2.2 y hy; omega
    refine ⟨by have := H1.out.old.size; omega, fun j hj hm => ?_⟩
    rcases f5 j hj y hm with ⟨j', hj', q'⟩ | q' | q'
    · have := lth j' hj' y q'; omega
    · omega
    · have := FX.out.1 y q'; omega) (fun y hy hm => by
    have := FX.out.2.1 y hy
    have := FX.out.2.2 y hm
    omega))
  rw [sm.A] at C6
  have SM := Hid.mk (And.intro sm (And.intro q1 q2))
  clear D5 lA lth y5 v5 h5 ok5 k5 f5 sm q1 q2 q3 cv1 cv2 cv3
  go_wp2_with (fail)
  with_reducible refine C6.out.mono ?_
  rintro e w6 ⟨rfl, a2, sm2, hp2, hr2, st, -, -⟩
  have FN := Hid.mk (And.intro sm2 (And.intro hp2 (And.intro hr2 st)))
  clear C6 sm2 hp2 hr2 st
  go_wp2
  go_ret
  refine ⟨by simp, a2, SM.out.1.trans FN.out.1, ?_, ?_, FN.out.2.2.2⟩
  · have := FN.out.2.1
    have := SM.out.2.1
    omega
  · have := FN.out.2.2.1
    have := SM.out.2.2
    omega
end Go.Proofs.Ytiojcfffhcipnaa
