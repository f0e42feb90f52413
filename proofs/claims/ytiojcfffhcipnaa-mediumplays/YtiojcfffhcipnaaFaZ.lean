import Derived.Test.YtiojcfffhcipnaaEiZ
import Derived.Test.YtiojcfffhcipnaaEk
import Derived.Test.YtiojcfffhcipnaaEmZ
import Derived.Test.YtiojcfffhcipnaaErZ
import Derived.Test.YtiojcfffhcipnaaEuZ
import Derived.Test.YtiojcfffhcipnaaEe
import Derived.Test.YtiojcfffhcipnaaMj
import Derived.Test.YtiojcfffhcipnaaOo
namespace Go.Proofs.Ytiojcfffhcipnaa
open Go.RowKit

/-- A step of any kind. -/
theorem step_any (W w : World) (a : Sta) (k z i : Nat) (q : Stp) (h : StA W w a k z) (hi : i < 2) (hk : k + 1 ≤ 2600000000000) (hp : a.b.p = 0) (hr : a.b.r = 0) (hq : Stp.Ok W q) (hz : z + q.mm ≤ 268435456) :
    Calls Try.prog 10 #[.pointer (some ⟨a.X i, 0, none⟩), .pointer (some ⟨a.b.A, 0, none⟩), opv q] w (StepP W a k (z + q.mm)) := by
  by_cases n1 : q.kd = 1
  · exact step_reads1 W w a k z i q h hi hk hp hr hq hz n1
  by_cases n2 : q.kd = 2
  · exact step_append W w a k z i q h hi hk hp hr hq hz n2
  by_cases n3 : q.kd = 3
  · exact step_arm W w a k z i q h hi hk hp hr hq hz n3
  by_cases n4 : q.kd = 4
  · exact step_revive W w a k z i q h hi hk hp hr hq hz n4
  by_cases n5 : q.kd = 5
  · exact step_over W w a k z i q h hi hk hp hr hq hz n5
  by_cases n6 : q.kd = 6
  · exact step_trunc W w a k z i q h hi hk hp hr hq hz n6
  by_cases n7 : q.kd = 7
  · exact step_reads7 W w a k z i q h hi hk hp hr hq hz n7
  by_cases n8 : q.kd = 8
  · exact step_forget W w a k z i q h hi hk hp hr hq hz n8
  by_cases n9 : q.kd = 9
  · cases hin : inB q.n q.m ((a.s (a.mu i)).b.length : Int) with
    | true => exact step_piece_yes W w a k z i q h hi hk hp hr hq hz n9 hin
    | false => exact step_piece_no W w a k z i q h hi hk hp hr hq hz n9 hin
  by_cases n10 : q.kd = 10
  · exact step_reads10 W w a k z i q h hi hk hp hr hq hz n10
  by_cases n11 : q.kd = 11
  · exact step_reads11 W w a k z i q h hi hk hp hr hq hz n11
  by_cases n12 : q.kd = 12
  · exact step_load W w a k z i q h hi hk hp hr hq hz n12
  exact step_none W w a k z i q h hi hk hp hr hq hz ⟨n1, n2, n3, n4, n5, n6, n7, n8, n9, n10, n11, n12⟩
end Go.Proofs.Ytiojcfffhcipnaa

namespace Go.Proofs.Ytiojcfffhcipnaa
open Go.RowKit

/-- What a telling of all bytes, or of the log, leaves. -/
def ReadsB (W : World) (a : Sta) (k z : Nat) (e : Ending) (w' : World) : Prop := e = .returned (.bool true) ∧ ∃ a', Same a a' ∧ a'.b.p ≤ a.b.p + 2 ∧ a'.b.r ≤ a.b.r ∧ StA W w' a' (k + 1) z
def ReadsL (W : World) (a : Sta) (k z : Nat) (e : Ending) (w' : World) : Prop := e = .returned (.bool true) ∧ ∃ a', Same a a' ∧ a'.b.p ≤ a.b.p ∧ a'.b.r ≤ a.b.r + 2 ∧ StA W w' a' (k + 1) z

set_option maxHeartbeats 16000000 in
set_option maxRecDepth 1000000 in
theorem reads_bytes4 (W w : World) (a : Sta) (k z i : Nat) (q : Stp) (h : StA W w a k z) (hi : i < 2) (hk : k + 1 ≤ 2600000000000) (hp : a.b.p ≤ 4) (kd : q.kd = 11) :
    Calls Try.prog 11 #[.pointer (some ⟨a.X i, 0, none⟩), .pointer (some ⟨a.b.A, 0, none⟩), opv q] w (ReadsB W a k z) := by
  obtain ⟨c, ec⟩ : ∃ c, a.mu i = c := ⟨_, rfl⟩
  have hc : c < a.C := by rw [← ec]; exact h.ok.mu i hi
  obtain ⟨w1, ew1, k1, hb1⟩ := alloc_new w (.cells #[.int .i64 q.kd, .int .i64 q.n, .int .i64 q.m, .bool q.two, .slice q.ao q.mm q.cp] 43 (0, 0))
  have h1 := h.sep.keep k1
  obtain ⟨p0, -, -, -⟩ := pair_cells h1 hi
  rw [ec] at p0
  obtain ⟨o0, -, -, -⟩ := opb.cells hb1
  rw [kd] at o0
  have ok := h.ok
  have lz := ok.len c hc
  have zz := ok.z
  obtain ⟨B, eB⟩ : ∃ B, (a.s c).b = B := ⟨_, rfl⟩
  have lB : B.length ≤ 268435456 := by rw [← eB]; omega
  have tB : (a.t c).b = B := by rw [(ok.alk c hc).b, eB]
  have okr : a.Ok (k + 1) z := ⟨ok.alk, ok.mok, ok.mokt, ok.len, fun d hd => by have := ok.log d hd; omega, ok.mu, ok.pi, fun j hj => by have := ok.pn j hj; omega, ok.bok, ⟨by have := ok.bn.1; omega, by have := ok.bn.2; omega⟩, ok.z, hk⟩
  have bn := ok.bn.1
  have C1 : Hid (∀ u, SepI W u a.Dm a.R → Calls Try.prog 21 #[.pointer (some ⟨a.P c, 0, none⟩)] u fun e w' => ∃ bo bc, e = .returned (.slice bo B.length bc) ∧ Hid (w'.ownsRow u.heap.size 5 1 (.slice bo B.length bc) B.length (B.map byt) ∧ SepI W w' a.Dm a.R ∧ Kept [a.P c] u w')) := Hid.mk (fun u hu => by
    refine (bytes_any u _ _ _ _ (hu.P (0, c) hc) (by rw [eB]; exact lB)).mono ?_
    rintro e w' ⟨bo, bc, rfl, g1, g2, g3⟩
    rw [eB] at g1
    rw [eB]
    exact ⟨bo, bc, rfl, Hid.mk ⟨g1, StA.asked hu hc g3 g2, g3⟩⟩)
  have C2 : Hid (∀ u, SepI W u a.Dm a.R → Calls Try.prog 42 #[.pointer (some ⟨a.D c, 0, none⟩)] u fun e w' => ∃ bo bc, e = .returned (.slice bo B.length bc) ∧ Hid (w'.ownsRow u.heap.size 5 1 (.slice bo B.length bc) B.length (B.map byt) ∧ SepI W w' a.Dm a.R ∧ Kept [] u w')) := Hid.mk (fun u hu => by
    refine (rbytes_any u _ _ _ _ (hu.P (1, c) hc) (by rw [tB]; exact lB)).mono ?_
    rintro e w' ⟨bo, bc, rfl, g1, g3⟩
    rw [tB] at g1
    rw [tB]
    exact ⟨bo, bc, rfl, Hid.mk ⟨g1, hu.keep g3, g3⟩⟩)
  have PC : Hid (∀ u, SepI W u a.Dm a.R → u.cell? ⟨a.X i, 0, none⟩ = some (.pointer (some ⟨a.P c, 0, none⟩)) ∧ u.cell? ⟨a.X i, 1, none⟩ = some (.pointer (some ⟨a.D c, 0, none⟩))) := Hid.mk (fun u hu => by
    obtain ⟨g0, g1, -, -⟩ := pair_cells hu hi
    rw [ec] at g0 g1
    exact ⟨g0, g1⟩)
  have far : Hid (∀ u, SepI W u a.Dm a.R → ∀ x ∈ [a.P c], x < u.heap.size) := Hid.mk (fun u hu x hx => (a.R (0, c)).lt (hu.P (0, c) hc) (inP _ (a.V c) (a.L c) x hx))
  have H1 := Hid.mk h1
  have OKR := Hid.mk okr
  have LB := Hid.mk lB
  clear h h1 ok lz zz eB lB tB okr
  unfold opv
  rw [kd] at ew1 ⊢
  clear kd
  go_enter Try.func11, Try.ntmps11
  go_wp2_with (fail)
  refine (C1.out w1 H1.out).mono ?_
  rintro e w2 ⟨xo, xc, rfl, R2⟩
  obtain ⟨p0', -⟩ := PC.out w2 R2.out.2.1
  clear p0
  go_wp2_with (fail)
  refine (C1.out w2 R2.out.2.1).mono ?_
  rintro e w3 ⟨yo, yc, rfl, R3⟩
  obtain ⟨-, p1⟩ := PC.out w3 R3.out.2.1
  clear p0'
  go_wp2_with (fail)
  refine (C2.out w3 R3.out.2.1).mono ?_
  rintro e w4 ⟨vo, vc, rfl, R4⟩
  have s2 := R2.out.2.2.size
  have s3 := R3.out.2.2.size
  have s4 := R4.out.2.2.size
  have x3 : w3.ownsRow w1.heap.size 5 1 (.slice xo B.length xc) B.length (B.map byt) := R3.out.2.2.row R2.out.1 (fun g hg hm => by
    have h8 := far.out w1 H1.out g hm
    have h9 := own_new R2.out.1 g (by rw [hg]; simp)
    omega)
  have x4 := R4.out.2.2.row x3 (by simp)
  have y4 := R4.out.2.2.row R3.out.1 (by simp)
  have cv1 := reads_str (reads_row x4) xc
  have cv2 := reads_str (reads_row y4) yc
  have cv3 := reads_str (reads_row R4.out.1) vc
  have fx : ∀ z ∈ vb (.slice xo B.length xc), w1.heap.size ≤ z ∧ z < w2.heap.size := fun z hz => ⟨own_new R2.out.1 z hz, own_lt R2.out.1 z hz⟩
  have fy : ∀ z ∈ vb (.slice yo B.length yc), w2.heap.size ≤ z ∧ z < w3.heap.size := fun z hz => ⟨own_new R3.out.1 z hz, own_lt R3.out.1 z hz⟩
  have fv : ∀ z ∈ vb (.slice vo B.length vc), w3.heap.size ≤ z ∧ z < w4.heap.size := fun z hz => ⟨own_new R4.out.1 z hz, own_lt R4.out.1 z hz⟩
  have D5 := Hid.mk (one_take R4.out.2.1 OKR.out (by omega) (by omega) rfl LB.out (own_zero x4) (fun y hy => ⟨(fresh_new H1.out (fx y hy).1).1, (fresh_new H1.out (fx y hy).1).2⟩))
  have FX := Hid.mk (And.intro fx (And.intro fy fv))
  have Y4 := Hid.mk (And.intro y4 R4.out.1)
  have S := Hid.mk (And.intro s2 (And.intro s3 s4))
  clear p1 x3 x4 y4 fx fy fv s2 s3 s4
  go_wp2_with (fail)
  with_reducible refine D5.out.mono ?_
  rintro e w5 ⟨rfl, a1, sm, ⟨q1, q2, q3⟩, h5, ok5, k5, f5⟩
  have lA : ∀ z ∈ a.b.A :: vb a.b.o, z < w1.heap.size := fun z hz => (a.R (5, 0)).lt (H1.out.P (5, 0) rfl) (by
    show z ∈ a.b.F
    simp only [List.mem_cons] at hz
    rcases hz with rfl | hz
    · exact vb_mem (by simp)
    · exact vb_mem (by simp [hz]))
  have lth : ∀ j, a.Dm j → ∀ y ∈ (a.R j).F, y < w1.heap.size := fun j hj y hy => (a.R j).lt (H1.out.P j hj) hy
  have y5 : w5.ownsRow 0 5 1 (.slice yo B.length yc) B.length (B.map byt) := own_zero (k5.row Y4.out.1 (fun g hg hm => by
    have h8 := lA g hm
    have h9 := (FX.out.2.1 g (by simp [vb, hg])).1
    have := S.out
    omega))
  have v5 : w5.ownsRow 0 5 1 (.slice vo B.length vc) B.length (B.map byt) := own_zero (k5.row Y4.out.2 (fun g hg hm => by
    have h8 := lA g hm
    have h9 := (FX.out.2.2 g (by simp [vb, hg])).1
    have := S.out
    omega))
  have C6 := Hid.mk (both_held h5 ok5 (by omega) (by omega) LB.out y5 v5 (fun y hy => by
    have hs := S.out
    have hr1 : w2.heap.size ≤ y ∧ y < w4.heap.size := by
      rcases hy with hy | hy
      · have := FX.out.2.1 y hy; omega
      · have := FX.out.2.2 y hy; omega
    refine ⟨by have := H1.out.old.size; omega, fun j hj hm => ?_⟩
    rcases f5 j hj y hm with ⟨j', hj', q'⟩ | q' | q'
    · have := lth j' hj' y q'; omega
    · omega
    · have := FX.out.1 y q'; omega) (fun y hy hm => by
    have := FX.out.2.1 y hy
    have := FX.out.2.2 y hm
    omega))
  rw [sm.A] at C6
  have SM := Hid.mk (And.intro sm (And.intro q1 q2))
  clear D5 lA lth y5 v5 h5 ok5 k5 f5 sm q1 q2 q3 cv1 cv2 cv3
  go_wp2_with (fail)
  with_reducible refine C6.out.mono ?_
  rintro e w6 ⟨rfl, a2, sm2, hp2, hr2, st, -, -⟩
  have FN := Hid.mk (And.intro sm2 (And.intro hp2 (And.intro hr2 st)))
  clear C6 sm2 hp2 hr2 st
  go_wp2
  go_ret
  refine ⟨by simp, a2, SM.out.1.trans FN.out.1, ?_, ?_, FN.out.2.2.2⟩
  · have := FN.out.2.1
    have := SM.out.2.1
    omega
  · have := FN.out.2.2.1
    have := SM.out.2.2
    omega
set_option maxHeartbeats 16000000 in
set_option maxRecDepth 1000000 in
theorem reads_log4 (W w : World) (a : Sta) (k z i : Nat) (q : Stp) (h : StA W w a k z) (hi : i < 2) (hk : k + 1 ≤ 2600000000000) (hr : a.b.r ≤ 4) (kd : q.kd = 7) :
    Calls Try.prog 11 #[.pointer (some ⟨a.X i, 0, none⟩), .pointer (some ⟨a.b.A, 0, none⟩), opv q] w (ReadsL W a k z) := by
  obtain ⟨c, ec⟩ : ∃ c, a.mu i = c := ⟨_, rfl⟩
  have hc : c < a.C := by rw [← ec]; exact h.ok.mu i hi
  obtain ⟨w1, ew1, k1, hb1⟩ := alloc_new w (.cells #[.int .i64 q.kd, .int .i64 q.n, .int .i64 q.m, .bool q.two, .slice q.ao q.mm q.cp] 43 (0, 0))
  have h1 := h.sep.keep k1
  obtain ⟨p0, -, -, -⟩ := pair_cells h1 hi
  rw [ec] at p0
  obtain ⟨o0, -, -, -⟩ := opb.cells hb1
  rw [kd] at o0
  have ok := h.ok
  have lz := ok.log c hc
  have kk := ok.k
  have zz := ok.z
  obtain ⟨B, eB⟩ : ∃ B, (a.s c).g = B := ⟨_, rfl⟩
  have lB : B.length ≤ 6000000000000 := by rw [← eB]; omega
  have tB : (a.t c).g = B := by rw [(ok.alk c hc).g, eB]
  have okr : a.Ok (k + 1) z := ⟨ok.alk, ok.mok, ok.mokt, ok.len, fun d hd => by have := ok.log d hd; omega, ok.mu, ok.pi, fun j hj => by have := ok.pn j hj; omega, ok.bok, ⟨by have := ok.bn.1; omega, by have := ok.bn.2; omega⟩, ok.z, hk⟩
  have bn := ok.bn.2
  have C1 : Hid (∀ u, SepI W u a.Dm a.R → Calls Try.prog 23 #[.pointer (some ⟨a.P c, 0, none⟩)] u fun e w' => ∃ bo bc, e = .returned (.slice bo B.length bc) ∧ Hid (w'.ownsRow u.heap.size 63 2 (.slice bo B.length bc) B.length (spc B) ∧ SepI W w' a.Dm a.R ∧ Kept [a.P c] u w')) := Hid.mk (fun u hu => by
    refine (log_any u _ _ _ _ (hu.P (0, c) hc) (by rw [eB]; omega)).mono ?_
    rintro e w' ⟨bo, bc, rfl, g1, g2, g3⟩
    rw [eB] at g1
    rw [eB]
    exact ⟨bo, bc, rfl, Hid.mk ⟨g1, StA.asked hu hc g3 g2, g3⟩⟩)
  have C2 : Hid (∀ u, SepI W u a.Dm a.R → Calls Try.prog 44 #[.pointer (some ⟨a.D c, 0, none⟩)] u fun e w' => ∃ bo bc, e = .returned (.slice bo B.length bc) ∧ Hid (w'.ownsRow u.heap.size 63 2 (.slice bo B.length bc) B.length (spc B) ∧ SepI W w' a.Dm a.R ∧ Kept [] u w')) := Hid.mk (fun u hu => by
    refine (rlog_any u _ _ _ _ (hu.P (1, c) hc) (by rw [tB]; omega)).mono ?_
    rintro e w' ⟨bo, bc, rfl, g1, g3⟩
    rw [tB] at g1
    rw [tB]
    exact ⟨bo, bc, rfl, Hid.mk ⟨g1, hu.keep g3, g3⟩⟩)
  have PC : Hid (∀ u, SepI W u a.Dm a.R → u.cell? ⟨a.X i, 0, none⟩ = some (.pointer (some ⟨a.P c, 0, none⟩)) ∧ u.cell? ⟨a.X i, 1, none⟩ = some (.pointer (some ⟨a.D c, 0, none⟩))) := Hid.mk (fun u hu => by
    obtain ⟨g0, g1, -, -⟩ := pair_cells hu hi
    rw [ec] at g0 g1
    exact ⟨g0, g1⟩)
  have far : Hid (∀ u, SepI W u a.Dm a.R → ∀ x ∈ [a.P c], x < u.heap.size) := Hid.mk (fun u hu x hx => (a.R (0, c)).lt (hu.P (0, c) hc) (inP _ (a.V c) (a.L c) x hx))
  have H1 := Hid.mk h1
  have OKR := Hid.mk okr
  have LB := Hid.mk lB
  clear h h1 ok lz kk zz eB lB tB okr
  unfold opv
  rw [kd] at ew1 ⊢
  clear kd
  go_enter Try.func11, Try.ntmps11
  go_wp2_with (fail)
  refine (C1.out w1 H1.out).mono ?_
  rintro e w2 ⟨xo, xc, rfl, R2⟩
  obtain ⟨p0', -⟩ := PC.out w2 R2.out.2.1
  clear p0
  go_wp2_with (fail)
  refine (C1.out w2 R2.out.2.1).mono ?_
  rintro e w3 ⟨yo, yc, rfl, R3⟩
  obtain ⟨-, p1⟩ := PC.out w3 R3.out.2.1
  clear p0'
  go_wp2_with (fail)
  refine (C2.out w3 R3.out.2.1).mono ?_
  rintro e w4 ⟨vo, vc, rfl, R4⟩
  have s2 := R2.out.2.2.size
  have s3 := R3.out.2.2.size
  have s4 := R4.out.2.2.size
  have x3 : w3.ownsRow w1.heap.size 63 2 (.slice xo B.length xc) B.length (spc B) := R3.out.2.2.row R2.out.1 (fun g hg hm => by
    have h8 := far.out w1 H1.out g hm
    have h9 := own_new R2.out.1 g (by rw [hg]; simp)
    omega)
  have x4 := R4.out.2.2.row x3 (by simp)
  have y4 := R4.out.2.2.row R3.out.1 (by simp)
  have CA := Hid.mk (sameSpans_any xo vo B.length xc vc _ _ B w4 x4 R4.out.1 rfl (by have := LB.out; omega))
  have CB : Hid (∀ u, Kept [] w4 u → Calls Try.prog 24 #[.slice yo B.length yc, .slice vo B.length vc] u fun e w' => e = .returned (.bool true) ∧ Kept [] u w') := Hid.mk (fun u hu => sameSpans_any yo vo B.length yc vc _ _ B u (hu.row y4 (by simp)) (hu.row R4.out.1 (by simp)) rfl (by have := LB.out; omega))
  have X4 := Hid.mk x4
  have fx : ∀ z ∈ vb (.slice xo B.length xc), w1.heap.size ≤ z ∧ z < w2.heap.size := fun z hz => ⟨own_new R2.out.1 z hz, own_lt R2.out.1 z hz⟩
  have fy : ∀ z ∈ vb (.slice yo B.length yc), w2.heap.size ≤ z ∧ z < w3.heap.size := fun z hz => ⟨own_new R3.out.1 z hz, own_lt R3.out.1 z hz⟩
  have fv : ∀ z ∈ vb (.slice vo B.length vc), w3.heap.size ≤ z ∧ z < w4.heap.size := fun z hz => ⟨own_new R4.out.1 z hz, own_lt R4.out.1 z hz⟩
  have FX := Hid.mk (And.intro fx (And.intro fy fv))
  have Y4 := Hid.mk (And.intro y4 R4.out.1)
  have S := Hid.mk (And.intro s2 (And.intro s3 s4))
  clear p1 x3 x4 y4 fx fy fv s2 s3 s4
  go_wp2_with (fail)
  with_reducible refine CA.out.mono ?_
  rintro e v5 ⟨rfl, kv5⟩
  have CB5 := Hid.mk (CB.out v5 kv5)
  have KV5 := Hid.mk kv5
  clear CA CB kv5
  go_wp2_with (fail)
  with_reducible refine CB5.out.mono ?_
  rintro e v6 ⟨rfl, kv6⟩
  have kv : Kept [] w4 v6 := KV5.out.trans kv6
  have R6 : Hid (SepI W v6 a.Dm a.R ∧ Kept [] w4 v6) := Hid.mk ⟨R4.out.2.1.keep kv, kv⟩
  have x6 := kv.row X4.out (by simp)
  have D5 := Hid.mk (one_tells R6.out.1 OKR.out (by omega) (by omega) LB.out (own_zero x6) (fun y hy => ⟨(fresh_new H1.out (FX.out.1 y hy).1).1, (fresh_new H1.out (FX.out.1 y hy).1).2⟩))
  clear CB5 KV5 kv6 kv x6
  go_wp2_with (fail)
  with_reducible refine D5.out.mono ?_
  rintro e w5 ⟨rfl, a1, sm, ⟨q1, q2, q3⟩, h5, ok5, k5, f5⟩
  have lA : ∀ z ∈ a.b.A :: vb a.b.t, z < w1.heap.size := fun z hz => (a.R (5, 0)).lt (H1.out.P (5, 0) rfl) (by
    show z ∈ a.b.F
    simp only [List.mem_cons] at hz
    rcases hz with rfl | hz
    · exact vb_mem (by simp)
    · exact vb_mem (by simp [hz]))
  have lth : ∀ j, a.Dm j → ∀ y ∈ (a.R j).F, y < w1.heap.size := fun j hj y hy => (a.R j).lt (H1.out.P j hj) hy
  have y5 : w5.ownsRow 0 63 2 (.slice yo B.length yc) B.length (spc B) := own_zero (k5.row (R6.out.2.row Y4.out.1 (by simp)) (fun g hg hm => by
    have h8 := lA g hm
    have h9 := (FX.out.2.1 g (by simp [vb, hg])).1
    have := S.out
    omega))
  have v5 : w5.ownsRow 0 63 2 (.slice vo B.length vc) B.length (spc B) := own_zero (k5.row (R6.out.2.row Y4.out.2 (by simp)) (fun g hg hm => by
    have h8 := lA g hm
    have h9 := (FX.out.2.2 g (by simp [vb, hg])).1
    have := S.out
    omega))
  have C6 := Hid.mk (both_heldS h5 ok5 (by omega) (by omega) LB.out y5 v5 (fun y hy => by
    have hs := S.out
    have hs6 := R6.out.2.size
    have hr1 : w2.heap.size ≤ y ∧ y < w4.heap.size := by
      rcases hy with hy | hy
      · have := FX.out.2.1 y hy; omega
      · have := FX.out.2.2 y hy; omega
    refine ⟨by have := H1.out.old.size; omega, fun j hj hm => ?_⟩
    rcases f5 j hj y hm with ⟨j', hj', q'⟩ | q' | q'
    · have := lth j' hj' y q'; omega
    · omega
    · have := FX.out.1 y q'; omega) (fun y hy hm => by
    have := FX.out.2.1 y hy
    have := FX.out.2.2 y hm
    omega))
  rw [sm.A] at C6
  have SM := Hid.mk (And.intro sm (And.intro q1 q2))
  clear D5 lA lth y5 v5 h5 ok5 k5 f5 sm q1 q2 q3
  go_wp2_with (fail)
  with_reducible refine C6.out.mono ?_
  rintro e w6 ⟨rfl, a2, sm2, hp2, hr2, st, -, -⟩
  have FN := Hid.mk (And.intro sm2 (And.intro hp2 (And.intro hr2 st)))
  clear C6 sm2 hp2 hr2 st
  go_wp2
  go_ret
  refine ⟨by simp, a2, SM.out.1.trans FN.out.1, ?_, ?_, FN.out.2.2.2⟩
  · have := FN.out.2.2.1
    have := SM.out.2.2
    omega
  · have := FN.out.2.1
    have := SM.out.2.1
    omega
end Go.Proofs.Ytiojcfffhcipnaa

namespace Go.Proofs.Ytiojcfffhcipnaa
open Go.RowKit

/-- What a play begins with. -/
def nil0 : Value := .slice none 0 0
def hd0 : Nat → Hd := fun _ => ⟨none, 0, 0, 0⟩
def bk0 (A : Nat) : Bk := ⟨A, .slice none 0 0, .slice none 0 0, .slice none 0 0, .slice none 0 0, .slice none 0 0, .slice none 0 0, .slice none 0 0, .slice none 0 0, 0, 0, 0, 0, hd0, hd0, hd0, hd0, [], []⟩
def sta0 (A P0 D0 X0 P1 D1 X1 : Nat) : Sta where
  C := 2
  P := fun j => if j = 0 then P0 else P1
  D := fun j => if j = 0 then D0 else D1
  V := fun _ => .slice none 0 0
  L := fun _ => .slice none 0 0
  U := fun _ => .slice none 0 0
  M := fun _ => .slice none 0 0
  s := fun _ => ⟨[], [], false, 0, 0⟩
  t := fun _ => ⟨[], [], false, 0, 0⟩
  X := fun j => if j = 0 then X0 else X1
  mu := fun j => if j = 0 then 0 else 1
  S := fun _ => .slice none 0 0
  T := fun _ => .slice none 0 0
  n := fun _ => 0
  rp := fun _ _ => 0
  dp := fun _ _ => 0
  pi := fun _ _ => 0
  pa := fun _ _ => 0
  pl := fun _ _ => 0
  b := bk0 A
  ne := 0
  e := fun _ => obj 0 (.cells #[] 0 (0, 0))
theorem Apt.none (k u : Value) (hk : k = .slice none 0 0) : Apt 0 0 hd0 hd0 k u := ⟨fun _ _ h => absurd h (by omega), fun _ _ h => absurd h (by omega), fun _ h => absurd h (by omega), fun _ h => absurd h (by omega), fun x hx => by subst hk; simp [vb, Value.ownBlock] at hx⟩
theorem bk0_at {w : World} {A : Nat} (h : Bx w A (.slice none 0 0) (.slice none 0 0) (.slice none 0 0) (.slice none 0 0) (.slice none 0 0) (.slice none 0 0) (.slice none 0 0) (.slice none 0 0)) : BkAt w (bk0 A) :=
  ⟨h, ⟨own_nil _ _ _ _, fun _ h => absurd h (by show ¬ _ < 0; omega)⟩, ⟨own_nil _ _ _ _, fun _ h => absurd h (by show ¬ _ < 0; omega)⟩, own_nil _ _ _ _, fun _ h => absurd h (by show ¬ _ < 0; omega), own_nil _ _ _ _, fun _ h => absurd h (by show ¬ _ < 0; omega), own_nil _ _ _ _, own_nil _ _ _ _, own_nil _ _ _ _, own_nil _ _ _ _, Apt.none _ _ rfl, Apt.none _ _ rfl⟩
theorem sta0_ok (A P0 D0 X0 P1 D1 X1 : Nat) : (sta0 A P0 D0 X0 P1 D1 X1).Ok 0 0 := by
  have mn : Mok ⟨[], [], false, 0, 0⟩ := ⟨by simp, fun _ h => absurd h (by simp), by simp, by simp, by simp, by simp⟩
  refine ⟨fun _ _ => Alk.refl _, fun _ _ => mn, fun _ _ => mn, fun _ _ => by simp [sta0], fun _ _ => by simp [sta0], fun i hi => ?_, fun _ _ _ h => absurd h (by show ¬ _ < 0; omega), fun _ _ => by simp [sta0], ⟨by simp [sta0, bk0], by simp [sta0, bk0], by simp [sta0, bk0], by simp [sta0, bk0], fun _ h => absurd h (by show ¬ _ < 0; omega), fun _ h => absurd h (by show ¬ _ < 0; omega), fun _ h => absurd h (by show ¬ _ < 0; omega), fun _ h => absurd h (by show ¬ _ < 0; omega), by simp [sta0, bk0], by simp [sta0, bk0]⟩, by simp [sta0, bk0], by simp, by simp⟩
  show (if i = 0 then 0 else 1) < 2
  split <;> omega
theorem sta0_sep {W w : World} {A P0 D0 X0 P1 D1 X1 : Nat} (old : Kept [] W w) (hA : W.heap.size ≤ A) (h1 : A < P0) (h2 : P0 < D0) (h3 : D0 < X0) (h4 : X0 < P1) (h5 : P1 < D1) (h6 : D1 < X1)
    (b : Bx w A (.slice none 0 0) (.slice none 0 0) (.slice none 0 0) (.slice none 0 0) (.slice none 0 0) (.slice none 0 0) (.slice none 0 0) (.slice none 0 0))
    (m0 : Med w P0 (.slice none 0 0) (.slice none 0 0) ⟨[], [], false, 0, 0⟩ 0) (r0 : Rmd w D0 (.slice none 0 0) (.slice none 0 0) ⟨[], [], false, 0, 0⟩) (m1 : Med w P1 (.slice none 0 0) (.slice none 0 0) ⟨[], [], false, 0, 0⟩ 0) (r1 : Rmd w D1 (.slice none 0 0) (.slice none 0 0) ⟨[], [], false, 0, 0⟩)
    (x0 : w.heap[X0]? = some (.cells #[.pointer (some ⟨P0, 0, none⟩), .pointer (some ⟨D0, 0, none⟩), .slice none 0 0, .slice none 0 0] 41 (0, 0))) (x1 : w.heap[X1]? = some (.cells #[.pointer (some ⟨P1, 0, none⟩), .pointer (some ⟨D1, 0, none⟩), .slice none 0 0, .slice none 0 0] 41 (0, 0))) :
    SepI W w (sta0 A P0 D0 X0 P1 D1 X1).Dm (sta0 A P0 D0 X0 P1 D1 X1).R := by
  have ft : ∀ P x, x ∈ foot P (.slice none 0 0) (.slice none 0 0) → x = P := fun P x hx => by simpa [foot, Value.ownBlock] using hx
  have F : ∀ i, (sta0 A P0 D0 X0 P1 D1 X1).Dm i → ∀ x ∈ ((sta0 A P0 D0 X0 P1 D1 X1).R i).F, (i = (0, 0) ∧ x = P0) ∨ (i = (0, 1) ∧ x = P1) ∨ (i = (1, 0) ∧ x = D0) ∨ (i = (1, 1) ∧ x = D1) ∨ (i = (2, 0) ∧ x = X0) ∨ (i = (2, 1) ∧ x = X1) ∨ (i = (5, 0) ∧ x = A) := by
    rintro ⟨n, j⟩ hj x hx
    match n, hj with
    | 0, hj =>
      have hj : j < 2 := hj
      have hx := ft _ _ hx
      rcases (by omega : j = 0 ∨ j = 1) with rfl | rfl
      · exact .inl ⟨rfl, hx⟩
      · exact .inr (.inl ⟨rfl, hx⟩)
    | 1, hj =>
      have hj : j < 2 := hj
      have hx := ft _ _ hx
      rcases (by omega : j = 0 ∨ j = 1) with rfl | rfl
      · exact .inr (.inr (.inl ⟨rfl, hx⟩))
      · exact .inr (.inr (.inr (.inl ⟨rfl, hx⟩)))
    | 2, hj =>
      have hj : j < 2 := hj
      have hx : x ∈ [(if j = 0 then X0 else X1)] := hx
      simp only [List.mem_singleton] at hx
      rcases (by omega : j = 0 ∨ j = 1) with rfl | rfl
      · exact .inr (.inr (.inr (.inr (.inl ⟨rfl, hx⟩))))
      · exact .inr (.inr (.inr (.inr (.inr (.inl ⟨rfl, hx⟩)))))
    | 3, hj =>
      have hx : x ∈ (Value.slice none 0 0).ownBlock.toList := hx
      simp [Value.ownBlock] at hx
    | 4, hj =>
      have hx : x ∈ (Value.slice none 0 0).ownBlock.toList := hx
      simp [Value.ownBlock] at hx
    | 5, hj =>
      have hj : j = 0 := hj
      subst hj
      have hx : x ∈ (bk0 A).F := hx
      simp [Bk.F, bk0, vb, Value.ownBlock, blks] at hx
      exact .inr (.inr (.inr (.inr (.inr (.inr ⟨rfl, hx⟩)))))
    | 6, hj => exact absurd hj (by show ¬ j < 0; omega)
    | 7, hj => exact absurd hj (by show ¬ j < 0; omega)
    | 8, hj => exact absurd hj (by show ¬ j < 0; omega)
    | 9, hj => exact absurd hj (by show ¬ j < 0; omega)
    | 10, hj => exact absurd hj (by show ¬ j < 0; omega)
  refine ⟨old, ?_, fun i hi x hx => ?_, fun i j hi hj hij x hx hx2 => ?_⟩
  · rintro ⟨n, j⟩ hj
    match n, hj with
    | 0, hj =>
      have hj : j < 2 := hj
      rcases (by omega : j = 0 ∨ j = 1) with rfl | rfl
      · exact m0
      · exact m1
    | 1, hj =>
      have hj : j < 2 := hj
      rcases (by omega : j = 0 ∨ j = 1) with rfl | rfl
      · exact r0
      · exact r1
    | 2, hj =>
      have hj : j < 2 := hj
      rcases (by omega : j = 0 ∨ j = 1) with rfl | rfl
      · exact x0
      · exact x1
    | 3, hj => exact own_nil _ _ _ _
    | 4, hj => exact own_nil _ _ _ _
    | 5, hj => exact bk0_at b
    | 6, hj => exact absurd hj (by show ¬ j < 0; omega)
    | 7, hj => exact absurd hj (by show ¬ j < 0; omega)
    | 8, hj => exact absurd hj (by show ¬ j < 0; omega)
    | 9, hj => exact absurd hj (by show ¬ j < 0; omega)
    | 10, hj => exact absurd hj (by show ¬ j < 0; omega)
  · rcases F i hi x hx with ⟨-, e⟩ | ⟨-, e⟩ | ⟨-, e⟩ | ⟨-, e⟩ | ⟨-, e⟩ | ⟨-, e⟩ | ⟨-, e⟩ <;> omega
  · rcases F i hi x hx with ⟨ei, e⟩ | ⟨ei, e⟩ | ⟨ei, e⟩ | ⟨ei, e⟩ | ⟨ei, e⟩ | ⟨ei, e⟩ | ⟨ei, e⟩ <;> rcases F j hj x hx2 with ⟨ej, e'⟩ | ⟨ej, e'⟩ | ⟨ej, e'⟩ | ⟨ej, e'⟩ | ⟨ej, e'⟩ | ⟨ej, e'⟩ | ⟨ej, e'⟩ <;> first | omega | exact hij (ei.trans ej.symm)
end Go.Proofs.Ytiojcfffhcipnaa

namespace Go.Proofs.Ytiojcfffhcipnaa
open Go.RowKit

/-- The op that asks for all bytes, or for the log. -/
def opk (n : Int) : Stp := ⟨n, 0, 0, false, none, 0, 0, []⟩

theorem kept_cell {w w' : World} (h : Kept [] w w') {p : Addr} {v : Value} (hc : w.cell? p = some v) : w'.cell? p = some v := by
  have lt := World.block_lt_of_cell? w p hc
  have e := h.block p.block lt (by simp)
  unfold World.cell? at *
  rw [e]
  exact hc

set_option maxHeartbeats 16000000 in
set_option maxRecDepth 1000000 in
theorem plays_any (sa : Option Addr) (N cap : Nat) (f : Nat → Stp) (w : World) (hs : Scr w sa N f) (hb : ∀ i, i < N → (f i).mm ≤ 140737488351232) :
    Calls Try.prog 3 #[.slice sa N cap] w fun e w' => e = .returned (.bool true) ∧ Kept [] w w' := by
  have hN := hs.len
  have HS := Hid.mk hs
  have HB := Hid.mk hb
  clear hs hb
  go_enter Try.func3, Try.ntmps3
  go_wp2_with (fail)
  refine (shown_any w).mono ?_
  rintro e w1 ⟨rfl, k1⟩
  obtain ⟨w2, ew2, k2, hb2⟩ := alloc_new w1 (.cells #[.slice none 0 0, .slice none 0 0, .slice none 0 0, .slice none 0 0, .slice none 0 0, .slice none 0 0, .slice none 0 0, .slice none 0 0] 32 (0, 0))
  obtain ⟨A, eA⟩ : ∃ A, w1.heap.size = A := ⟨_, rfl⟩
  have sA : w.heap.size ≤ A := by rw [← eA]; exact k1.size
  have sA2 : A < w2.heap.size := by rw [← eA]; exact (Array.getElem?_eq_some_iff.1 hb2).1
  rw [eA] at hb2
  have H2 := Hid.mk (And.intro (k1.trans k2) (And.intro hb2 (And.intro sA sA2)))
  clear k1 k2 hb2 sA sA2
  go_wp2_with (fail)
  refine (new_any w2).mono ?_
  rintro e w3 ⟨rfl, m3, k3⟩
  obtain ⟨P0, eP0⟩ : ∃ P0, w2.heap.size = P0 := ⟨_, rfl⟩
  rw [eP0] at m3 ⊢
  have sP0 : P0 < w3.heap.size := (Array.getElem?_eq_some_iff.1 m3.box).1
  have H3 := Hid.mk (And.intro m3 (And.intro k3 (And.intro eP0 sP0)))
  clear m3 k3 eP0 sP0
  go_wp2_with (fail)
  refine (rnew_any w3).mono ?_
  rintro e w4 ⟨rfl, m4, k4⟩
  obtain ⟨D0, eD0⟩ : ∃ D0, w3.heap.size = D0 := ⟨_, rfl⟩
  rw [eD0] at m4 ⊢
  have sD0 : D0 < w4.heap.size := (Array.getElem?_eq_some_iff.1 m4.box).1
  obtain ⟨w5, ew5, k5, hb5⟩ := alloc_new w4 (.cells #[.pointer (some ⟨P0, 0, none⟩), .pointer (some ⟨D0, 0, none⟩), .slice none 0 0, .slice none 0 0] 41 (0, 0))
  obtain ⟨X0, eX0⟩ : ∃ X0, w4.heap.size = X0 := ⟨_, rfl⟩
  have sX0 : X0 < w5.heap.size := by rw [← eX0]; exact (Array.getElem?_eq_some_iff.1 hb5).1
  rw [eX0] at hb5
  have H5 := Hid.mk (And.intro m4 (And.intro k4 (And.intro k5 (And.intro hb5 (And.intro eD0 (And.intro sD0 sX0))))))
  clear m4 k4 k5 hb5 eD0 sD0 sX0
  go_wp2_with (fail)
  refine (new_any w5).mono ?_
  rintro e w6 ⟨rfl, m6, k6⟩
  obtain ⟨P1, eP1⟩ : ∃ P1, w5.heap.size = P1 := ⟨_, rfl⟩
  rw [eP1] at m6 ⊢
  have sP1 : P1 < w6.heap.size := (Array.getElem?_eq_some_iff.1 m6.box).1
  have H6 := Hid.mk (And.intro m6 (And.intro k6 (And.intro eP1 sP1)))
  clear m6 k6 eP1 sP1
  go_wp2_with (fail)
  refine (rnew_any w6).mono ?_
  rintro e w7 ⟨rfl, m7, k7⟩
  obtain ⟨D1, eD1⟩ : ∃ D1, w6.heap.size = D1 := ⟨_, rfl⟩
  rw [eD1] at m7 ⊢
  have sD1 : D1 < w7.heap.size := (Array.getElem?_eq_some_iff.1 m7.box).1
  obtain ⟨w8, ew8, k8, hb8⟩ := alloc_new w7 (.cells #[.pointer (some ⟨P1, 0, none⟩), .pointer (some ⟨D1, 0, none⟩), .slice none 0 0, .slice none 0 0] 41 (0, 0))
  obtain ⟨X1, eX1⟩ : ∃ X1, w7.heap.size = X1 := ⟨_, rfl⟩
  have sX1 : X1 < w8.heap.size := by rw [← eX1]; exact (Array.getElem?_eq_some_iff.1 hb8).1
  rw [eX1] at hb8
  have k37 : Kept [] w3 w8 := H5.out.2.1.trans (H5.out.2.2.1.trans (H6.out.2.1.trans (k7.trans k8)))
  have k48 : Kept [] w4 w8 := H5.out.2.2.1.trans (H6.out.2.1.trans (k7.trans k8))
  have k58 : Kept [] w5 w8 := H6.out.2.1.trans (k7.trans k8)
  have x08 : w8.heap[X0]? = some (.cells #[.pointer (some ⟨P0, 0, none⟩), .pointer (some ⟨D0, 0, none⟩), .slice none 0 0, .slice none 0 0] 41 (0, 0)) := k58.heap H5.out.2.2.2.1 (by simp)
  have s8 : StA w w8 (sta0 A P0 D0 X0 P1 D1 X1) 0 0 := ⟨sta0_sep (H2.out.1.trans (H3.out.2.1.trans k37)) H2.out.2.2.1 (by have := H2.out.2.2.2; have := H3.out.2.2.1; omega) (by have := H3.out.2.2.2; have := H5.out.2.2.2.2.1; omega) (by have := H5.out.2.2.2.2.2.1; omega) (by have := H5.out.2.2.2.2.2.2; have := H6.out.2.2.1; omega) (by have := H6.out.2.2.2; omega) (by omega)
    (Bx.kept H2.out.2.1 (H3.out.2.1.trans k37) (by simp)) (H3.out.1.keep k37) (H5.out.1.keep k48) (H6.out.1.keep (k7.trans k8)) (m7.keep k8) x08 hb8, sta0_ok _ _ _ _ _ _ _⟩
  have y0 : w8.cell? ⟨X0, 0, none⟩ = some (.pointer (some ⟨P0, 0, none⟩)) := by simp [World.cell?, x08]
  have y1 : w8.cell? ⟨X1, 0, none⟩ = some (.pointer (some ⟨P1, 0, none⟩)) := by simp [World.cell?, hb8]
  have S8 := Hid.mk s8
  clear m7 k7 k8 hb8 eD1 sD1 sX1 k37 k48 k58 x08 s8 H2 H3 H5 H6
  go_wp2_with (fail)
  go_loopw [7, 8] (fun sz i wr => ∃ (k z : Nat) (a : Sta), k ≤ N ∧ z ≤ 268435456 ∧ sz = .int .i64 (z : Int) ∧ i = .int .i64 (k : Int) ∧ a.X 0 = X0 ∧ a.X 1 = X1 ∧ a.b.A = A ∧ a.b.p = 0 ∧ a.b.r = 0 ∧ StA w wr a k z) (fun _ i _ => N - (intOf i).toNat)
  case atStart =>
    exact ⟨0, 0, _, by omega, by omega, rfl, rfl, rfl, rfl, rfl, rfl, rfl, S8.out⟩
  case round =>
    obtain ⟨k, z, a, hk, hz, rfl, rfl, hX0, hX1, hA, hp, hr, hst⟩ := hrel
    by_cases hlt : k < N
    · obtain ⟨b, off, rfl, hc⟩ := HS.out.lies (by omega)
      have hq := HS.out.ok k hlt
      have hbk := HB.out k hlt
      have ha := (hc k hlt)
      have d0 := kept_cell hst.sep.old ha.c0
      have d1 := kept_cell hst.sep.old ha.c1
      have d2 := kept_cell hst.sep.old ha.c2
      have d3 := kept_cell hst.sep.old ha.c3
      have d4 := kept_cell hst.sep.old ha.c4
      have ix : (k : Int) < (N : Int) := by omega
      generalize f k = q at *
      have HQ := Hid.mk hq
      have HH := Hid.mk hst
      have HX := Hid.mk (And.intro hX0 (And.intro hX1 (And.intro hA (And.intro hp hr))))
      clear hc ha hq hst hX0 hX1 hA hp hr
      by_cases hm : z + q.mm ≤ 268435456
      · have hm' : ¬ ((268435456 : Int) < (z : Int) + (q.mm : Int)) := by omega
        obtain ⟨tw, etw⟩ : ∃ tw, q.two = tw := ⟨_, rfl⟩
        rw [etw] at d3
        have ST : Hid (∀ i, i < 2 → Calls Try.prog 10 #[.pointer (some ⟨a.X i, 0, none⟩), .pointer (some ⟨a.b.A, 0, none⟩), opv q] wr (StepP w a k (z + q.mm))) := Hid.mk (fun i hi => step_any w wr a k z i q HH.out hi (by omega) HX.out.2.2.2.1 HX.out.2.2.2.2 HQ.out hm)
        have E1 : Hid (∀ a' : Sta, a'.X = a.X → a'.b.A = a.b.A → a'.X 0 = X0 ∧ a'.X 1 = X1 ∧ a'.b.A = A) := Hid.mk (fun a' e1 e2 => ⟨by rw [e1]; exact HX.out.1, by rw [e1]; exact HX.out.2.1, by rw [e2]; exact HX.out.2.2.1⟩)
        have ST0 := Hid.mk (ST.out 0 (by omega))
        have ST1 := Hid.mk (ST.out 1 (by omega))
        rw [HX.out.1, HX.out.2.2.1] at ST0
        rw [HX.out.2.1, HX.out.2.2.1] at ST1
        unfold opv at ST0 ST1
        rw [etw] at ST0 ST1
        clear ST HH HX HQ etw
        cases tw with
        | false =>
          clear ST1
          go_wp2_with (fail)
          with_reducible refine ST0.out.mono ?_
          rintro e w9 ⟨rfl, a', e1, e2, e3, e4, -, st⟩
          have F9 := Hid.mk (And.intro (E1.out a' e1 e2) (And.intro e3 (And.intro e4 st)))
          clear ST0 E1 e1 e2 e3 e4 st d0 d1 d2 d3 d4
          go_wp2
          go_roundw
          case rel => exact ⟨k + 1, z + q.mm, a', by omega, hm, by go_num, by go_num, F9.out.1.1, F9.out.1.2.1, F9.out.1.2.2, F9.out.2.1, F9.out.2.2.1, F9.out.2.2.2⟩
          case measure => simp [intOf]; omega
        | true =>
          clear ST0
          go_wp2_with (fail)
          with_reducible refine ST1.out.mono ?_
          rintro e w9 ⟨rfl, a', e1, e2, e3, e4, -, st⟩
          have F9 := Hid.mk (And.intro (E1.out a' e1 e2) (And.intro e3 (And.intro e4 st)))
          clear ST1 E1 e1 e2 e3 e4 st d0 d1 d2 d3 d4
          go_wp2
          go_roundw
          case rel => exact ⟨k + 1, z + q.mm, a', by omega, hm, by go_num, by go_num, F9.out.1.1, F9.out.1.2.1, F9.out.1.2.2, F9.out.2.1, F9.out.2.2.1, F9.out.2.2.2⟩
          case measure => simp [intOf]; omega
      · have hm' : (268435456 : Int) < (z : Int) + (q.mm : Int) := by omega
        have hw : wrap64 ((z : Int) + (q.mm : Int)) = (z : Int) + (q.mm : Int) := by unfold wrap64; omega
        clear HQ HX
        go_wp2_with (fail)
        go_ret
        exact ⟨rfl, HH.out.sep.old⟩
    · obtain rfl : N = k := by omega
      have R1 := Hid.mk (reads_bytes4 w wr a N z 0 (opk 11) hst (by omega) (by omega) (by omega) rfl)
      rw [hX0, hA] at R1
      unfold opv opk at R1
      have HX := Hid.mk (And.intro hX0 (And.intro hX1 (And.intro hA (And.intro hp hr))))
      clear hst hX0 hX1 hA hp hr
      go_wp2_with (fail)
      with_reducible refine R1.out.mono ?_
      rintro e v1 ⟨rfl, a1, sm1, p1, r1, s1⟩
      obtain ⟨hX0, hX1, hA, hp, hr⟩ := HX.out
      have R2 := Hid.mk (reads_bytes4 w v1 a1 (N + 1) z 1 (opk 11) s1 (by omega) (by omega) (by omega) rfl)
      rw [sm1.X, sm1.A, hX1, hA] at R2
      unfold opv opk at R2
      have HY : Hid (a1.X 0 = X0 ∧ a1.X 1 = X1 ∧ a1.b.A = A ∧ a1.b.p ≤ 2 ∧ a1.b.r ≤ 0) := Hid.mk ⟨by rw [sm1.X, hX0], by rw [sm1.X, hX1], by rw [sm1.A, hA], by omega, by omega⟩
      clear R1 HX sm1 p1 r1 s1 hX0 hX1 hA hp hr
      go_wp2_with (fail)
      with_reducible refine R2.out.mono ?_
      rintro e v2 ⟨rfl, a2, sm2, p2, r2, s2⟩
      obtain ⟨hX0, hX1, hA, hp, hr⟩ := HY.out
      have R3 := Hid.mk (reads_log4 w v2 a2 (N + 1 + 1) z 0 (opk 7) s2 (by omega) (by omega) (by omega) rfl)
      rw [sm2.X, sm2.A, hX0, hA] at R3
      unfold opv opk at R3
      have HZ : Hid (a2.X 0 = X0 ∧ a2.X 1 = X1 ∧ a2.b.A = A ∧ a2.b.p ≤ 4 ∧ a2.b.r ≤ 0) := Hid.mk ⟨by rw [sm2.X, hX0], by rw [sm2.X, hX1], by rw [sm2.A, hA], by omega, by omega⟩
      clear R2 HY sm2 p2 r2 s2 hX0 hX1 hA hp hr
      go_wp2_with (fail)
      with_reducible refine R3.out.mono ?_
      rintro e v3 ⟨rfl, a3, sm3, p3, r3, s3⟩
      obtain ⟨hX0, hX1, hA, hp, hr⟩ := HZ.out
      have R4 := Hid.mk (reads_log4 w v3 a3 (N + 1 + 1 + 1) z 1 (opk 7) s3 (by omega) (by omega) (by omega) rfl)
      rw [sm3.X, sm3.A, hX1, hA] at R4
      unfold opv opk at R4
      have HU : Hid (a3.b.A = A) := Hid.mk (by rw [sm3.A, hA])
      clear R3 HZ sm3 p3 r3 s3 hX0 hX1 hA hp hr
      go_wp2_with (fail)
      with_reducible refine R4.out.mono ?_
      rintro e v4 ⟨rfl, a4, sm4, p4, r4, s4⟩
      have OW := Hid.mk (own_st s4)
      rw [sm4.A, HU.out] at OW
      clear R4 HU sm4 p4 r4 s4
      go_wp2_with (fail)
      with_reducible refine OW.out.mono ?_
      rintro e v5 ⟨rfl, a5, -, -, -, -, -, s5⟩
      have FN := Hid.mk s5.sep.old
      clear OW s5
      go_wp2_with (fail)
      go_ret
      exact ⟨rfl, FN.out⟩
end Go.Proofs.Ytiojcfffhcipnaa

namespace Go.Proofs.Ytiojcfffhcipnaa
open Go.ChangeShapes Go.WideShapes Go.ChangeAt Go.RowKit Go.Deep

theorem bytes5 : Try.prog.bytesOf 5 = 1 := by kernel_rfl
theorem mem_weightsAll {H : Type} {P : Program} {e : TypeId} : ∀ {l : List (DataW H)} {d : DataW H}, d ∈ l → ∀ n ∈ d.weights P e, n ∈ DataW.weightsAll P e l
  | [], _, h => absurd h (by simp)
  | x :: l, d, h => fun n hn => by
    rw [DataW.weightsAll, List.mem_append]
    simp only [List.mem_cons] at h
    rcases h with rfl | h
    · exact .inl hn
    · exact .inr (mem_weightsAll h n hn)

set_option maxRecDepth 100000 in
/-- One element, and how long its list may be. -/
theorem open_stp2 {H : Type} {enc : TypeId × Value → H} {W : World} {a : Addr} {i n : Nat} {cs : List Value} {d : DataW H} {pl : List MemPlace} (h1 : W.cells? 0 (a.add (i * 5)) 5 = some cs) (h2 : DataW.trod enc Try.prog W 0 (fun _ => true) true n 43 cs = some (d, pl)) (hw : ∀ n ∈ d.weights Try.prog 43, n ≤ reachBytes) :
    ∃ q, IsStp W a i q ∧ q.mm ≤ 140737488351232 := by
  obtain ⟨_, hlen, hcell⟩ := World.cells?_some h1
  obtain ⟨xs, k, _, hx, _, hxl, hfs⟩ := DataW.trod_struct Try.underlying43 h2
  obtain ⟨c0, c1, c2, c3, c4, rfl⟩ := list5 hlen
  obtain ⟨y0, y1, y2, y3, y4, rfl⟩ := list5 hxl
  have g0 := hfs 0 _ rfl
  have g1 := hfs 1 _ rfl
  have g2 := hfs 2 _ rfl
  have g3 := hfs 3 _ rfl
  have g4 := hfs 4 _ rfl
  simp [cellsI, cellsB, cellsR] at g0 g1 g2 g3 g4
  have e0 := hcell 0 (by omega)
  have e1 := hcell 1 (by omega)
  have e2 := hcell 2 (by omega)
  have e3 := hcell 3 (by omega)
  have e4 := hcell 4 (by omega)
  rw [add_add] at e0 e1 e2 e3 e4
  simp at e0 e1 e2 e3 e4
  obtain ⟨z0, q0, _, w0⟩ := DataW.trod_int Try.underlying3 g0
  obtain ⟨z1, q1, _, w1⟩ := DataW.trod_int Try.underlying3 g1
  obtain ⟨z2, q2, _, w2⟩ := DataW.trod_int Try.underlying3 g2
  obtain ⟨z3, q3, _⟩ := DataW.trod_bool Try.underlying4 g3
  simp at q0 q1 q2 q3
  subst q0 q1 q2 q3
  have hd : d = .agg [y0.1, y1.1, y2.1, y3.1, y4.1] := congrArg Prod.fst hx
  rcases open_ints Try.underlying29 Try.underlying5 cells8 g4 with ⟨hc, _⟩ | ⟨x, len, cap, zs, hc, _, hl, hm, hz, hy, hcl, hwz⟩
  · simp at hc
    subst hc
    exact ⟨⟨z0, z1, z2, z3, none, 0, 0, []⟩, ⟨e0, e1, e2, e3, e4, ⟨bounds_i64 w0, bounds_i64 w1, bounds_i64 w2, .inl rfl, by simp [Byts], rfl, Nat.le_refl _, fun _ => rfl⟩⟩, by simp⟩
  · simp at hc
    subst hc
    simp only [if_true] at hz
    have hb5 := hw (((lits (H := H) .u8 (zs.take len)).length + (lits (H := H) .u8 (zs.drop len)).length) * Try.prog.bytesOf 5) (by
      rw [hd]
      simp [DataW.weights, Try.underlying43, DataW.weightsEach, hy, Try.underlying29])
    rw [bytes5] at hb5
    simp only [lits, List.length_map, List.length_take, List.length_drop, reachBytes] at hb5
    obtain ⟨l, hll, hb, hr⟩ := ints_reads' (w := W) (x := x) hl (by simpa using hz) hwz hcl
    have hz' : zs.length = cap := by simpa using hz
    exact ⟨⟨z0, z1, z2, z3, some x, len, cap, l⟩, ⟨e0, e1, e2, e3, e4, ⟨bounds_i64 w0, bounds_i64 w1, bounds_i64 w2, hr, hb, hll, hl, fun h => by cases h⟩⟩, by simp only; omega⟩

set_option maxRecDepth 100000 in
/-- A script that came in, and how long its lists may be. -/
theorem open_ops2 {H : Type} {enc : TypeId × Value → H} {W : World} {r : Reach} {b0 : Nat} {v : Value} {d : DataW H} {p : List MemPlace} (hv : Value.okWide Try.prog W r b0 22 v) (h : DataW.Trod enc Try.prog W 0 (fun _ => true) true 22 v d p) (hs : ∀ n ∈ d.weights Try.prog 22, n ≤ reachBytes) :
    ∃ sa N cap f, v = .slice sa N cap ∧ Scr W sa N f ∧ ∀ i, i < N → (f i).mm ≤ 140737488351232 := by
  obtain ⟨a0, len0, cap0, rfl⟩ := okWide_slice Try.underlying22 hv
  obtain ⟨fuel, hf⟩ := h
  rcases open_slice Try.underlying22 hf with ⟨hcs, _⟩ | ⟨a, len, cap, m, n, D, Pl, hcs, _, hl, hm, hmm, hx, hc⟩
  · simp [Value.cells] at hcs
    obtain ⟨rfl, rfl, rfl⟩ := hcs
    exact ⟨none, 0, 0, fun _ => ⟨0, 0, 0, false, none, 0, 0, []⟩, rfl, ⟨by omega, fun i hi => by omega, fun h => by omega⟩, fun i hi => by omega⟩
  · simp [Value.cells] at hcs
    obtain ⟨rfl, rfl, rfl⟩ := hcs
    simp only [if_true] at hmm
    have hd : d = .slice ((List.range len0).map D) ((List.range (m - len0)).map fun j => D (len0 + j)) := congrArg Prod.fst hx
    rw [hd] at hs
    have h1 := hs ((((List.range len0).map D).length + ((List.range (m - len0)).map fun j => D (len0 + j)).length) * Try.prog.bytesOf 43) (by simp [DataW.weights, Try.underlying22])
    rw [bytes43] at h1
    simp only [List.length_map, List.length_range, reachBytes] at h1
    rw [hmm] at hc
    have each : ∀ i, i < len0 → ∃ q, IsStp W a i q ∧ q.mm ≤ 140737488351232 := fun i hi => by
      obtain ⟨cs', h1, h2⟩ := hc i (by omega)
      rw [cells43] at h1
      refine open_stp2 h1 h2 (fun n hn => hs n ?_)
      simp only [DataW.weights, Try.underlying22, List.mem_cons, List.mem_append]
      exact .inr (.inl (mem_weightsAll (List.mem_map.2 ⟨i, List.mem_range.2 hi, rfl⟩) n hn))
    obtain ⟨f, hf2⟩ := @choose_lt Stp ⟨⟨0, 0, 0, false, none, 0, 0, []⟩⟩ _ _ each
    obtain ⟨b, off, spot⟩ := a
    refine ⟨_, _, _, f, rfl, ⟨by omega, fun i hi => (hf2 i hi).1.2.2.2.2.2, fun h => ?_⟩, fun i hi => (hf2 i hi).2⟩
    have hspot : spot = none := by simpa [Addr.add] using World.cell?_spot (hf2 0 h).1.1
    subst hspot
    refine ⟨b, off, rfl, fun i hi => ?_⟩
    obtain ⟨e0, e1, e2, e3, e4, _⟩ := (hf2 i hi).1
    rw [addN] at e0 e1 e2 e3 e4
    exact ⟨e0, e1, e2, e3, e4⟩
end Go.Proofs.Ytiojcfffhcipnaa
