import Derived.Test.YtiojcfffhcipnaaEd
namespace Go.Proofs.Ytiojcfffhcipnaa
open Go.RowKit

theorem heldS_F {w : World} {b : Bk} {t' x y : Value} {K : Hd} {l : List (Int × Int)} (hK : sl K = b.ks) (li : Lies w b.t t') : ∀ z ∈ ({ b with t := t', r := b.r + 1, ft := snc b.ft b.r K, ks := x, us := y, kl := l } : Bk).F, z ∈ b.F ∨ w.heap.size ≤ z ∨ z ∈ vb x ∨ z ∈ vb y := fun z hz => by
  rcases F_mem hz with h | h | h | h | h | h | h | h | h | h | h | h | h
  · exact .inl (vb_mem (.inl h))
  · exact .inl (vb_mem (by have h : z ∈ vb b.l := h; simp [h]))
  · exact .inl (vb_mem (by have h : z ∈ vb b.s := h; simp [h]))
  · exact .inl (vb_mem (by have h : z ∈ vb b.o := h; simp [h]))
  · rcases li.mem z h with q | q
    · exact .inl (vb_mem (by have q : z ∈ vb b.t := q; simp [q]))
    · exact .inr (.inl q)
  · exact .inl (vb_mem (by have h : z ∈ vb b.k := h; simp [h]))
  · exact .inl (vb_mem (by have h : z ∈ vb b.u := h; simp [h]))
  · exact .inr (.inr (.inl h))
  · exact .inr (.inr (.inr h))
  · exact .inl (vb_mem (by have h : z ∈ blks b.f b.n := h; simp [h]))
  · exact .inl (vb_mem (by have h : z ∈ blks b.g b.q := h; simp [h]))
  · exact .inl (vb_mem (by have h : z ∈ blks b.fo b.p := h; simp [h]))
  · rcases blks_snc h with q | q
    · exact .inl (vb_mem (by simp [q]))
    · exact .inl (vb_mem (by have q : z ∈ vb b.ks := by rw [← hK]; exact q
                             simp [q]))
theorem tells_F {w : World} {b : Bk} {t' : Value} {X : Hd} (li : Lies w b.t t') : ∀ z ∈ ({ b with t := t', r := b.r + 1, ft := snc b.ft b.r X } : Bk).F, z ∈ b.F ∨ w.heap.size ≤ z ∨ z ∈ blk X := fun z hz => by
  rcases F_mem hz with h | h | h | h | h | h | h | h | h | h | h | h | h
  · exact .inl (vb_mem (.inl h))
  · exact .inl (vb_mem (by have h : z ∈ vb b.l := h; simp [h]))
  · exact .inl (vb_mem (by have h : z ∈ vb b.s := h; simp [h]))
  · exact .inl (vb_mem (by have h : z ∈ vb b.o := h; simp [h]))
  · rcases li.mem z h with q | q
    · exact .inl (vb_mem (by have q : z ∈ vb b.t := q; simp [q]))
    · exact .inr (.inl q)
  · exact .inl (vb_mem (by have h : z ∈ vb b.k := h; simp [h]))
  · exact .inl (vb_mem (by have h : z ∈ vb b.u := h; simp [h]))
  · exact .inl (vb_mem (by have h : z ∈ vb b.ks := h; simp [h]))
  · exact .inl (vb_mem (by have h : z ∈ vb b.us := h; simp [h]))
  · exact .inl (vb_mem (by have h : z ∈ blks b.f b.n := h; simp [h]))
  · exact .inl (vb_mem (by have h : z ∈ blks b.g b.q := h; simp [h]))
  · exact .inl (vb_mem (by have h : z ∈ blks b.fo b.p := h; simp [h]))
  · rcases blks_snc h with q | q
    · exact .inl (vb_mem (by simp [q]))
    · exact .inr (.inr q)
/-- What was read on both sides is held. -/
theorem both_heldS {W w : World} {a : Sta} {k z : Nat} (h : SepI W w a.Dm a.R) (ok : a.Ok (k + 1) z) (hp : a.b.r < 8) (hb : a.b.q + a.b.r + 1 ≤ 2 * (k + 1)) {x y : Value} {l : List (Int × Int)} (hl : l.length ≤ 6000000000000) (hx : w.ownsRow 0 63 2 x l.length (spc l)) (hy : w.ownsRow 0 63 2 y l.length (spc l)) (hf : ∀ c, c ∈ vb x ∨ c ∈ vb y → W.heap.size ≤ c ∧ ∀ j, a.Dm j → c ∉ (a.R j).F) (hxy : ∀ c ∈ vb x, c ∉ vb y) :
    Calls Try.prog 46 #[.pointer (some ⟨a.b.A, 0, none⟩), x, y] w fun e w' => e = .returned (.bool true) ∧ ∃ a', Same a a' ∧ a'.b.r = a.b.r + 1 ∧ a'.b.p = a.b.p ∧ StA W w' a' (k + 1) z ∧ w'.ownsRow 0 63 2 x l.length (spc l) ∧ w'.ownsRow 0 63 2 y l.length (spc l) := by
  have hB : BkAt w a.b := h.P (5, 0) rfl
  refine (heldS_bk hB ok.bok hp x y l hl hx hy (fun c hc => (hf c hc).2 (5, 0) rfl) hxy).mono ?_
  rintro e w' ⟨t', K, rfl, hK, hb', ok', hk, li⟩
  refine ⟨rfl, ({ a with b := { a.b with t := t', r := a.b.r + 1, ft := snc a.b.ft a.b.r K, ks := x, us := y, kl := l } } : Sta), ⟨rfl, rfl, rfl, rfl, rfl, rfl, rfl, rfl, rfl, rfl, rfl, rfl, rfl, rfl, rfl, rfl⟩, rfl, rfl, ⟨StA.stepB h hk (fun c hc => .inl ?_) hb' (fun c hc => ?_), ⟨ok.alk, ok.mok, ok.mokt, ok.len, ok.log, ok.mu, ok.pi, ok.pn, ok', ⟨ok.bn.1, ?_⟩, ok.z, ok.k⟩⟩, hb'.hks, hb'.hus⟩
  · simp only [List.mem_cons] at hc
    rcases hc with rfl | hc
    · exact vb_mem (by simp)
    · exact vb_mem (by simp [hc])
  · rcases heldS_F hK li c hc with q | q | q | q
    · exact .inl q
    · exact .inr (.inl q)
    · exact .inr (.inr (hf c (.inl q)))
    · exact .inr (.inr (hf c (.inr q)))
  · show a.b.q + (a.b.r + 1) ≤ 2 * (k + 1)
    omega

/-- A list of spans that is no one's is taken. -/
theorem one_tells {W w : World} {a : Sta} {k z : Nat} (h : SepI W w a.Dm a.R) (ok : a.Ok (k + 1) z) (hp : a.b.r < 8) (hb : a.b.q + a.b.r + 1 ≤ 2 * (k + 1)) {xo : Option Addr} {m c : Nat} {l : List (Int × Int)} (hl : m ≤ 6000000000000) (hx : w.ownsRow 0 63 2 (.slice xo m c) m (spc l)) (hf : ∀ y ∈ vb (.slice xo m c), W.heap.size ≤ y ∧ ∀ j, a.Dm j → y ∉ (a.R j).F) :
    Calls Try.prog 45 #[.pointer (some ⟨a.b.A, 0, none⟩), .slice xo m c] w fun e w' => e = .returned (.tuple #[]) ∧ ∃ a', Same a a' ∧ (a'.b.r = a.b.r + 1 ∧ a'.b.p = a.b.p ∧ a'.b.q = a.b.q) ∧ SepI W w' a'.Dm a'.R ∧ a'.Ok (k + 1) z ∧ Kept (a.b.A :: vb a.b.t) w w' ∧ (∀ j, a'.Dm j → ∀ y ∈ (a'.R j).F, (∃ j, a.Dm j ∧ y ∈ (a.R j).F) ∨ w.heap.size ≤ y ∨ y ∈ vb (.slice xo m c)) := by
  have hB : BkAt w a.b := h.P (5, 0) rfl
  refine (tells_bk hB ok.bok hp xo m c l hl hx (fun y hy => (hf y hy).2 (5, 0) rfl)).mono ?_
  rintro e w' ⟨t', rfl, hb', ok', hk, li⟩
  refine ⟨rfl, ({ a with b := { a.b with t := t', r := a.b.r + 1, ft := snc a.b.ft a.b.r ⟨xo, m, c, 0⟩ } } : Sta), ⟨rfl, rfl, rfl, rfl, rfl, rfl, rfl, rfl, rfl, rfl, rfl, rfl, rfl, rfl, rfl, rfl⟩, ⟨rfl, rfl, rfl⟩, StA.stepB h hk (fun y hy => .inl ?_) hb' (fun y hy => ?_), ⟨ok.alk, ok.mok, ok.mokt, ok.len, ok.log, ok.mu, ok.pi, ok.pn, ok', ⟨ok.bn.1, ?_⟩, ok.z, ok.k⟩, hk, fun j hj y hy => ?_⟩
  · simp only [List.mem_cons] at hy
    rcases hy with rfl | hy
    · exact vb_mem (by simp)
    · exact vb_mem (by simp [hy])
  · rcases tells_F li y hy with q | q | q
    · exact .inl q
    · exact .inr (.inl q)
    · exact .inr (.inr (hf y q))
  · show a.b.q + (a.b.r + 1) ≤ 2 * (k + 1)
    omega
  · rw [Sta.setB_R] at hy
    by_cases e : j.1 = 5
    · rw [if_pos e] at hy
      rcases tells_F li y hy with q | q | q
      · exact .inl ⟨(5, 0), rfl, q⟩
      · exact .inr (.inl q)
      · exact .inr (.inr q)
    · rw [if_neg e] at hy
      exact .inl ⟨j, hj, hy⟩

set_option maxHeartbeats 16000000 in
set_option maxRecDepth 1000000 in
theorem reads_log (W w : World) (a : Sta) (k z i : Nat) (q : Stp) (h : StA W w a k z) (hi : i < 2) (hk : k + 1 ≤ 2600000000000) (hp : a.b.p ≤ 2) (hr : a.b.r ≤ 2) (kd : q.kd = 7) :
    Calls Try.prog 11 #[.pointer (some ⟨a.X i, 0, none⟩), .pointer (some ⟨a.b.A, 0, none⟩), opv q] w (ReadsP W a k z) := by
  obtain ⟨c, ec⟩ : ∃ c, a.mu i = c := ⟨_, rfl⟩
  have hc : c < a.C := by rw [← ec]; exact h.ok.mu i hi
  obtain ⟨w1, ew1, k1, hb1⟩ := alloc_new w (.cells #[.int .i64 q.kd, .int .i64 q.n, .int .i64 q.m, .bool q.two, .slice q.ao q.mm q.cp] 43 (0, 0))
  have h1 := h.sep.keep k1
  obtain ⟨p0, -, -, -⟩ := pair_cells h1 hi
  rw [ec] at p0
  obtain ⟨o0, -, -, -⟩ := opb.cells hb1
  rw [kd] at o0
  have ok := h.ok
  have lz := ok.log c hc
  have kk := ok.k
  have zz := ok.z
  obtain ⟨B, eB⟩ : ∃ B, (a.s c).g = B := ⟨_, rfl⟩
  have lB : B.length ≤ 6000000000000 := by rw [← eB]; omega
  have tB : (a.t c).g = B := by rw [(ok.alk c hc).g, eB]
  have okr : a.Ok (k + 1) z := ⟨ok.alk, ok.mok, ok.mokt, ok.len, fun d hd => by have := ok.log d hd; omega, ok.mu, ok.pi, fun j hj => by have := ok.pn j hj; omega, ok.bok, ⟨by have := ok.bn.1; omega, by have := ok.bn.2; omega⟩, ok.z, hk⟩
  have bn := ok.bn.2
  have C1 : Hid (∀ u, SepI W u a.Dm a.R → Calls Try.prog 23 #[.pointer (some ⟨a.P c, 0, none⟩)] u fun e w' => ∃ bo bc, e = .returned (.slice bo B.length bc) ∧ Hid (w'.ownsRow u.heap.size 63 2 (.slice bo B.length bc) B.length (spc B) ∧ SepI W w' a.Dm a.R ∧ Kept [a.P c] u w')) := Hid.mk (fun u hu => by
    refine (log_any u _ _ _ _ (hu.P (0, c) hc) (by rw [eB]; omega)).mono ?_
    rintro e w' ⟨bo, bc, rfl, g1, g2, g3⟩
    rw [eB] at g1
    rw [eB]
    exact ⟨bo, bc, rfl, Hid.mk ⟨g1, StA.asked hu hc g3 g2, g3⟩⟩)
  have C2 : Hid (∀ u, SepI W u a.Dm a.R → Calls Try.prog 44 #[.pointer (some ⟨a.D c, 0, none⟩)] u fun e w' => ∃ bo bc, e = .returned (.slice bo B.length bc) ∧ Hid (w'.ownsRow u.heap.size 63 2 (.slice bo B.length bc) B.length (spc B) ∧ SepI W w' a.Dm a.R ∧ Kept [] u w')) := Hid.mk (fun u hu => by
    refine (rlog_any u _ _ _ _ (hu.P (1, c) hc) (by rw [tB]; omega)).mono ?_
    rintro e w' ⟨bo, bc, rfl, g1, g3⟩
    rw [tB] at g1
    rw [tB]
    exact ⟨bo, bc, rfl, Hid.mk ⟨g1, hu.keep g3, g3⟩⟩)
  have PC : Hid (∀ u, SepI W u a.Dm a.R → u.cell? ⟨a.X i, 0, none⟩ = some (.pointer (some ⟨a.P c, 0, none⟩)) ∧ u.cell? ⟨a.X i, 1, none⟩ = some (.pointer (some ⟨a.D c, 0, none⟩))) := Hid.mk (fun u hu => by
    obtain ⟨g0, g1, -, -⟩ := pair_cells hu hi
    rw [ec] at g0 g1
    exact ⟨g0, g1⟩)
  have far : Hid (∀ u, SepI W u a.Dm a.R → ∀ x ∈ [a.P c], x < u.heap.size) := Hid.mk (fun u hu x hx => (a.R (0, c)).lt (hu.P (0, c) hc) (inP _ (a.V c) (a.L c) x hx))
  have H1 := Hid.mk h1
  have OKR := Hid.mk okr
  have LB := Hid.mk lB
  clear h h1 ok lz kk zz eB lB tB okr
  unfold opv
  rw [kd] at ew1 ⊢
  clear kd
  go_enter Try.func11, Try.ntmps11
  go_wp2_with (fail)
  refine (C1.out w1 H1.out).mono ?_
  rintro e w2 ⟨xo, xc, rfl, R2⟩
  obtain ⟨p0', -⟩ := PC.out w2 R2.out.2.1
  clear p0
  go_wp2_with (fail)
  refine (C1.out w2 R2.out.2.1).mono ?_
  rintro e w3 ⟨yo, yc, rfl, R3⟩
  obtain ⟨-, p1⟩ := PC.out w3 R3.out.2.1
  clear p0'
  go_wp2_with (fail)
  refine (C2.out w3 R3.out.2.1).mono ?_
  rintro e w4 ⟨vo, vc, rfl, R4⟩
  have s2 := R2.out.2.2.size
  have s3 := R3.out.2.2.size
  have s4 := R4.out.2.2.size
  have x3 : w3.ownsRow w1.heap.size 63 2 (.slice xo B.length xc) B.length (spc B) := R3.out.2.2.row R2.out.1 (fun g hg hm => by
    have h8 := far.out w1 H1.out g hm
    have h9 := own_new R2.out.1 g (by rw [hg]; simp)
    omega)
  have x4 := R4.out.2.2.row x3 (by simp)
  have y4 := R4.out.2.2.row R3.out.1 (by simp)
  have CA := Hid.mk (sameSpans_any xo vo B.length xc vc _ _ B w4 x4 R4.out.1 rfl (by have := LB.out; omega))
  have CB : Hid (∀ u, Kept [] w4 u → Calls Try.prog 24 #[.slice yo B.length yc, .slice vo B.length vc] u fun e w' => e = .returned (.bool true) ∧ Kept [] u w') := Hid.mk (fun u hu => sameSpans_any yo vo B.length yc vc _ _ B u (hu.row y4 (by simp)) (hu.row R4.out.1 (by simp)) rfl (by have := LB.out; omega))
  have X4 := Hid.mk x4
  have fx : ∀ z ∈ vb (.slice xo B.length xc), w1.heap.size ≤ z ∧ z < w2.heap.size := fun z hz => ⟨own_new R2.out.1 z hz, own_lt R2.out.1 z hz⟩
  have fy : ∀ z ∈ vb (.slice yo B.length yc), w2.heap.size ≤ z ∧ z < w3.heap.size := fun z hz => ⟨own_new R3.out.1 z hz, own_lt R3.out.1 z hz⟩
  have fv : ∀ z ∈ vb (.slice vo B.length vc), w3.heap.size ≤ z ∧ z < w4.heap.size := fun z hz => ⟨own_new R4.out.1 z hz, own_lt R4.out.1 z hz⟩
  have FX := Hid.mk (And.intro fx (And.intro fy fv))
  have Y4 := Hid.mk (And.intro y4 R4.out.1)
  have S := Hid.mk (And.intro s2 (And.intro s3 s4))
  clear p1 x3 x4 y4 fx fy fv s2 s3 s4
  go_wp2_with (fail)
  with_reducible refine CA.out.mono ?_
  rintro e v5 ⟨rfl, kv5⟩
  have CB5 := Hid.mk (CB.out v5 kv5)
  have KV5 := Hid.mk kv5
  clear CA CB kv5
  go_wp2_with (fail)
  with_reducible refine CB5.out.mono ?_
  rintro e v6 ⟨rfl, kv6⟩
  have kv : Kept [] w4 v6 := KV5.out.trans kv6
  have R6 : Hid (SepI W v6 a.Dm a.R ∧ Kept [] w4 v6) := Hid.mk ⟨R4.out.2.1.keep kv, kv⟩
  have x6 := kv.row X4.out (by simp)
  have D5 := Hid.mk (one_tells R6.out.1 OKR.out (by omega) (by omega) LB.out (own_zero x6) (fun y hy => ⟨(fresh_new H1.out (FX.out.1 y hy).1).1, (fresh_new H1.out (FX.out.1 y hy).1).2⟩))
  clear CB5 KV5 kv6 kv x6
  go_wp2_with (fail)
  with_reducible refine D5.out.mono ?_
  rintro e w5 ⟨rfl, a1, sm, ⟨q1, q2, q3⟩, h5, ok5, k5, f5⟩
  have lA : ∀ z ∈ a.b.A :: vb a.b.t, z < w1.heap.size := fun z hz => (a.R (5, 0)).lt (H1.out.P (5, 0) rfl) (by
    show z ∈ a.b.F
    simp only [List.mem_cons] at hz
    rcases hz with rfl | hz
    · exact vb_mem (by simp)
    · exact vb_mem (by simp [hz]))
  have lth : ∀ j, a.Dm j → ∀ y ∈ (a.R j).F, y < w1.heap.size := fun j hj y hy => (a.R j).lt (H1.out.P j hj) hy
  have y5 : w5.ownsRow 0 63 2 (.slice yo B.length yc) B.length (spc B) := own_zero (k5.row (R6.out.2.row Y4.out.1 (by simp)) (fun g hg hm => by
    have h8 := lA g hm
    have h9 := (FX.out.2.1 g (by simp [vb, hg])).1
    have := S.out
    omega))
  have v5 : w5.ownsRow 0 63 2 (.slice vo B.length vc) B.length (spc B) := own_zero (k5.row (R6.out.2.row Y4.out.2 (by simp)) (fun g hg hm => by
    have h8 := lA g hm
    have h9 := (FX.out.2.2 g (by simp [vb, hg])).1
    have := S.out
    omega))
  have C6 := Hid.mk (both_heldS h5 ok5 (by omega) (by omega) LB.out y5 v5 (fun y hy => by
    have hs := S.out
    have hs6 := R6.out.2.size
    have hr1 : w2.heap.size ≤ y ∧ y < w4.heap.size := by
      rcases hy with hy | hy
      · have := FX.out.2.1 y hy; omega
      · have := FX.out.2.2 y hy; omega
    refine ⟨by have := H1.out.old.size; omega, fun j hj hm => ?_⟩
    rcases f5 j hj y hm with ⟨j', hj', q'⟩ | q' | q'
    · have := lth j' hj' y q'; omega
    · omega
    · have := FX.out.1 y q'; omega) (fun y hy hm => by
    have := FX.out.2.1 y hy
    have := FX.out.2.2 y hm
    omega))
  rw [sm.A] at C6
  have SM := Hid.mk (And.intro sm (And.intro q1 q2))
  clear D5 lA lth y5 v5 h5 ok5 k5 f5 sm q1 q2 q3
  go_wp2_with (fail)
  with_reducible refine C6.out.mono ?_
  rintro e w6 ⟨rfl, a2, sm2, hp2, hr2, st, -, -⟩
  have FN := Hid.mk (And.intro sm2 (And.intro hp2 (And.intro hr2 st)))
  clear C6 sm2 hp2 hr2 st
  go_wp2
  go_ret
  refine ⟨by simp, a2, SM.out.1.trans FN.out.1, ?_, ?_, FN.out.2.2.2⟩
  · have := FN.out.2.2.1
    have := SM.out.2.2
    omega
  · have := FN.out.2.1
    have := SM.out.2.1
    omega
end Go.Proofs.Ytiojcfffhcipnaa
