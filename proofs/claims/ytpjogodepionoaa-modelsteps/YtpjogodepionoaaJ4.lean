import Derived.Test.YtpjogodepionoaaJ3
import Derived.Test.YtpjogodepionoaaJ2
import Derived.Test.YtpjogodepionoaaD3
import Derived.Test.YtpjogodepionoaaOa
namespace Go.Proofs.Ytpjogodepionoaa
open Go.RowKit

theorem Pq.base {w : World} {B B' : Nat} {m r : Value} {ks : List Nat} (h : Pq w B m r ks) (hb : B' ≤ B) : Pq w B' m r ks := by
  rcases h with h | ⟨P, R, g, cap, T, d, L, h1, h2, h3, h4⟩
  · exact .inl h
  · exact .inr ⟨P, R, g, cap, T, d, L, h1, h2, h3, ⟨h4.m, h4.r, h4.pr, h4.pg, Nat.le_trans hb h4.bp, Nat.le_trans hb h4.br, Nat.le_trans hb h4.bg⟩⟩
theorem begins_ptr (D d : Int) (w : World) : Calls Try.prog 10 #[.int .i64 D, .int .i64 d] w fun e w' => ∃ pm pr ks, e = .returned (.tuple #[.agg #[.pointer pm, .pointer pr], .bool true]) ∧ Kept [] w w' ∧ Pq w' w.heap.size (.pointer pm) (.pointer pr) ks :=
  (begins_any D d w).mono (by
    rintro e w' ⟨m, r, ks, rfl, hk, hp⟩
    have hp' := hp
    rcases hp with ⟨rfl, rfl, h⟩ | ⟨P, R, g, cap, T, d, L, rfl, rfl, h3, h4⟩
    · exact ⟨none, none, ks, rfl, hk, hp'⟩
    · exact ⟨_, _, ks, rfl, hk, hp'⟩)

/-- All that lies in memory: the two pairs. -/
structure Sm (w wr : World) (Ba Bb : Nat) (p1 r1 p2 r2 : Option Addr) (k1 k2 : List Nat) : Prop where
  ba : wr.heap[Ba]? = some (.cells #[.pointer p1, .pointer r1] 29 (0, 0))
  bb : wr.heap[Bb]? = some (.cells #[.pointer p2, .pointer r2] 29 (0, 0))
  q1 : Pq wr w.heap.size (.pointer p1) (.pointer r1) k1
  q2 : Pq wr w.heap.size (.pointer p2) (.pointer r2) k2
  hk : Kept [] w wr
  d12 : ∀ x ∈ k1, x ∉ k2
  a1 : Ba ∉ k1
  a2 : Ba ∉ k2
  b1 : Bb ∉ k1
  b2 : Bb ∉ k2
section
variable {w wr w' : World} {Ba Bb : Nat} {p1 r1 p2 r2 : Option Addr} {k1 k2 l : List Nat}
theorem Sm.keep (h : Sm w wr Ba Bb p1 r1 p2 r2 k1 k2) (hk : Kept [] wr w') : Sm w w' Ba Bb p1 r1 p2 r2 k1 k2 :=
  ⟨hk.heap h.ba (by simp), hk.heap h.bb (by simp), h.q1.keep hk (by simp), h.q2.keep hk (by simp), h.hk.trans hk, h.d12, h.a1, h.a2, h.b1, h.b2⟩
theorem Sm.one (h : Sm w wr Ba Bb p1 r1 p2 r2 k1 k2) (hk : Kept l wr w') (hl : ∀ x ∈ l, x ∈ k1) (hq : Pq w' w.heap.size (.pointer p1) (.pointer r1) k1) : Sm w w' Ba Bb p1 r1 p2 r2 k1 k2 :=
  ⟨hk.heap h.ba (fun hm => h.a1 (hl _ hm)), hk.heap h.bb (fun hm => h.b1 (hl _ hm)), hq, h.q2.keep hk (fun x hx hm => h.d12 x (hl x hm) hx), h.hk.step hk (fun x hx => .inr (h.q1.lt x (hl x hx)).1), h.d12, h.a1, h.a2, h.b1, h.b2⟩
theorem Sm.two (h : Sm w wr Ba Bb p1 r1 p2 r2 k1 k2) (hk : Kept l wr w') (hl : ∀ x ∈ l, x ∈ k2) (hq : Pq w' w.heap.size (.pointer p2) (.pointer r2) k2) : Sm w w' Ba Bb p1 r1 p2 r2 k1 k2 :=
  ⟨hk.heap h.ba (fun hm => h.a2 (hl _ hm)), hk.heap h.bb (fun hm => h.b2 (hl _ hm)), h.q1.keep hk (fun x hx hm => h.d12 x hx (hl x hm)), hq, h.hk.step hk (fun x hx => .inr (h.q2.lt x (hl x hx)).1), h.d12, h.a1, h.a2, h.b1, h.b2⟩
theorem Sm.loc {Q : Nat} (h : Sm w wr Ba Bb p1 r1 p2 r2 k1 k2) {w7 : World} (h7 : Sm w w7 Ba Bb p1 r1 p2 r2 k1 k2) (hQ : Q = wr.heap.size) (hk : Kept [Q] w7 w') : Sm w w' Ba Bb p1 r1 p2 r2 k1 k2 := by
  have e1 := lt_of_block h.ba
  have e2 := lt_of_block h.bb
  have e3 := h.hk.size
  refine ⟨hk.heap h7.ba (by simp; omega), hk.heap h7.bb (by simp; omega), h7.q1.keep hk (fun x hx hm => ?_), h7.q2.keep hk (fun x hx hm => ?_), h7.hk.step hk (fun x hx => .inr ?_), h.d12, h.a1, h.a2, h.b1, h.b2⟩
  · simp at hm; subst hm; have := (h.q1.lt _ hx).2; omega
  · simp at hm; subst hm; have := (h.q2.lt _ hx).2; omega
  · simp at hx; omega
end

set_option maxHeartbeats 16000000 in
set_option maxRecDepth 1000000 in
theorem steps_law (D1 t1 D2 t2 : Int) (sa : Option Addr) (N cap : Nat) (f : Nat → Ent) (w : World) (O : Ops w sa N f) :
    Calls Try.prog 3 #[.agg #[.int .i64 D1, .int .i64 t1], .agg #[.int .i64 D2, .int .i64 t2], .slice sa N cap] w fun e w' => e = .returned (.bool true) ∧ Kept [] w w' := by
  have HO := Hid.mk O
  have hN := O.len
  have HLD : Hid LrnD := Hid.mk (fun R g cap T d k q L w M => learnD_any R g cap T d k q L w M)
  clear O
  go_enter Try.func3, Try.ntmps3
  go_wp2_with (fail)
  obtain ⟨w1, hw1, k1, hb1, hb2⟩ := two_boxes w #[.int .i64 D1, .int .i64 t1] #[.int .i64 D2, .int .i64 t2] 23 23
  (try rw [hw1])
  clear hw1
  obtain ⟨B, hB⟩ : ∃ B, B = w.heap.size := ⟨_, rfl⟩
  rw [← hB] at hb1 hb2 ⊢
  clear hB
  refine (shown_any w1).mono ?_
  rintro e w2 ⟨rfl, k2⟩
  have ⟨b0, b1⟩ := two (k2.heap hb1 (by simp))
  go_wp2_with (fail)
  refine (begins_ptr D1 t1 w2).mono ?_
  rintro e w3 ⟨p1, r1, l1, rfl, k3, q1⟩
  obtain ⟨w4, hw4, k4, hb4⟩ := two_new w3 (.pointer p1) (.pointer r1) 29
  have ⟨b2, b3⟩ := two (((k2.trans k3).trans k4).heap hb2 (by simp))
  go_wp2_with (fail)
  (try rw [hw4])
  clear hw4
  refine (begins_ptr D2 t2 w4).mono ?_
  rintro e w5 ⟨p2, r2, l2, rfl, k5, q2⟩
  obtain ⟨w6, hw6, k6, hb6⟩ := two_new w5 (.pointer p2) (.pointer r2) 29
  have sz1 := k1.size
  have sz2 := k2.size
  have sz3 := k3.size
  have sz4 : w3.heap.size < w4.heap.size := lt_of_block hb4
  have sz5 := k5.size
  have HA : Hid (Sm w w6 w3.heap.size w5.heap.size p1 r1 p2 r2 l1 l2) := Hid.mk
    ⟨(k5.trans k6).heap hb4 (by simp), hb6, ((q1.keep k4 (by simp)).keep (k5.trans k6) (by simp)).base (by omega), (q2.keep k6 (by simp)).base (by omega), ((((k1.trans k2).trans k3).trans k4).trans k5).trans k6,
      fun x h1 h2 => by have := (q1.lt x h1).2; have := (q2.lt x h2).1; omega,
      fun h => by have := (q1.lt _ h).2; omega, fun h => by have := (q2.lt _ h).1; omega, fun h => by have := (q1.lt _ h).2; omega, fun h => by have := (q2.lt _ h).2; omega⟩
  clear q1 q2 k1 k2 k3 k4 k5 k6 hb1 hb2 hb4 hb6 b0 b1 b2 b3 sz1 sz2 sz3 sz4 sz5
  generalize w3.heap.size = Ba at *
  obtain ⟨Bb, hBb⟩ : ∃ Bb, Bb = w5.heap.size := ⟨_, rfl⟩
  rw [← hBb] at HA
  go_wp2_with (fail)
  (try rw [hw6])
  (try rw [← hBb])
  clear hw6 hBb
  go_loopw [12] (fun i wr => ∃ k : Nat, k ≤ N ∧ i = .int .i64 (k : Int) ∧ Sm w wr Ba Bb p1 r1 p2 r2 l1 l2) (fun i _ => N - (intOf i).toNat)
  case atStart => exact ⟨0, by omega, rfl, HA.out⟩
  case round =>
    obtain ⟨i, hi, rfl, A⟩ := hrel
    clear HA
    by_cases hlt : i < N
    · obtain ⟨gg, off, rfl, hc⟩ := HO.out.lies (by omega)
      have E0 := (hc i hlt).keep A.hk
      clear hc
      generalize hq : f i = q at *
      clear hq
      have ix : (i : Int) < (N : Int) := by omega
      have ⟨a0, a1⟩ := two A.ba
      obtain ⟨w7, hw7, k7, hb7⟩ := two_new wr (.pointer p1) (.pointer r1) 29
      have HA7 := Hid.mk (A.keep k7)
      have HE7 := Hid.mk (E0.keep k7)
      have HGL := Hid.mk (lt_of_cell E0.c0)
      have ⟨c0, c1⟩ := two (k7.heap A.bb (by simp))
      have e7 := HE7.out.c7
      have HA0 := Hid.mk A
      obtain ⟨kd, qk, qs, qa, qb, qc, qd, qt⟩ := q
      have ⟨d0, d1⟩ := two hb7
      have f0 := frozen_of_row w7 wr.heap.size 0 _ 29 hb7
      have f1 := frozen_of_row w7 wr.heap.size 1 _ 29 hb7
      have HB7 := Hid.mk hb7
      dsimp only at e7
      clear A E0 k7 hb7
      obtain ⟨Q, hQ⟩ : ∃ Q, Q = wr.heap.size := ⟨_, rfl⟩
      have HQ := Hid.mk hQ
      cases qt
      · clear hQ
        rcases HA7.out.q1 with ⟨hm, hr, hks⟩ | ⟨P, R, g, cp, T, d, L, hm, hr, hks, hp⟩
        · simp only [Value.pointer.injEq] at hm hr
          subst hm hr
          go_wp2
          go_roundw
          case rel => exact ⟨i + 1, by omega, by go_num, by first | exact HA7.out | exact HA0.out.loc HA7.out rfl (((Kept.refl _ _).setCell (p := ⟨wr.heap.size, 0, none⟩) (.inl (by simp)) _).setCell (p := ⟨wr.heap.size, 1, none⟩) (.inl (by simp)) _)⟩
          case measure => simp [intOf]; omega
        · simp only [Value.pointer.injEq] at hm hr
          subst hm hr
          have HP := Hid.mk hp
          have HKS := Hid.mk hks
          clear hp hks
          obtain ⟨y0, y1, y2, y3, y4, y5, y6, y7⟩ := HE7.out
          dsimp only at y0 y1 y2 y3 y4 y5 y6 y7
          go_wp2_with (fail)
          go_region_with (go_at_call 11; refine (step_any w.heap.size P R g cp T d L ⟨kd, qk, qs, qa, qb, qc, qd, false⟩ w7.drew (HP.out.keep (Kept.refl [] w7).drew (by simp) (by simp) (by simp)) HLD.out).mono ?_; rintro e w9 ⟨rfl, ⟨L', hp9⟩, k9⟩)
          all_goals
            have HA9 := Hid.mk (HA7.out.one k9.undrew (fun x hx => by rw [HKS.out]; simp at hx ⊢; omega) (.inr ⟨P, R, g, cp, T, d, L', rfl, rfl, HKS.out, hp9⟩))
            clear k9 hp9
            go_wp2
            go_roundw
            case rel => exact ⟨i + 1, by omega, by go_num, HA9.out⟩
            case measure => simp [intOf]; omega
      · obtain ⟨w8, hw8, hb8, k8⟩ : ∃ w8, (w7.setCell ⟨wr.heap.size, 0, none⟩ (.pointer p2)).setCell ⟨wr.heap.size, 1, none⟩ (.pointer r2) = w8 ∧ w8.heap[wr.heap.size]? = some (.cells #[.pointer p2, .pointer r2] 29 (0, 0)) ∧ Kept [wr.heap.size] w7 w8 :=
          ⟨_, rfl, heap_setCell_at (heap_setCell_at HB7.out), ((Kept.refl _ _).setCell (p := ⟨wr.heap.size, 0, none⟩) (.inl (by simp)) _).setCell (p := ⟨wr.heap.size, 1, none⟩) (.inl (by simp)) _⟩
        have HA8 := Hid.mk (HA0.out.loc HA7.out rfl k8)
        have HE8 : Hid (Ent.At w8 gg (off + i * 8) ⟨kd, qk, qs, qa, qb, qc, qd, true⟩) := Hid.mk (by
          have hgl : gg < wr.heap.size := HGL.out
          have hn : gg ∉ [wr.heap.size] := by simp; omega
          have h := HE7.out
          exact ⟨cell_keep k8 h.c0 hn, cell_keep k8 h.c1 hn, cell_keep k8 h.c2 hn, cell_keep k8 h.c3 hn, cell_keep k8 h.c4 hn, cell_keep k8 h.c5 hn, cell_keep k8 h.c6 hn, cell_keep k8 h.c7 hn⟩)
        have ⟨g0, g1⟩ := two hb8
        clear hQ k8 hb8
        rcases HA8.out.q2 with ⟨hm, hr, hks⟩ | ⟨P, R, g, cp, T, d, L, hm, hr, hks, hp⟩
        · simp only [Value.pointer.injEq] at hm hr
          subst hm hr
          go_wp2
          go_roundw
          case rel => exact ⟨i + 1, by omega, by go_num, HA8.out⟩
          case measure => simp [intOf]; omega
        · simp only [Value.pointer.injEq] at hm hr
          subst hm hr
          have HP := Hid.mk hp
          have HKS := Hid.mk hks
          clear hp hks
          obtain ⟨y0, y1, y2, y3, y4, y5, y6, y7⟩ := HE8.out
          dsimp only at y0 y1 y2 y3 y4 y5 y6 y7
          go_wp2_with (fail)
          go_region_with (go_at_call 11; refine (step_any w.heap.size P R g cp T d L ⟨kd, qk, qs, qa, qb, qc, qd, true⟩ w8.drew (HP.out.keep (Kept.refl [] w8).drew (by simp) (by simp) (by simp)) HLD.out).mono ?_; rintro e w9 ⟨rfl, ⟨L', hp9⟩, k9⟩)
          all_goals
            have HA9 := Hid.mk (HA8.out.two k9.undrew (fun x hx => by rw [HKS.out]; simp at hx ⊢; omega) (.inr ⟨P, R, g, cp, T, d, L', rfl, rfl, HKS.out, hp9⟩))
            clear k9 hp9
            go_wp2
            go_roundw
            case rel => exact ⟨i + 1, by omega, by go_num, HA9.out⟩
            case measure => simp [intOf]; omega
    · obtain rfl : i = N := by omega
      have ⟨a0, a1⟩ := two A.ba
      have HA8 := Hid.mk A
      clear A
      go_wp2_with (fail)
      refine (ended_any _ _ _ _ wr HA8.out.q1).mono ?_
      rintro e w8 ⟨rfl, k8⟩
      have A9 := HA8.out.keep k8
      have ⟨a2, a3⟩ := two A9.bb
      have HA9 := Hid.mk A9
      clear A9
      go_wp2_with (fail)
      refine (ended_any _ _ _ _ w8 HA9.out.q2).mono ?_
      rintro e w9 ⟨rfl, k9⟩
      go_wp2
      go_ret
      exact ⟨rfl, HA9.out.hk.trans k9⟩
end Go.Proofs.Ytpjogodepionoaa
