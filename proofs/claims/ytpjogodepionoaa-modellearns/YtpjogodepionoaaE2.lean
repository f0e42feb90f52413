import Derived.Test.YtpjogodepionoaaE1
import Derived.Test.YtpjogodepionoaaD1
import Derived.Test.YtpjogodepionoaaOa
namespace Go.Proofs.Ytpjogodepionoaa
open Go.RowKit

theorem pick_nat (c : Int) : ∃ n : Nat, pick c 365 = (n : Int) ∧ n < 365 := ⟨(pick c 365).toNat, by have := pick_lo c 365 (by omega); omega, by have := pick_hi c 365 (by omega); omega⟩

set_option maxHeartbeats 16000000 in
set_option maxRecDepth 1000000 in
theorem learns_law (D t : Int) (sa : Option Addr) (N cap : Nat) (f : Nat → Ent) (w : World) (D0 : -9223372036854775808 ≤ D) (D1 : D ≤ 9223372036854775807) (t0 : -9223372036854775808 ≤ t) (t1 : t ≤ 9223372036854775807) (O : Ops w sa N f) :
    Calls Try.prog 7 #[.agg #[.int .i64 D, .int .i64 t], .slice sa N cap] w fun e w' => e = .returned (.bool true) ∧ Kept [] w w' := by
  have CM := Hid.mk (fun w => made_any D t w D0 D1 t0 t1)
  have HO := Hid.mk O
  have hN := O.len
  clear D0 D1 t0 t1 O
  go_enter Try.func7, Try.ntmps7
  go_wp2_with (fail)
  obtain ⟨w1, hw1, k1, hb1⟩ := two_new w (.int .i64 D) (.int .i64 t) 23
  rw [hw1]
  clear hw1
  obtain ⟨B, hB⟩ : ∃ B, B = w.heap.size := ⟨_, rfl⟩
  rw [← hB] at hb1 ⊢
  clear hB
  refine (shown_any w1).mono ?_
  rintro e w2 ⟨rfl, k2⟩
  have ⟨b0, b1⟩ := two (k2.heap hb1 (by simp))
  go_wp2_with (fail)
  refine (CM.out w2).mono ?_
  rintro e w3 ⟨P, T, d, G, rfl, M, hl, k3, -, -⟩
  have HG := Hid.mk G
  have HP : Hid (w.heap.size ≤ P) := Hid.mk (by have := (k1.trans k2).size; omega)
  have HK3 : Hid (Kept [] w w3) := Hid.mk ((k1.trans k2).trans k3)
  have HM := Hid.mk M
  clear M k1 k2 k3 hb1 b0 b1 CM G hl
  go_wp2
  go_loopw [9] (fun i wr => ∃ (k : Nat) (L : Nat → Sx), k ≤ N ∧ i = .int .i64 (k : Int) ∧ Md wr P T d L ∧ Kept [] w wr) (fun i _ => N - (intOf i).toNat)
  case atStart => exact ⟨0, _, by omega, rfl, HM.out, HK3.out⟩
  case round =>
    obtain ⟨i, L, hi, rfl, M, hk⟩ := hrel
    by_cases hlt : i < N
    · obtain ⟨b, off, rfl, hc⟩ := HO.out.lies (by omega)
      have HE := Hid.mk ((hc i hlt).keep hk)
      have HQ := Hid.mk (HO.out.ok i hlt)
      have c1 := HE.out.c1
      have ix : (i : Int) < (N : Int) := by omega
      obtain ⟨n, hn, hn5⟩ := pick_nat (f i).k
      obtain ⟨j, hj, hj5⟩ := pick_nat (f i).b
      have P1 := Hid.mk (fun w => pick_any (f i).k 365 w HQ.out.k.1 HQ.out.k.2 (by omega))
      have P2 := Hid.mk (fun w => pick_any (f i).b 365 w HQ.out.b.1 HQ.out.b.2 (by omega))
      rw [hn] at P1
      rw [hj] at P2
      clear hc hn hj
      generalize hq : f i = q at *
      clear hq
      obtain ⟨qkd, qk, qs, qa, qb, qc, qd, qt⟩ := q
      dsimp only at *
      go_wp2_with (fail)
      refine (P1.out wr).mono ?_
      rintro e w4 ⟨rfl, rfl⟩
      have c4 := HE.out.c4
      dsimp only at c4
      go_wp2_with (fail)
      refine (P2.out w4).mono ?_
      rintro e w5 ⟨rfl, rfl⟩
      go_wp2_with (fail)
      refine (stats_yes P n T d L w5 M hn5).mono ?_
      rintro e w6 ⟨rfl, k6⟩
      have M6 := M.keep k6 (by simp)
      go_wp2_with (fail)
      refine (stats_yes P j T d L w6 M6 hj5).mono ?_
      rintro e w7 ⟨rfl, k7⟩
      have M7 := M6.keep k7 (by simp)
      have hk7 := (hk.trans k6).trans k7
      have c3 := (HE.out.keep (k6.trans k7)).c3
      dsimp only at c3
      go_wp2_with (fail)
      refine (learn_yes P n T d qa L w7 M7 hn5).mono ?_
      rintro e w8 ⟨rfl, hc8⟩
      have F := learn_fit T d qa HG.out (L n) (M7.fit n)
      have M8 := M7.chg hn5 F.1 hc8
      have hk8 : Kept [] w w8 := hk7.step hc8.kept (fun x hx => by simp at hx; subst hx; exact .inr HP.out)
      have u1 : upd L n ((L n).learn T d qa) n = (L n).learn T d qa := by unfold upd; rw [if_pos rfl]
      go_wp2_with (fail)
      have S8 := stats_yes P n T d _ w8 M8 hn5
      rw [u1] at S8
      refine S8.mono ?_
      rintro e w9 ⟨rfl, k9⟩
      have M9 := M8.keep k9 (by simp)
      have hk9 := hk8.trans k9
      have F0 := M7.fit n
      obtain ⟨F1, F2, F3, F4, F5, F6⟩ := F
      obtain ⟨p1, -, p2, p3, p4, p5, p6, p7⟩ := F1
      have o1 := F0.n1
      have o2 := F0.s0
      have o3 := F0.s1
      have o4 := F0.n0
      have SJ : Hid (Calls Try.prog 20 #[.pointer (some ⟨P, 0, none⟩), .int .i64 (j : Int)] w9 fun e w' => e = .returned (.tuple #[.int .i64 (upd L n ((L n).learn T d qa) j).A, .int .i64 (upd L n ((L n).learn T d qa) j).B, .int .i64 (upd L n ((L n).learn T d qa) j).S, .int .i64 (upd L n ((L n).learn T d qa) j).N]) ∧ Kept [] w9 w') := Hid.mk (stats_yes P j T d _ w9 M9 hj5)
      have HM9 := Hid.mk M9
      have HK9 := Hid.mk hk9
      clear M M6 M7 M8 M9 S8 hc8 u1 F0 hk hk7 hk8 hk9 k6 k7 k9 c1 c3 c4 HE
      have CZ := Hid.mk (fun w => size17_any (((L n).learn T d qa).S - (L n).S) w (by omega) (by omega))
      have hz : mg (((L n).learn T d qa).S - (L n).S) ≤ 1 := by unfold mg; split <;> omega
      generalize mg (((L n).learn T d qa).S - (L n).S) = z at *
      have HX : Hid (∃ L', Md w9 P T d L') := Hid.mk ⟨_, HM9.out⟩
      have hcase : Hid (((L n).N < 64 ∧ ((L n).learn T d qa).N = (L n).N + 1) ∨ ((L n).N = 64 ∧ ((L n).learn T d qa).N = 33)) := Hid.mk (by
        by_cases h : (L n).N = 64
        · exact .inr ⟨h, F6 h⟩
        · exact .inl ⟨by omega, F5 (by omega)⟩)
      clear F5 F6 HM9
      by_cases e : j = n
      · subst e
        have u2 : upd L j ((L j).learn T d qa) j = (L j).learn T d qa := by unfold upd; rw [if_pos rfl]
        rw [u2] at SJ
        clear u2
        generalize (L j).learn T d qa = y at *
        generalize L j = x at *
        obtain ⟨A1, B1, S1, N1⟩ := x
        obtain ⟨A2, B2, S2, N2⟩ := y
        dsimp only at *
        rcases hcase.out with ⟨g1, rfl⟩ | ⟨rfl, rfl⟩
        · have h2 : (N1 == 64) = false := by simp; omega
          go_wp2_with (first | (go_at_call 17; refine (CZ.out _).mono ?_; rintro e w10 ⟨rfl, rfl⟩) | (go_at_call 20; refine SJ.out.mono ?_; rintro e w11 ⟨rfl, k11⟩))
          go_roundw
          case rel =>
            obtain ⟨L', M'⟩ := HX.out
            exact ⟨i + 1, L', by omega, by go_num, M'.keep k11 (by simp), HK9.out.trans k11⟩
          case measure => simp [intOf]; omega
        · go_wp2_with (first | (go_at_call 17; refine (CZ.out _).mono ?_; rintro e w10 ⟨rfl, rfl⟩) | (go_at_call 20; refine SJ.out.mono ?_; rintro e w11 ⟨rfl, k11⟩))
          go_roundw
          case rel =>
            obtain ⟨L', M'⟩ := HX.out
            exact ⟨i + 1, L', by omega, by go_num, M'.keep k11 (by simp), HK9.out.trans k11⟩
          case measure => simp [intOf]; omega
      · have hjn : ((j : Int) == (n : Int)) = false := by simp; omega
        have u2 : upd L n ((L n).learn T d qa) j = L j := by unfold upd; rw [if_neg e]
        rw [u2] at SJ
        clear u2
        generalize (L n).learn T d qa = y at *
        generalize L n = x at *
        generalize L j = v at *
        obtain ⟨A1, B1, S1, N1⟩ := x
        obtain ⟨A2, B2, S2, N2⟩ := y
        obtain ⟨A3, B3, S3, N3⟩ := v
        dsimp only at *
        rcases hcase.out with ⟨g1, rfl⟩ | ⟨rfl, rfl⟩
        · have h2 : (N1 == 64) = false := by simp; omega
          go_wp2_with (first | (go_at_call 17; refine (CZ.out _).mono ?_; rintro e w10 ⟨rfl, rfl⟩) | (go_at_call 20; refine SJ.out.mono ?_; rintro e w11 ⟨rfl, k11⟩))
          go_roundw
          case rel =>
            obtain ⟨L', M'⟩ := HX.out
            exact ⟨i + 1, L', by omega, by go_num, M'.keep k11 (by simp), HK9.out.trans k11⟩
          case measure => simp [intOf]; omega
        · go_wp2_with (first | (go_at_call 17; refine (CZ.out _).mono ?_; rintro e w10 ⟨rfl, rfl⟩) | (go_at_call 20; refine SJ.out.mono ?_; rintro e w11 ⟨rfl, k11⟩))
          go_roundw
          case rel =>
            obtain ⟨L', M'⟩ := HX.out
            exact ⟨i + 1, L', by omega, by go_num, M'.keep k11 (by simp), HK9.out.trans k11⟩
          case measure => simp [intOf]; omega
    · obtain rfl : i = N := by omega
      go_wp2
      go_ret
      exact ⟨rfl, hk⟩
end Go.Proofs.Ytpjogodepionoaa
