import Derived.Test.YtpjogodepionoaaD1
namespace Go.Proofs.Ytpjogodepionoaa
open Go.RowKit

set_option maxHeartbeats 8000000 in
set_option maxRecDepth 1000000 in
theorem near_law (D t x a : Int) (w : World) (D0 : -9223372036854775808 ≤ D) (D1 : D ≤ 9223372036854775807) (t0 : -9223372036854775808 ≤ t) (t1 : t ≤ 9223372036854775807)
    (x0 : -9223372036854775808 ≤ x) (x1 : x ≤ 9223372036854775807) (a0 : -9223372036854775808 ≤ a) (a1 : a ≤ 9223372036854775807) :
    Calls Try.prog 4 #[.agg #[.int .i64 D, .int .i64 t], .int .i64 x, .int .i64 a] w fun e w' => e = .returned (.bool true) ∧ Kept [] w w' := by
  have CM := Hid.mk (fun w => made_any D t w D0 D1 t0 t1)
  have CX := Hid.mk (fun n (hn : 0 < n) w => pick_any x n w x0 x1 hn)
  have CA := Hid.mk (fun n (hn : 0 < n) w => pick_any a n w a0 a1 hn)
  clear D0 D1 t0 t1 x0 x1 a0 a1
  go_enter Try.func4, Try.ntmps4
  go_wp2_with (fail)
  obtain ⟨w1, hw1, k1, hb1⟩ := two_new w (.int .i64 D) (.int .i64 t) 23
  rw [hw1]
  clear hw1
  obtain ⟨B, hB⟩ : ∃ B, B = w.heap.size := ⟨_, rfl⟩
  rw [← hB] at hb1 ⊢
  clear hB
  refine (shown_any w1).mono ?_
  rintro e w2 ⟨rfl, k2⟩
  have ⟨b0, b1⟩ := two (k2.heap hb1 (by simp))
  go_wp2_with (fail)
  refine (CM.out w2).mono ?_
  rintro e w3 ⟨P, T, d, G, rfl, M, hl, k3, -, -⟩
  have ⟨g0, g1⟩ := G.tb
  have d0 := G.lo
  have d1 := G.hi
  go_wp2_with (fail)
  refine (CX.out (T + 1) (by omega) w3).mono ?_
  rintro e w4 ⟨rfl, rfl⟩
  have x0 := pick_lo x (T + 1) (by omega)
  have x1 := pick_hi x (T + 1) (by omega)
  generalize pick x (T + 1) = y at *
  go_wp2_with (fail)
  refine (CA.out (T + 1) (by omega) w4).mono ?_
  rintro e w5 ⟨rfl, rfl⟩
  have a0 := pick_lo a (T + 1) (by omega)
  have a1 := pick_hi a (T + 1) (by omega)
  generalize pick a (T + 1) = b at *
  by_cases hd : d = 0
  · subst hd
    have HW : Hid (Kept [] w w5) := Hid.mk ((k1.trans k2).trans k3)
    have HM := Hid.mk M
    clear k1 k2 k3 hb1 b0 b1 CM CX CA M
    go_wp2
    go_loopw [11] (fun i wr => ∃ g : Int, (g = -1 ∨ g = 1 ∨ g = 3) ∧ i = .int .i64 g ∧ Kept [] w5 wr) (fun i _ => (3 - intOf i).toNat)
    case atStart => exact ⟨-1, .inl rfl, rfl, Kept.refl _ _⟩
    case round =>
      obtain ⟨g, hg, rfl, hk⟩ := hrel
      by_cases h3 : g = 3
      · subst h3
        go_wp2
        go_ret
        exact ⟨rfl, HW.out.trans hk⟩
      · have hg' : g = 1 ∨ g = -1 := by omega
        have HG := Hid.mk hg'
        have N := near_all T 0 y b g G hg' a0 (by omega) x0 (by omega)
        have N0 : Hid (gro T 0 b (g * shr T 0 (g * (y - b))) = y) := Hid.mk (near_exact T y b g G hg' a0 (by omega) x0 (by omega))
        simp only at N
        have M1 := HM.out.keep hk (by simp)
        have S := Hid.mk (fun n e => shrink_any P T 0 e (wr.drewN n) (M1.hd.drewN n) G)
        have GR := Hid.mk (fun n q => grow_any P T 0 b q (wr.drewN n) (M1.hd.drewN n) G)
        have RG := Hid.mk (fun n => range_any P T 0 (wr.drewN n) (M1.hd.drewN n))
        have ⟨r0, r1⟩ := rg_pos T 0 G
        have q1 : IntKind.i64.wrap (g * (y - b)) = g * (y - b) := by rcases hg' with rfl | rfl <;> exact wrap_i (by omega) (by omega)
        obtain ⟨E, hE⟩ : ∃ E, g * (y - b) = E := ⟨_, rfl⟩
        rw [hE] at N N0
        replace q1 := q1.trans hE
        obtain ⟨q, hq⟩ : ∃ q, shr T 0 E = q := ⟨_, rfl⟩
        rw [hq] at N N0
        have q2 : IntKind.i64.wrap (g * q) = g * q := by rcases hg' with rfl | rfl <;> exact wrap_i (by omega) (by omega)
        obtain ⟨F, hF⟩ : ∃ F, g * q = F := ⟨_, rfl⟩
        rw [hF] at N N0
        replace q2 := q2.trans hF
        obtain ⟨v, hv⟩ : ∃ v, gro T 0 b F = v := ⟨_, rfl⟩
        rw [hv] at N N0
        obtain ⟨n1, n2, n3, n4, n5, n6, n7⟩ := N
        have q3 : IntKind.i64.wrap (g * (v - b)) = g * (v - b) := by rcases hg' with rfl | rfl <;> exact wrap_i (by omega) (by omega)
        obtain ⟨E2, hE2⟩ : ∃ E2, g * (v - b) = E2 := ⟨_, rfl⟩
        rw [hE2] at n5
        replace q3 := q3.trans hE2
        have C1 : Hid (∀ n, Calls Try.prog 15 #[.pointer (some ⟨P, 0, none⟩), .int .i64 E] (wr.drewN n) fun r w' => r = .returned (.int .i64 q) ∧ ∃ m, w' = (wr.drewN n).drewN m) := Hid.mk (fun n => by have := S.out n E; rw [hq] at this; exact this)
        have C2 : Hid (∀ n, Calls Try.prog 15 #[.pointer (some ⟨P, 0, none⟩), .int .i64 E2] (wr.drewN n) fun r w' => r = .returned (.int .i64 q) ∧ ∃ m, w' = (wr.drewN n).drewN m) := Hid.mk (fun n => by have := S.out n E2; rw [n5] at this; exact this)
        have C3 : Hid (∀ n, Calls Try.prog 16 #[.pointer (some ⟨P, 0, none⟩), .int .i64 b, .int .i64 F] (wr.drewN n) fun r w' => r = .returned (.int .i64 v) ∧ ∃ m, w' = (wr.drewN n).drewN m) := Hid.mk (fun n => by have := GR.out n F; rw [hv] at this; exact this)
        have hz : mg (v - y) ≤ 0 := by unfold mg; split <;> omega
        have C4 := Hid.mk (fun w => size17_any (v - y) w (by omega) (by omega))
        generalize mg (v - y) = z at *
        generalize rg T 0 = R at *
        have hg2 : g < 2 := by omega
        have hg3 : -1 ≤ g := by omega
        have HK := Hid.mk hk
        have H3 := Hid.mk h3
        clear S GR hE hq hF hv hE2 n5 hg hg' hk h3 HM M1 G
        go_wp2_with (fail)
        refine (C1.out 0).mono ?_
        rintro e w6 ⟨rfl, m6, rfl⟩
        rw [World.drewN_drewN]
        go_wp2_with (fail)
        refine (C3.out _).mono ?_
        rintro e w7 ⟨rfl, m7, rfl⟩
        rw [World.drewN_drewN]
        have hvy : (v == y) = true := by rw [N0.out]; simp
        go_wp2_with (first | (go_at_call 17; refine (C4.out _).mono ?_; rintro e w9 ⟨rfl, rfl⟩) | (go_at_call 15; refine (C2.out _).mono ?_; rintro e w8 ⟨rfl, m8, rfl⟩; rw [World.drewN_drewN]) | (go_at_call 18; refine (RG.out _).mono ?_; rintro e w9 ⟨rfl, rfl⟩))
        go_roundw
        case rel => exact ⟨g + 2, by have := HG.out; omega, by go_num, HK.out.drewN _⟩
        case measure => simp [intOf]; omega
  · have hd' : (d == 0) = false := by simpa using hd
    have Hd' := Hid.mk hd
    clear hd
    have HW : Hid (Kept [] w w5) := Hid.mk ((k1.trans k2).trans k3)
    have HM := Hid.mk M
    clear k1 k2 k3 hb1 b0 b1 CM CX CA M
    go_wp2
    go_loopw [11] (fun i wr => ∃ g : Int, (g = -1 ∨ g = 1 ∨ g = 3) ∧ i = .int .i64 g ∧ Kept [] w5 wr) (fun i _ => (3 - intOf i).toNat)
    case atStart => exact ⟨-1, .inl rfl, rfl, Kept.refl _ _⟩
    case round =>
      obtain ⟨g, hg, rfl, hk⟩ := hrel
      by_cases h3 : g = 3
      · subst h3
        go_wp2
        go_ret
        exact ⟨rfl, HW.out.trans hk⟩
      · have hg' : g = 1 ∨ g = -1 := by omega
        have HG := Hid.mk hg'
        have N := near_all T d y b g G hg' a0 (by omega) x0 (by omega)
        simp only at N
        have M1 := HM.out.keep hk (by simp)
        have S := Hid.mk (fun n e => shrink_any P T d e (wr.drewN n) (M1.hd.drewN n) G)
        have GR := Hid.mk (fun n q => grow_any P T d b q (wr.drewN n) (M1.hd.drewN n) G)
        have RG := Hid.mk (fun n => range_any P T d (wr.drewN n) (M1.hd.drewN n))
        have ⟨r0, r1⟩ := rg_pos T d G
        have q1 : IntKind.i64.wrap (g * (y - b)) = g * (y - b) := by rcases hg' with rfl | rfl <;> exact wrap_i (by omega) (by omega)
        obtain ⟨E, hE⟩ : ∃ E, g * (y - b) = E := ⟨_, rfl⟩
        rw [hE] at N
        replace q1 := q1.trans hE
        obtain ⟨q, hq⟩ : ∃ q, shr T d E = q := ⟨_, rfl⟩
        rw [hq] at N
        have q2 : IntKind.i64.wrap (g * q) = g * q := by rcases hg' with rfl | rfl <;> exact wrap_i (by omega) (by omega)
        obtain ⟨F, hF⟩ : ∃ F, g * q = F := ⟨_, rfl⟩
        rw [hF] at N
        replace q2 := q2.trans hF
        obtain ⟨v, hv⟩ : ∃ v, gro T d b F = v := ⟨_, rfl⟩
        rw [hv] at N
        obtain ⟨n1, n2, n3, n4, n5, n6, n7⟩ := N
        have q3 : IntKind.i64.wrap (g * (v - b)) = g * (v - b) := by rcases hg' with rfl | rfl <;> exact wrap_i (by omega) (by omega)
        obtain ⟨E2, hE2⟩ : ∃ E2, g * (v - b) = E2 := ⟨_, rfl⟩
        rw [hE2] at n5
        replace q3 := q3.trans hE2
        have C1 : Hid (∀ n, Calls Try.prog 15 #[.pointer (some ⟨P, 0, none⟩), .int .i64 E] (wr.drewN n) fun r w' => r = .returned (.int .i64 q) ∧ ∃ m, w' = (wr.drewN n).drewN m) := Hid.mk (fun n => by have := S.out n E; rw [hq] at this; exact this)
        have C2 : Hid (∀ n, Calls Try.prog 15 #[.pointer (some ⟨P, 0, none⟩), .int .i64 E2] (wr.drewN n) fun r w' => r = .returned (.int .i64 q) ∧ ∃ m, w' = (wr.drewN n).drewN m) := Hid.mk (fun n => by have := S.out n E2; rw [n5] at this; exact this)
        have C3 : Hid (∀ n, Calls Try.prog 16 #[.pointer (some ⟨P, 0, none⟩), .int .i64 b, .int .i64 F] (wr.drewN n) fun r w' => r = .returned (.int .i64 v) ∧ ∃ m, w' = (wr.drewN n).drewN m) := Hid.mk (fun n => by have := GR.out n F; rw [hv] at this; exact this)
        have hz : mg (v - y) ≤ d := by unfold mg; split <;> omega
        have C4 := Hid.mk (fun w => size17_any (v - y) w (by omega) (by omega))
        generalize mg (v - y) = z at *
        generalize rg T d = R at *
        have hg2 : g < 2 := by omega
        have hg3 : -1 ≤ g := by omega
        have HK := Hid.mk hk
        have H3 := Hid.mk h3
        clear S GR hE hq hF hv hE2 n5 hg hg' hk h3 HM M1 G
        go_wp2_with (fail)
        refine (C1.out 0).mono ?_
        rintro e w6 ⟨rfl, m6, rfl⟩
        rw [World.drewN_drewN]
        go_wp2_with (fail)
        refine (C3.out _).mono ?_
        rintro e w7 ⟨rfl, m7, rfl⟩
        rw [World.drewN_drewN]
        go_wp2_with (first | (go_at_call 17; refine (C4.out _).mono ?_; rintro e w9 ⟨rfl, rfl⟩) | (go_at_call 15; refine (C2.out _).mono ?_; rintro e w8 ⟨rfl, m8, rfl⟩; rw [World.drewN_drewN]) | (go_at_call 18; refine (RG.out _).mono ?_; rintro e w9 ⟨rfl, rfl⟩))
        go_roundw
        case rel => exact ⟨g + 2, by have := HG.out; omega, by go_num, HK.out.drewN _⟩
        case measure => simp [intOf]; omega

end Go.Proofs.Ytpjogodepionoaa
