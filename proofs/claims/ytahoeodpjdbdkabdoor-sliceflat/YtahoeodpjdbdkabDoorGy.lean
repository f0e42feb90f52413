import Derived.Test.YtahoeodpjdbdkabDoorGx
import Derived.Test.YtahoeodpjdbdkabDoorEdZ
import Derived.Test.YtahoeodpjdbdkabDoorJm
namespace Go.Proofs.YtahoeodpjdbdkabDoor
open Go.RowKit

set_option maxHeartbeats 8000000 in
set_option maxRecDepth 1000000 in
theorem sliceFlat_any (a b c x y : Int) (w : World) (hT : Tab w) (ha : i64b a) (hb : i64b b) (hc : i64b c) (hx : i64b x) (hy : i64b y) :
    Calls Tryd.prog 5 #[.agg #[.int .i64 a, .int .i64 b, .int .i64 c, .int .i64 x, .int .i64 y]] w fun e w' => e = .returned (.bool true) ∧ Kept [] w w' := by
  obtain ⟨w1, hw1, k1, b1⟩ := five_new w (.int .i64 a) (.int .i64 b) (.int .i64 c) (.int .i64 x) (.int .i64 y) 42
  obtain ⟨Q, hQ⟩ : ∃ Q, w.heap.size = Q := ⟨_, rfl⟩
  rw [hQ] at b1
  have K1 := Hid.mk k1
  have B1 := Hid.mk b1
  have HT := Hid.mk hT
  have C1 := Hid.mk (alive_any w1 (hT.kept k1 (by simp)))
  have CB := Hid.mk (fun W' => block_any a b c x y W' ha hb hc hx hy)
  clear k1 b1 hT ha hb hc hx hy
  go_enter Tryd.func5, Tryd.ntmps5
  go_wp2_with (fail)
  refine C1.out.mono ?_
  rintro e w2 ⟨rfl, k2⟩
  have K2 := Hid.mk (K1.out.trans k2)
  have B2 := Hid.mk (k2.heap B1.out (by simp))
  obtain ⟨z0, z1, z2, z3, z4⟩ := five_cells B2.out
  clear k2 C1
  go_wp2_with (fail)
  refine (CB.out _).mono ?_
  rintro e w3 ⟨W, H, n, G, D, T, d, V, rfl, hsm, BK, k3⟩
  obtain ⟨w4, hw4, k4, b4⟩ := five_new w3 (.int .i64 (W : Int)) (.int .i64 (H : Int)) (.slice (some ⟨G, 0, none⟩) n n) (.int .i64 D) (.int .i64 d) 26
  obtain ⟨R, hR⟩ : ∃ R, w3.heap.size = R := ⟨_, rfl⟩
  rw [hR] at b4
  have K4 := Hid.mk (K2.out.trans (k3.trans k4))
  have B4 := Hid.mk b4
  have S4 := Hid.mk (hsm.keep k4 (by simp))
  have hw := BK.w
  obtain ⟨xx, bb, ht⟩ := tell_ex (T := T) (d := d) (D := D) (fun _ => V) hw.1 BK.n_ hw.2.2.2.2.1
  obtain ⟨⟨c0, hc0⟩, hL0⟩ := fl_tell BK ht
  have hnear := tell_near BK.gd hw.1 BK.f_ ht
  have hT5 : T ≤ 65535 := by rcases BK.dp with ⟨_, h⟩ | ⟨_, h⟩ <;> omega
  have hF := apf_le bb (fun _ => V) d BK.d0 1 (fun i hi => by have := hnear i (by omega); omega)
  have hV := BK.f_ 0
  have h0 := hnear 0 (by omega)
  have C3 := Hid.mk (Encode_any (sc := n) w4 BK S4.out (HT.out.kept K4.out (by simp)) ht)
  have CD := Hid.mk (fun (g : Nat) (W' : World) (hr : W'.heap[g]? = some (.cells ((byts xx).map byt).toArray 5 (0, 0))) (hk : Kept [] w W') => Decode_any (cap := nby xx) W' BK (HT.out.kept hk (by simp)) ht (heap_reads' hr))
  have HA : Hid (∀ (G6 : Nat) (W' : World), Smp W' G6 0 n bb → Smp W' G 0 n (fun _ => V) → Calls Tryd.prog 13 #[.slice (some ⟨G6, 0, none⟩) 1 n, .slice (some ⟨G, 0, none⟩) 1 n] W' fun e w' => e = .returned (.int .i64 (apf bb (fun _ => V) 1)) ∧ Kept [] W' w') := Hid.mk (fun G6 W' h1 h2 =>
    apart_any G6 0 n G 0 n 1 bb (fun _ => V) W' (fun i hi => h1 i (by omega)) (fun i hi => h2 i (by omega)) (by omega) (fun i hi => by have := hnear i (by omega); omega) (fun i hi => by omega))
  obtain ⟨F, hFe⟩ : ∃ F, apf bb (fun _ => V) 1 = F := ⟨_, rfl⟩
  rw [hFe] at hF HA
  have hFd : F ≤ d := hF.2
  obtain ⟨L, hL⟩ : ∃ L, nby xx = L := ⟨_, rfl⟩
  rw [hL] at C3 CD hL0
  have hn1 : 1 ≤ n ∧ n ≤ 4194304 := hw.2.2.2.2
  have hH1 : 1 ≤ H ∧ H ≤ 4096 := ⟨hw.2.2.1, hw.2.2.2.1⟩
  obtain ⟨hi, hhi⟩ : ∃ x : Int, (H : Int) = x := ⟨_, rfl⟩
  obtain ⟨wi, hwi⟩ : ∃ x : Int, (W : Int) = x := ⟨_, rfl⟩
  obtain ⟨qq, hqq⟩ : ∃ q : Int, (hi + 63 + 7) / 8 = q := ⟨_, rfl⟩
  have bq : 0 ≤ qq ∧ qq ≤ 5000 := by omega
  have bh : 1 ≤ hi ∧ hi ≤ 4096 := by omega
  have hLq : ¬ 1 + qq < (L : Int) := by omega
  have t1 : (hi + 63 + 7).tdiv 8 = qq := by rw [Int.tdiv_eq_ediv_of_nonneg (by omega)]; exact hqq
  have p1 : -9223372036854775808 ≤ hi + 63 ∧ hi + 63 ≤ 9223372036854775807 := by omega
  have p2 : -9223372036854775808 ≤ hi + 63 + 7 ∧ hi + 63 + 7 ≤ 9223372036854775807 := by omega
  have p3 : -9223372036854775808 ≤ qq ∧ qq ≤ 9223372036854775807 := by omega
  have p4 : -9223372036854775808 ≤ 1 + qq ∧ 1 + qq ≤ 9223372036854775807 := by omega
  clear hL0 hT5 hF hV h0 hnear hH1 bq bh hqq hFe hw
  have u1 : IntKind.i64.wrap (hi + 63) = hi + 63 := wrap_i p1.1 p1.2
  have u2 : IntKind.i64.wrap (hi + 63 + 7) = hi + 63 + 7 := wrap_i p2.1 p2.2
  have u3 : IntKind.i64.wrap qq = qq := wrap_i p3.1 p3.2
  have u4 : IntKind.i64.wrap (1 + qq) = 1 + qq := wrap_i p4.1 p4.2
  have v1 : wrap64 (hi + 63) = hi + 63 := w64_in p1.1 p1.2
  have v2 : wrap64 (hi + 63 + 7) = hi + 63 + 7 := w64_in p2.1 p2.2
  have v3 : wrap64 qq = qq := w64_in p3.1 p3.2
  have v4 : wrap64 (1 + qq) = 1 + qq := w64_in p4.1 p4.2
  rw [hhi, hwi] at C3 B4 hw4 ⊢
  have CD' : Hid (∀ (g : Nat) (W' : World), W'.heap[g]? = some (.cells ((byts xx).map byt).toArray 5 (0, 0)) → Kept [] w W' → Calls Tryd.prog 9 #[.slice (some ⟨g, 0, none⟩) L L, .int .i64 wi, .int .i64 hi, .int .i64 D, .int .i64 d] W' fun e w' => ∃ G6, e = .returned (.tuple #[.agg #[.int .i64 wi, .int .i64 hi, .slice (some ⟨G6, 0, none⟩) n n], .int .i64 0]) ∧ Hid (Smp w' G6 0 n bb) ∧ Kept [] W' w') := Hid.mk (fun g W' hr hk => by
    have h := CD.out g W' hr hk
    rw [hhi, hwi] at h
    refine h.mono ?_
    rintro e w' ⟨G6, rfl, _, h1, h2⟩
    exact ⟨G6, rfl, Hid.mk h1, h2⟩)
  have Hc0 := Hid.mk hc0
  clear CD hc0 p1 p2 p3 p4 hhi hwi ht BK hsm k3 k4 b4 CB z0 z1 z2 z3 z4
  obtain ⟨z0, z1, z2, z3, z4⟩ := five_cells B4.out
  go_wp2_with (fail)
  refine C3.out.mono ?_
  rintro e w5 ⟨g5, rfl, -, hb5, k5⟩
  have K5 := Hid.mk (K4.out.trans k5)
  have B5 := Hid.mk (k5.heap B4.out (by simp))
  have S5 := Hid.mk (S4.out.keep k5 (by simp))
  have C4 := Hid.mk (CD'.out g5 w5 hb5 (K4.out.trans k5))
  clear hw4 hR C3 CD' k5 hb5 z0 z1 z2 z3 z4
  obtain ⟨z0, z1, z2, z3, z4⟩ := five_cells B5.out
  go_wp2_with (fail)
  refine C4.out.mono ?_
  rintro e w6 ⟨G6, rfl, hs6, k6⟩
  obtain ⟨w7, hw7, k7, b7⟩ := three_new w6 (.int .i64 wi) (.int .i64 hi) (.slice (some ⟨G6, 0, none⟩) n n) 24
  obtain ⟨S, hS⟩ : ∃ S, w6.heap.size = S := ⟨_, rfl⟩
  rw [hS] at b7
  have K7 := Hid.mk (K5.out.trans (k6.trans k7))
  have B7 := Hid.mk ((k6.trans k7).heap B5.out (by simp))
  have S7 := Hid.mk (S5.out.keep (k6.trans k7) (by simp))
  have A7 := Hid.mk (hs6.out.keep k7 (by simp))
  have R7 := Hid.mk b7
  clear z0 z1 z2 z3 z4
  obtain ⟨z0, z1, z2, z3, z4⟩ := five_cells B7.out
  obtain ⟨y0, y1, y2⟩ := agg3' b7
  clear k6 k7 b7 C4 hs6
  go_wp2_with (fail)
  clear u1 u2 u3 u4 v1 v2 v3 v4 t1 hLq hw7 hS
  go_loopw [9] (fun i wr => ∃ k : Nat, k ≤ n ∧ i = .int .i64 (k : Int) ∧ Kept [] w7 wr) (fun i _ => n - (intOf i).toNat)
  case atStart => exact ⟨0, by omega, rfl, Kept.refl _ _⟩
  case round =>
    obtain ⟨k, hk, rfl, hkw⟩ := hrel
    clear z0 z1 z2 z3 z4 y0 y1 y2
    obtain ⟨y0, y1, y2⟩ := agg3' (hkw.heap R7.out (by simp))
    have hsm := A7.out.keep hkw (by simp)
    have HK := Hid.mk hkw
    by_cases hlt : k < n
    · have a0 := hsm 0 (by omega)
      have a1 := hsm k hlt
      rw [Hc0.out 0 (by omega)] at a0
      rw [Hc0.out k hlt, Nat.zero_add] at a1
      have ix : (k : Int) < n := by omega
      have i0 : (0 : Int) < n := by omega
      clear hkw hsm
      go_wp2
      go_quiet (fail)
      go_wp2
      go_roundw
      case rel => exact ⟨k + 1, by omega, by go_num, HK.out.drewN _⟩
      case measure => simp [intOf]; omega
    · obtain rfl : n = k := by omega
      have ix : ¬ (n : Int) < (n : Int) := by omega
      have i1 : (1 : Int) ≤ n := by omega
      have i1' : 1 ≤ n := by omega
      obtain ⟨z0, z1, z2, z3, z4⟩ := five_cells (hkw.heap B7.out (by simp))
      have CA : Hid (∀ W', Kept [] wr W' → Calls Tryd.prog 13 #[.slice (some ⟨G6, 0, none⟩) 1 n, .slice (some ⟨G, 0, none⟩) 1 n] W' fun e w' => e = .returned (.int .i64 F) ∧ Hid (Kept [] w7 w') ∧ w'.cell? ⟨S, 2, none⟩ = some (.slice (some ⟨G6, 0, none⟩) n n) ∧ w'.cell? ⟨R, 2, none⟩ = some (.slice (some ⟨G, 0, none⟩) n n) ∧ w'.cell? ⟨R, 4, none⟩ = some (.int .i64 d)) := Hid.mk (fun W' hk' => (HA.out G6 W' (hsm.keep hk' (by simp)) (S7.out.keep (HK.out.trans hk') (by simp))).mono (by
          rintro e w' ⟨rfl, h⟩
          have hh := (HK.out.trans hk').trans h
          exact ⟨rfl, Hid.mk hh, (agg3' (hh.heap R7.out (by simp))).2.2, (five_cells (hh.heap B7.out (by simp))).2.2.1, (five_cells (hh.heap B7.out (by simp))).2.2.2.2⟩))
      clear hkw hsm HA
      go_wp2
      go_region_held_law (fun w' => w'.cell? ⟨S, 2, none⟩ = some (.slice (some ⟨G6, 0, none⟩) n n) ∧ w'.cell? ⟨R, 2, none⟩ = some (.slice (some ⟨G, 0, none⟩) n n) ∧ w'.cell? ⟨R, 4, none⟩ = some (.int .i64 d)) (first | exact ⟨y2, z2, z4⟩ | exact ⟨t1, t2, t3⟩ | go_keep) (first | (go_at_call 13; refine (CA.out _ (by with_reducible exact (Kept.refl _ _).drew)).mono ?_; rintro e w8 ⟨rfl, R8, t1, t2, t3⟩))
      all_goals
        go_wp2
        go_ret
        exact ⟨rfl, K7.out.trans R8.out⟩
end Go.Proofs.YtahoeodpjdbdkabDoor
