import Derived.Test.YthihennifigchabC2
namespace Go.Proofs.Ythihennifigchab
open Go.RowKit

set_option maxHeartbeats 16000000 in
set_option maxRecDepth 1000000 in
theorem paste_no (W H D : Int) (A : Bool) (po : Option Addr) (n c : Nat) (ln : Nat → Nat) (F : Nat → Nat → Nat) (p : Nat) (X Y bw bh : Int) (so : Option Addr) (m k : Nat) (bf : Nat → Nat) (w : World) (hr : Pc w po n ln F) (hv : Vld W H D A n ln F) (hs : Rd w so m bf) (hmx : m ≤ 9223372036854775807) (hp : p < n) (hX : -9223372036854775808 ≤ X ∧ X ≤ 9223372036854775807) (hY : -9223372036854775808 ≤ Y ∧ Y ≤ 9223372036854775807)
    (hno : ¬ (lie X Y bw bh (wp W (p : Int)) H = true ∧ (m : Int) = bw * bh ∧ ∀ i, i < m → bf i ≤ mx D)) :
    Calls Try.prog 18 #[frv W H D A po n c, .int .i64 (p : Int), .int .i64 X, .int .i64 Y, blv bw bh so m k] w fun e w' => ∃ x, e = .returned (.tuple #[frv 0 0 0 false none 0 0, .int .i64 x]) ∧ (x == 0) = false ∧ Kept [] w w' := by
  have hsh := hv.shp
  have hs1 := hsh.1
  have hs2 := hsh.2.1
  have wl := wp_lo (p : Int) hs1.1
  have wh := wp_hi (p : Int) hs1.1
  have CV := Hid.mk (fun u (hk : Kept [] w u) => by
    have h := valid_any W H D A po n c ln F u (hr.keep hk).pl (by rw [hv.num]; exact Nat.le_trans (np_hi A) (by decide)) (fun i hi => by have h1 := hv.len i hi; have h2 := wpH (i : Int) hs1.1 hs1.2 hs2.1 hs2.2; omega)
    rw [vE_zero.2 hv] at h
    exact h)
  have CI := Hid.mk (fun u => inPlane_any W H D p X Y bw bh A u hX hY hs1 hs2)
  have CA := Hid.mk (fun u (hk : Kept [] w u) => above_any so m k bf D u (hs.keep hk) hsh.2.2.1 hmx)
  rw [show inP W H A p X Y bw bh = lie X Y bw bh (wp W (p : Int)) H by unfold inP; rw [decide_eq_true (by rw [← hv.num]; omega)]; rfl] at CI
  have N := ent535 w (.int .i64 W) (.int .i64 H) (.int .i64 D) (.bool A) (.slice po n c) (.int .i64 bw) (.int .i64 bh) (.slice so m k) (.int .i64 0) (.int .i64 0) (.int .i64 0) (.bool false) (.slice none 0 0) 26 39 26
  obtain ⟨w1, ew1⟩ : ∃ w1, w1 = ((w.alloc (.cells #[.int .i64 W, .int .i64 H, .int .i64 D, .bool A, .slice po n c] 26 (0, 0))).alloc (.cells #[.int .i64 bw, .int .i64 bh, .slice so m k] 39 (0, 0))).alloc (.cells #[.int .i64 0, .int .i64 0, .int .i64 0, .bool false, .slice none 0 0] 26 (0, 0)) := ⟨_, rfl⟩
  rw [← ew1] at N
  have HN := Hid.mk N
  have EW := Hid.mk ew1
  clear N ew1
  by_cases hl : lie X Y bw bh (wp W (p : Int)) H = true
  · rw [hl] at CI
    have hd := of_decide_eq_true hl
    have hb1 : 1 ≤ bw * bh := by have := Int.mul_le_mul hd.1 hd.2.1 (by omega) (by omega); omega
    have hb2 : bw * bh ≤ 16777216 := by have := Int.mul_le_mul (show bw ≤ 4096 by omega) (show bh ≤ 4096 by omega) (by omega) (by omega); omega
    have hwm : IntKind.i64.wrap (bw * bh) = bw * bh := wrap_i (by omega) (by omega)
    by_cases hm : (m : Int) = bw * bh
    · have ha : abv bf m (mx D) = true := by
        cases e : abv bf m (mx D)
        · exact absurd ⟨hl, hm, abv_no.1 e⟩ hno
        · rfl
      rw [ha] at CA
      have hne : ((m : Int) != bw * bh) = false := by simpa using hm
      clear hr hv hs hsh hs1 hs2 wl wh hno hl hd ha hm
      go_enter Try.func18, Try.ntmps18
      go_wp2_with (first | (go_at_call 26; rw [← EW.out]; refine (CV.out _ HN.out.2.2.2).mono ?_; rintro e w2 ⟨rfl, hk2⟩; obtain ⟨⟨c0, c1, c2, c3, c4⟩, _⟩ := five (hk2.heap HN.out.1 (by simp)); obtain ⟨⟨r0, r1, r2⟩, _⟩ := tri' (hk2.heap HN.out.2.1 (by simp))) | (go_at_call 43; refine (CI.out _).mono ?_; rintro e w3 ⟨rfl, hk3⟩; obtain ⟨⟨d0, d1, d2, d3, d4⟩, _⟩ := five ((hk2.trans hk3).heap HN.out.1 (by simp)); obtain ⟨⟨s0, s1, s2⟩, _⟩ := tri' ((hk2.trans hk3).heap HN.out.2.1 (by simp)); have HR := Hid.mk ((hk2.trans hk3).heap HN.out.2.2.1 (by simp)); obtain ⟨⟨z0, z1, z2, z3, z4⟩, f0, f1, f2, f3, f4⟩ := five HR.out; have K3 := Hid.mk (HN.out.2.2.2.trans (hk2.trans hk3))) | (go_at_call 45; refine (CA.out _ K3.out).mono ?_; rintro e w4 ⟨rfl, hw⟩; obtain rfl := hw.symm))
      have s5 := set5 (.int .i64 0) (.int .i64 0) (.int .i64 0) (.bool false) (.slice none 0 0) HR.out
      refine bodyPost_ret (v := .tuple #[frv 0 0 0 false none 0 0, .int .i64 64]) ?_ rfl ⟨64, rfl, rfl, K3.out.step s5.2 (fun x hx => by simp at hx; subst hx; exact .inr (by omega))⟩
      exact results_two rfl _ _ (w.heap.size + 1 + 1) 26 _ (0, 0) _ _ rfl s5.1 Try.underlying26 Try.info38 rfl
    · have hne : ((m : Int) != bw * bh) = true := by simpa using hm
      clear hr hv hs hsh hs1 hs2 wl wh hno hl hd hm
      go_enter Try.func18, Try.ntmps18
      go_wp2_with (first | (go_at_call 26; rw [← EW.out]; refine (CV.out _ HN.out.2.2.2).mono ?_; rintro e w2 ⟨rfl, hk2⟩; obtain ⟨⟨c0, c1, c2, c3, c4⟩, _⟩ := five (hk2.heap HN.out.1 (by simp)); obtain ⟨⟨r0, r1, r2⟩, _⟩ := tri' (hk2.heap HN.out.2.1 (by simp))) | (go_at_call 43; refine (CI.out _).mono ?_; rintro e w3 ⟨rfl, hk3⟩; obtain ⟨⟨d0, d1, d2, d3, d4⟩, _⟩ := five ((hk2.trans hk3).heap HN.out.1 (by simp)); obtain ⟨⟨s0, s1, s2⟩, _⟩ := tri' ((hk2.trans hk3).heap HN.out.2.1 (by simp)); have HR := Hid.mk ((hk2.trans hk3).heap HN.out.2.2.1 (by simp)); obtain ⟨⟨z0, z1, z2, z3, z4⟩, f0, f1, f2, f3, f4⟩ := five HR.out; have K3 := Hid.mk (HN.out.2.2.2.trans (hk2.trans hk3))))
      have s5 := set5 (.int .i64 0) (.int .i64 0) (.int .i64 0) (.bool false) (.slice none 0 0) HR.out
      refine bodyPost_ret (v := .tuple #[frv 0 0 0 false none 0 0, .int .i64 63]) ?_ rfl ⟨63, rfl, rfl, K3.out.step s5.2 (fun x hx => by simp at hx; subst hx; exact .inr (by omega))⟩
      exact results_two rfl _ _ (w.heap.size + 1 + 1) 26 _ (0, 0) _ _ rfl s5.1 Try.underlying26 Try.info38 rfl
  · have hl2 : lie X Y bw bh (wp W (p : Int)) H = false := by simpa using hl
    rw [hl2] at CI
    clear hr hv hs hsh hs1 hs2 wl wh hno hl hl2
    go_enter Try.func18, Try.ntmps18
    go_wp2_with (first | (go_at_call 26; rw [← EW.out]; refine (CV.out _ HN.out.2.2.2).mono ?_; rintro e w2 ⟨rfl, hk2⟩; obtain ⟨⟨c0, c1, c2, c3, c4⟩, _⟩ := five (hk2.heap HN.out.1 (by simp)); obtain ⟨⟨r0, r1, r2⟩, _⟩ := tri' (hk2.heap HN.out.2.1 (by simp))) | (go_at_call 43; refine (CI.out _).mono ?_; rintro e w3 ⟨rfl, hk3⟩; have HR := Hid.mk ((hk2.trans hk3).heap HN.out.2.2.1 (by simp)); obtain ⟨⟨z0, z1, z2, z3, z4⟩, f0, f1, f2, f3, f4⟩ := five HR.out; have K3 := Hid.mk (HN.out.2.2.2.trans (hk2.trans hk3))))
    have s5 := set5 (.int .i64 0) (.int .i64 0) (.int .i64 0) (.bool false) (.slice none 0 0) HR.out
    refine bodyPost_ret (v := .tuple #[frv 0 0 0 false none 0 0, .int .i64 65]) ?_ rfl ⟨65, rfl, rfl, K3.out.step s5.2 (fun x hx => by simp at hx; subst hx; exact .inr (by omega))⟩
    exact results_two rfl _ _ (w.heap.size + 1 + 1) 26 _ (0, 0) _ _ rfl s5.1 Try.underlying26 Try.info38 rfl
end Go.Proofs.Ythihennifigchab
