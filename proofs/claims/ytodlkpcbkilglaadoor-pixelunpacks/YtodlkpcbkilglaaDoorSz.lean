import Derived.Test.YtodlkpcbkilglaaDoorFm
import Derived.Deep.RegionHeldLaw
namespace Go.Proofs.YtodlkpcbkilglaaDoor
open Go.RowKit Go.Shelf

/-- The bytes of the first sets. -/
def sS (W H : Int) (bf : Nat → Nat) (p : Nat → Nat) : Nat → Int
  | 0 => 0
  | k + 1 => sS W H bf p k + H * (bf (wp W (p k)).toNat : Int)
theorem sS_lo {W H : Int} (bf p : Nat → Nat) (h2 : 1 ≤ H) (h3 : H ≤ 4096) (hb : ∀ k, bf (wp W (p k)).toNat ≤ 12000) : ∀ k, 0 ≤ sS W H bf p k ∧ sS W H bf p k ≤ k * 49152000 := by
  intro k
  induction k with
  | zero => simp [sS]
  | succ k ih =>
    have h := hb k
    obtain ⟨y, ey⟩ : ∃ y, y = bf (wp W (p k)).toNat := ⟨_, rfl⟩
    have e1 : H * (y : Int) ≤ 4096 * 12000 := Int.mul_le_mul h3 (by omega) (by omega) (by omega)
    have e0 : 0 ≤ H * (y : Int) := Int.mul_nonneg (by omega) (by omega)
    rw [sS, ← ey]
    constructor
    · omega
    · push_cast
      omega
theorem wp_nat {W : Int} (h0 : 1 ≤ W) (h1 : W ≤ 4096) (p : Int) : ∃ x : Nat, wp W p = (x : Int) ∧ x ≤ 4096 := by
  have : 0 ≤ wp W p ∧ wp W p ≤ 4096 := by unfold wp hf; split <;> omega
  exact ⟨(wp W p).toNat, by omega, by omega⟩
theorem szE_ok {W H D p : Int} {A : Bool} (h : shE W H D A = 0) (h0 : 0 ≤ p) (h1 : p < (np A : Int)) : szE W H D p A = 0 := by
  unfold szE
  rw [if_pos h, if_pos ⟨h0, h1⟩]

set_option maxHeartbeats 8000000 in
set_option maxRecDepth 1000000 in
theorem sizeV (W H D : Int) (A : Bool) (w : World) :
    Calls Tryd.prog 36 #[fmv 66 67 68 69 70, shv W H D A] w fun e w' => e = .returned (.tuple #[.int .i64 (if shE W H D A = 0 ∧ (decide (D = 10) && !A) = true then sS W H (fun x => (x + 47) / 48 * 128) (fun _ => 0) 1 else 0), .int .i64 (if shE W H D A = 0 then (if (decide (D = 10) && !A) = true then 0 else 71) else 61)]) ∧ Kept [] w w' := by
  have C := Hid.mk (fun u => shaped_any W H D A u)
  have CH := Hid.mk (fun u => has66 W H D A u)
  have CS := Hid.mk (fun u => sets67 W H D A u)
  have F0 := five (heap_alloc_new w (.cells #[fnv 66, fnv 67, fnv 68, fnv 69, fnv 70] 65))
  have k1 := alloc_kept w (.cells #[fnv 66, fnv 67, fnv 68, fnv 69, fnv 70] 65)
  have k2 := alloc_kept (w.alloc (.cells #[fnv 66, fnv 67, fnv 68, fnv 69, fnv 70] 65)) (.cells #[.int .i64 W, .int .i64 H, .int .i64 D, .bool A] 24)
  have hB := k2.heap (heap_alloc_new w (.cells #[fnv 66, fnv 67, fnv 68, fnv 69, fnv 70] 65)) (by simp)
  have hS := Sat.new (w.alloc (.cells #[fnv 66, fnv 67, fnv 68, fnv 69, fnv 70] 65)) W H D A 24
  rw [World.size_alloc] at hS
  obtain ⟨wa, ewa⟩ : ∃ wa, wa = (w.alloc (.cells #[fnv 66, fnv 67, fnv 68, fnv 69, fnv 70] 65)).alloc (.cells #[.int .i64 W, .int .i64 H, .int .i64 D, .bool A] 24) := ⟨_, rfl⟩
  have hk0 := k1.trans k2
  rw [← ewa] at hB hS hk0
  have HW := Hid.mk ewa
  have HB := Hid.mk hB
  have HS := Hid.mk hS
  have HK := Hid.mk hk0
  clear ewa hB hS hk0 F0 k1 k2
  rcases shE_two W H D A with ⟨e1, h1⟩ | ⟨e1, h1⟩
  · have SZ := Hid.mk (fun u p (q0 : 0 ≤ p) (q1 : p < (np A : Int)) => (size_any W H D p A u).mono (R' := fun e w' => e = .returned (.tuple #[.int .i64 (wp W p), .int .i64 H, .int .i64 0]) ∧ Kept [] u w') (by
      rintro e w' ⟨rfl, hk⟩
      have hz := szE_ok e1 q0 q1
      rw [if_pos hz, if_pos hz, hz]
      exact ⟨rfl, hk⟩))
    rw [e1] at C ⊢
    cases hh : (decide (D = 10) && !A)
    · rw [hh] at CH
      go_enter Tryd.func36, Tryd.ntmps36
      go_wp2_with (first | (go_at_call 63; refine (C.out _).mono ?_; rintro e w1 ⟨rfl, hk1⟩; rw [← HW.out] at hk1; obtain ⟨q0, q1, q2, q3⟩ := HS.out.keep hk1 (by simp); obtain ⟨⟨z0, z1, z2, z3, z4⟩, f0, f1, f2, f3, f4⟩ := five (hk1.heap HB.out (by simp)); have K1 := Hid.mk (HK.out.trans hk1)) | (go_at_call 66; refine (CH.out _).mono ?_; rintro e w2 ⟨rfl, hk2⟩))
      go_ret2
      exact ⟨by simp, K1.out.trans hk2⟩
    · rw [hh] at CH
      obtain ⟨n, en⟩ : ∃ n : Nat, n = 1 := ⟨_, rfl⟩
      have hn : n ≤ 4 := by rw [en]; first | decide | (cases A <;> decide)
      have HP := Hid.mk (show ∀ k : Nat, k < n → (((fun _ => 0) k : Nat) : Int) < (np A : Int) by
        intro k hk
        rw [en] at hk
        first | (show ((k : Nat) : Int) < _; omega) | (cases A <;> simp [np]))
      have HL := Hid.mk (sS_lo (W := W) (H := H) (fun x => (x + 47) / 48 * 128) (fun _ => 0) h1.2.1.1 h1.2.1.2 (fun k => by
        obtain ⟨x, ex, hx⟩ := wp_nat h1.1.1 h1.1.2 (((fun _ => 0) k : Nat) : Int)
        rw [ex, Int.toNat_natCast]
        show _ ≤ 12000
        omega))
      have HX := Hid.mk (fun p => wp_nat h1.1.1 h1.1.2 p)
      have hH := h1.2.1
      rw [← en] at CS ⊢
      clear e1 h1 hh en
      go_enter Tryd.func36, Tryd.ntmps36
      go_wp2_with (first | (go_at_call 63; refine (C.out _).mono ?_; rintro e w1 ⟨rfl, hk1⟩; rw [← HW.out] at hk1; obtain ⟨q0, q1, q2, q3⟩ := HS.out.keep hk1 (by simp); obtain ⟨⟨z0, z1, z2, z3, z4⟩, f0, f1, f2, f3, f4⟩ := five (hk1.heap HB.out (by simp)); have K1 := Hid.mk (HK.out.trans hk1)) | (go_at_call 66; refine (CH.out _).mono ?_; rintro e w2 ⟨rfl, hk2⟩; obtain ⟨q0, q1, q2, q3⟩ := HS.out.keep (hk1.trans hk2) (by simp); obtain ⟨⟨z0, z1, z2, z3, z4⟩, f0, f1, f2, f3, f4⟩ := five ((hk1.trans hk2).heap HB.out (by simp))) | (go_at_call 67; refine (CS.out _).mono ?_; rintro e w3 ⟨G, cG, rfl, hNs, hk3⟩))
      have k03 := (hk1.trans hk2).trans hk3
      have HS3 := Hid.mk (HS.out.keep k03 (by simp))
      have HB3 := Hid.mk (k03.heap HB.out (by simp))
      have HK3 := Hid.mk (HK.out.trans k03)
      have HN := Hid.mk hNs
      obtain ⟨b, eb⟩ : ∃ b, b = w.heap.size := ⟨_, rfl⟩
      rw [← eb] at HS3 HB3 ⊢
      clear hk1 hk2 hk3 k03 hNs eb q0 q1 q2 q3 z0 z1 z2 z3 z4 f0 f1 f2 f3 f4 HW HS HB HK K1 C CH CS
      go_loopw [7, 28] (fun s i wr => ∃ k : Nat, k ≤ n ∧ i = .int .i64 (k : Int) ∧ s = .int .i64 (sS W H (fun x => (x + 47) / 48 * 128) (fun _ => 0) k) ∧ Kept [] w3 wr) (fun _ i _ => n - (intOf i).toNat)
      case atStart => exact ⟨0, by omega, rfl, rfl, Kept.refl _ _⟩
      case round =>
        obtain ⟨k, hk, rfl, rfl, hkr⟩ := hrel
        have Hkr := Hid.mk hkr
        by_cases hlt : k < n
        · have QS := Hid.mk (HS3.out.keep hkr (by simp))
          have QB := Hid.mk (hkr.heap HB3.out (by simp))
          obtain ⟨q0, q1, q2, q3⟩ := QS.out
          obtain ⟨sb, sc, hs1, hs2⟩ := HN.out.keep hkr k hlt
          have hs3 := hs2 0 (show 0 < 3 by decide)
          have HS4 := Hid.mk hs3
          obtain ⟨x, ex, hx⟩ := HX.out (((fun _ => 0) k : Nat) : Int)
          have D2 := Hid.mk (fun u => SZ.out u (((fun _ => 0) k : Nat) : Int) (by omega) (HP.out k hlt))
          have ES := Hid.mk (show sS W H (fun x => (x + 47) / 48 * 128) (fun _ => 0) (k + 1) = sS W H (fun x => (x + 47) / 48 * 128) (fun _ => 0) k + H * ((fun x => (x + 47) / 48 * 128) x : Nat) by rw [sS, ex, Int.toNat_natCast])
          rw [ex] at D2
          have C6 := Hid.mk (fun u => byt68 x u hx)
          have b2 := HL.out k
          obtain ⟨sv, esv⟩ : ∃ sv, sv = sS W H (fun x => (x + 47) / 48 * 128) (fun _ => 0) k := ⟨_, rfl⟩
          rw [← esv] at b2 ES ⊢
          obtain ⟨y, ey⟩ : ∃ y : Nat, y = (fun x => (x + 47) / 48 * 128) x := ⟨_, rfl⟩
          have hy : y ≤ 12000 := by rw [ey]; show (x + 47) / 48 * 128 ≤ 12000; omega
          rw [← ey] at ES
          have C7 := Hid.mk (show ∀ u, Calls Tryd.prog 68 #[.int .i64 (x : Int)] u fun e w' => e = .returned (.int .i64 (y : Int)) ∧ w' = u by rw [ey]; exact C6.out)
          have e1 : H * (y : Int) ≤ 4096 * 12000 := Int.mul_le_mul hH.2 (by omega) (by omega) (by omega)
          have e0 : 0 ≤ H * (y : Int) := Int.mul_nonneg (by omega) (by omega)
          have hwr : IntKind.i64.wrap (H * (y : Int)) = H * (y : Int) := wrap_i (by omega) (by omega)
          have hwr2 : IntKind.i64.wrap (sv + H * (y : Int)) = sv + H * (y : Int) := wrap_i (by omega) (by omega)
          clear esv ey ex hs2 hkr C6 SZ HL HP HX
          go_upto_region 10 with (fail)
          go_cut [10, 11] (fun s t wd => s = .int .i64 (x : Int) ∧ t = .int .i64 H ∧ Kept [] wr wd)
          case first =>
            go_region_held_law (fun w' => w'.cell? ⟨b + 1, 0, none⟩ = some (.int .i64 W) ∧ w'.cell? ⟨b + 1, 1, none⟩ = some (.int .i64 H) ∧ w'.cell? ⟨b + 1, 2, none⟩ = some (.int .i64 D) ∧ w'.cell? ⟨b + 1, 3, none⟩ = some (.bool A) ∧ w'.cell? ⟨sb, 0, none⟩ = some (.int .i64 (((fun _ => 0) k : Nat) : Int))) (first | exact ⟨q0, q1, q2, q3, hs3⟩ | exact ⟨z0, z1, z2, z3, z5⟩ | go_keep) (first | (go_at_call 64; refine (D2.out _).mono ?_; rintro e w4 ⟨rfl, hk4⟩; obtain ⟨z0, z1, z2, z3⟩ := QS.out.keep hk4.undrew (by simp); have z5 := cell_keep hk4.undrew HS4.out (by simp)))
            all_goals go_wp2
            all_goals go_meet
            all_goals exact ⟨rfl, rfl, hk4.undrew⟩
          case rest =>
            obtain ⟨rfl, rfl, hkd⟩ := hcut
            obtain ⟨⟨z0, z1, z2, z3, z4⟩, f0, f1, f2, f3, f4⟩ := five (hkd.heap QB.out (by simp))
            have Kd := Hid.mk (Hkr.out.trans hkd)
            clear hkd
            go_wp2_with (go_at_call 68; refine (C7.out _).mono ?_; rintro e w5 ⟨rfl, hw⟩; obtain rfl := hw.symm)
            exact ⟨⟨k + 1, by omega, by go_num, by rw [ES.out], Kd.out⟩, by simp [intOf]; omega⟩
        · obtain rfl : n = k := by omega
          go_wp2
          go_ret2
          exact ⟨by simp, HK3.out.trans Hkr.out⟩
  · rw [e1] at C ⊢
    clear h1
    go_enter Tryd.func36, Tryd.ntmps36
    go_wp2_with (first | (go_at_call 63; refine (C.out _).mono ?_; rintro e w1 ⟨rfl, hk1⟩; rw [← HW.out] at hk1; have K1 := Hid.mk (HK.out.trans hk1)))
    go_ret2
    exact ⟨by simp, K1.out⟩

set_option maxHeartbeats 8000000 in
set_option maxRecDepth 1000000 in
theorem sizeP (W H D : Int) (A : Bool) (w : World) :
    Calls Tryd.prog 36 #[fmv 58 59 60 61 62, shv W H D A] w fun e w' => e = .returned (.tuple #[.int .i64 (if shE W H D A = 0 ∧ true = true then sS W H (fun x => 2 * x) (fun i => i) (np A) else 0), .int .i64 (if shE W H D A = 0 then (if true = true then 0 else 71) else 61)]) ∧ Kept [] w w' := by
  have C := Hid.mk (fun u => shaped_any W H D A u)
  have CH := Hid.mk (fun u => has58 W H D A u)
  have CS := Hid.mk (fun u => sets59 W H D A u)
  have F0 := five (heap_alloc_new w (.cells #[fnv 58, fnv 59, fnv 60, fnv 61, fnv 62] 65))
  have k1 := alloc_kept w (.cells #[fnv 58, fnv 59, fnv 60, fnv 61, fnv 62] 65)
  have k2 := alloc_kept (w.alloc (.cells #[fnv 58, fnv 59, fnv 60, fnv 61, fnv 62] 65)) (.cells #[.int .i64 W, .int .i64 H, .int .i64 D, .bool A] 24)
  have hB := k2.heap (heap_alloc_new w (.cells #[fnv 58, fnv 59, fnv 60, fnv 61, fnv 62] 65)) (by simp)
  have hS := Sat.new (w.alloc (.cells #[fnv 58, fnv 59, fnv 60, fnv 61, fnv 62] 65)) W H D A 24
  rw [World.size_alloc] at hS
  obtain ⟨wa, ewa⟩ : ∃ wa, wa = (w.alloc (.cells #[fnv 58, fnv 59, fnv 60, fnv 61, fnv 62] 65)).alloc (.cells #[.int .i64 W, .int .i64 H, .int .i64 D, .bool A] 24) := ⟨_, rfl⟩
  have hk0 := k1.trans k2
  rw [← ewa] at hB hS hk0
  have HW := Hid.mk ewa
  have HB := Hid.mk hB
  have HS := Hid.mk hS
  have HK := Hid.mk hk0
  clear ewa hB hS hk0 F0 k1 k2
  rcases shE_two W H D A with ⟨e1, h1⟩ | ⟨e1, h1⟩
  · have SZ := Hid.mk (fun u p (q0 : 0 ≤ p) (q1 : p < (np A : Int)) => (size_any W H D p A u).mono (R' := fun e w' => e = .returned (.tuple #[.int .i64 (wp W p), .int .i64 H, .int .i64 0]) ∧ Kept [] u w') (by
      rintro e w' ⟨rfl, hk⟩
      have hz := szE_ok e1 q0 q1
      rw [if_pos hz, if_pos hz, hz]
      exact ⟨rfl, hk⟩))
    rw [e1] at C ⊢
    cases hh : true
    · exact absurd hh (by decide)
    · rw [hh] at CH
      obtain ⟨n, en⟩ : ∃ n : Nat, n = (np A) := ⟨_, rfl⟩
      have hn : n ≤ 4 := by rw [en]; first | decide | (cases A <;> decide)
      have HP := Hid.mk (show ∀ k : Nat, k < n → (((fun i => i) k : Nat) : Int) < (np A : Int) by
        intro k hk
        rw [en] at hk
        first | (show ((k : Nat) : Int) < _; omega) | (cases A <;> simp [np]))
      have HL := Hid.mk (sS_lo (W := W) (H := H) (fun x => 2 * x) (fun i => i) h1.2.1.1 h1.2.1.2 (fun k => by
        obtain ⟨x, ex, hx⟩ := wp_nat h1.1.1 h1.1.2 (((fun i => i) k : Nat) : Int)
        rw [ex, Int.toNat_natCast]
        show _ ≤ 12000
        omega))
      have HX := Hid.mk (fun p => wp_nat h1.1.1 h1.1.2 p)
      have hH := h1.2.1
      rw [← en] at CS ⊢
      clear e1 h1 hh en
      go_enter Tryd.func36, Tryd.ntmps36
      go_wp2_with (first | (go_at_call 63; refine (C.out _).mono ?_; rintro e w1 ⟨rfl, hk1⟩; rw [← HW.out] at hk1; obtain ⟨q0, q1, q2, q3⟩ := HS.out.keep hk1 (by simp); obtain ⟨⟨z0, z1, z2, z3, z4⟩, f0, f1, f2, f3, f4⟩ := five (hk1.heap HB.out (by simp)); have K1 := Hid.mk (HK.out.trans hk1)) | (go_at_call 58; refine (CH.out _).mono ?_; rintro e w2 ⟨rfl, hk2⟩; obtain ⟨q0, q1, q2, q3⟩ := HS.out.keep (hk1.trans hk2) (by simp); obtain ⟨⟨z0, z1, z2, z3, z4⟩, f0, f1, f2, f3, f4⟩ := five ((hk1.trans hk2).heap HB.out (by simp))) | (go_at_call 59; refine (CS.out _).mono ?_; rintro e w3 ⟨G, cG, rfl, hNs, hk3⟩))
      have k03 := (hk1.trans hk2).trans hk3
      have HS3 := Hid.mk (HS.out.keep k03 (by simp))
      have HB3 := Hid.mk (k03.heap HB.out (by simp))
      have HK3 := Hid.mk (HK.out.trans k03)
      have HN := Hid.mk hNs
      obtain ⟨b, eb⟩ : ∃ b, b = w.heap.size := ⟨_, rfl⟩
      rw [← eb] at HS3 HB3 ⊢
      clear hk1 hk2 hk3 k03 hNs eb q0 q1 q2 q3 z0 z1 z2 z3 z4 f0 f1 f2 f3 f4 HW HS HB HK K1 C CH CS
      go_loopw [7, 28] (fun s i wr => ∃ k : Nat, k ≤ n ∧ i = .int .i64 (k : Int) ∧ s = .int .i64 (sS W H (fun x => 2 * x) (fun i => i) k) ∧ Kept [] w3 wr) (fun _ i _ => n - (intOf i).toNat)
      case atStart => exact ⟨0, by omega, rfl, rfl, Kept.refl _ _⟩
      case round =>
        obtain ⟨k, hk, rfl, rfl, hkr⟩ := hrel
        have Hkr := Hid.mk hkr
        by_cases hlt : k < n
        · have QS := Hid.mk (HS3.out.keep hkr (by simp))
          have QB := Hid.mk (hkr.heap HB3.out (by simp))
          obtain ⟨q0, q1, q2, q3⟩ := QS.out
          obtain ⟨sb, sc, hs1, hs2⟩ := HN.out.keep hkr k hlt
          have hs3 := hs2 0 (show 0 < 1 by decide)
          have HS4 := Hid.mk hs3
          obtain ⟨x, ex, hx⟩ := HX.out (((fun i => i) k : Nat) : Int)
          have D2 := Hid.mk (fun u => SZ.out u (((fun i => i) k : Nat) : Int) (by omega) (HP.out k hlt))
          have ES := Hid.mk (show sS W H (fun x => 2 * x) (fun i => i) (k + 1) = sS W H (fun x => 2 * x) (fun i => i) k + H * ((fun x => 2 * x) x : Nat) by rw [sS, ex, Int.toNat_natCast])
          rw [ex] at D2
          have C6 := Hid.mk (fun u => byt60 x u hx)
          have b2 := HL.out k
          obtain ⟨sv, esv⟩ : ∃ sv, sv = sS W H (fun x => 2 * x) (fun i => i) k := ⟨_, rfl⟩
          rw [← esv] at b2 ES ⊢
          obtain ⟨y, ey⟩ : ∃ y : Nat, y = (fun x => 2 * x) x := ⟨_, rfl⟩
          have hy : y ≤ 12000 := by rw [ey]; show 2 * x ≤ 12000; omega
          rw [← ey] at ES
          have C7 := Hid.mk (show ∀ u, Calls Tryd.prog 60 #[.int .i64 (x : Int)] u fun e w' => e = .returned (.int .i64 (y : Int)) ∧ w' = u by rw [ey]; exact C6.out)
          have e1 : H * (y : Int) ≤ 4096 * 12000 := Int.mul_le_mul hH.2 (by omega) (by omega) (by omega)
          have e0 : 0 ≤ H * (y : Int) := Int.mul_nonneg (by omega) (by omega)
          have hwr : IntKind.i64.wrap (H * (y : Int)) = H * (y : Int) := wrap_i (by omega) (by omega)
          have hwr2 : IntKind.i64.wrap (sv + H * (y : Int)) = sv + H * (y : Int) := wrap_i (by omega) (by omega)
          clear esv ey ex hs2 hkr C6 SZ HL HP HX
          go_upto_region 10 with (fail)
          go_cut [10, 11] (fun s t wd => s = .int .i64 (x : Int) ∧ t = .int .i64 H ∧ Kept [] wr wd)
          case first =>
            go_region_held_law (fun w' => w'.cell? ⟨b + 1, 0, none⟩ = some (.int .i64 W) ∧ w'.cell? ⟨b + 1, 1, none⟩ = some (.int .i64 H) ∧ w'.cell? ⟨b + 1, 2, none⟩ = some (.int .i64 D) ∧ w'.cell? ⟨b + 1, 3, none⟩ = some (.bool A) ∧ w'.cell? ⟨sb, 0, none⟩ = some (.int .i64 (((fun i => i) k : Nat) : Int))) (first | exact ⟨q0, q1, q2, q3, hs3⟩ | exact ⟨z0, z1, z2, z3, z5⟩ | go_keep) (first | (go_at_call 64; refine (D2.out _).mono ?_; rintro e w4 ⟨rfl, hk4⟩; obtain ⟨z0, z1, z2, z3⟩ := QS.out.keep hk4.undrew (by simp); have z5 := cell_keep hk4.undrew HS4.out (by simp)))
            all_goals go_wp2
            all_goals go_meet
            all_goals exact ⟨rfl, rfl, hk4.undrew⟩
          case rest =>
            obtain ⟨rfl, rfl, hkd⟩ := hcut
            obtain ⟨⟨z0, z1, z2, z3, z4⟩, f0, f1, f2, f3, f4⟩ := five (hkd.heap QB.out (by simp))
            have Kd := Hid.mk (Hkr.out.trans hkd)
            clear hkd
            go_wp2_with (go_at_call 60; refine (C7.out _).mono ?_; rintro e w5 ⟨rfl, hw⟩; obtain rfl := hw.symm)
            exact ⟨⟨k + 1, by omega, by go_num, by rw [ES.out], Kd.out⟩, by simp [intOf]; omega⟩
        · obtain rfl : n = k := by omega
          go_wp2
          go_ret2
          exact ⟨by simp, HK3.out.trans Hkr.out⟩
  · rw [e1] at C ⊢
    clear h1
    go_enter Tryd.func36, Tryd.ntmps36
    go_wp2_with (first | (go_at_call 63; refine (C.out _).mono ?_; rintro e w1 ⟨rfl, hk1⟩; rw [← HW.out] at hk1; have K1 := Hid.mk (HK.out.trans hk1)))
    go_ret2
    exact ⟨by simp, K1.out⟩
end Go.Proofs.YtodlkpcbkilglaaDoor
