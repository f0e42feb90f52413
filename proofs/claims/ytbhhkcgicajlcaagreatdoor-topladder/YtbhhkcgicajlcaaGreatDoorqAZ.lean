import Derived.Test.YtbhhkcgicajlcaaGreatDoorpZ
import Derived.ChangeKeysEq
namespace Go.Proofs.YtbhhkcgicajlcaaGreatDoor.Pc
open Go.RowKit

/-- The greatest of numbers. -/
def gmx (f : Nat → Int) : Nat → Int
  | 0 => 0
  | n + 1 => if gmx f n < f n then f n else gmx f n
theorem gmx_in {f : Nat → Int} {M : Int} {n : Nat} (h0 : 0 ≤ M) (h : ∀ i, i < n → f i ≤ M) : 0 ≤ gmx f n ∧ gmx f n ≤ M := by
  induction n with
  | zero => exact ⟨Int.le_refl _, h0⟩
  | succ n ih =>
    have h1 := ih (fun i hi => h i (by omega))
    have h2 := h n (by omega)
    unfold gmx
    split <;> omega
theorem gmx_ge {f : Nat → Int} {n i : Nat} (hi : i < n) : f i ≤ gmx f n := by
  induction n with
  | zero => omega
  | succ n ih =>
    unfold gmx
    by_cases e : i = n
    · subst e
      split <;> omega
    · have := ih (by omega)
      split <;> omega
theorem sI_bd {f : Nat → Int} {M : Int} {n : Nat} (h : ∀ i, i < n → 0 ≤ f i ∧ f i ≤ M) : 0 ≤ sI f n ∧ sI f n ≤ (n : Int) * M := by
  refine ⟨sI_nn (fun i hi => (h i hi).1), ?_⟩
  rw [← sI_const]
  exact sI_le (fun i hi => (h i hi).2)
/-- What a record has at most. -/
def bnd (W H D sw sh : Int) (A : Bool) (p : Int) : Int :=
  36 + 8 * (Tl.cl W sw * Tl.cl H sh) + 4 * p + sI (fun k => pzs W H D sw sh (Tl.cl W sw) (Tl.np A) k) (Tl.cl W sw * Tl.cl H sh).toNat + p * gmx (fun k => pzs W H D sw sh (Tl.cl W sw) (Tl.np A) k) (Tl.cl W sw * Tl.cl H sh).toNat
theorem pz_bd {D w h : Int} (hD : D = 10 ∨ D = 12) (w0 : 1 ≤ w) (w1 : w ≤ 4096) (h0 : 1 ≤ h) (h1 : h ≤ 4096) : (0 ≤ w * h ∧ w * h ≤ 16777216) ∧ (0 ≤ w * h * D ∧ w * h * D ≤ 201326592) ∧ (w * h * D + 8 - 1) / 8 + 4 = pz D w h ∧ 0 ≤ pz D w h ∧ pz D w h ≤ 25165830 := by
  have a0 : 0 ≤ w * h := Int.mul_nonneg (by omega) (by omega)
  have a1 : w * h ≤ 4096 * 4096 := Int.mul_le_mul w1 h1 (by omega) (by omega)
  unfold pz
  rw [show D * w * h = w * h * D by rw [Int.mul_assoc, Int.mul_comm]]
  generalize w * h = z at *
  rcases hD with rfl | rfl <;> omega
theorem wk {x : Int} (h : -9000000000000000000 ≤ x ∧ x ≤ 9000000000000000000) : wrap64 x = x ∧ IntKind.i64.wrap x = x := ⟨Tl.w64_in (by omega) (by omega), Tl.wrap_i (by omega) (by omega)⟩
theorem wk2 {x z : Int} (e : x = z) (h : -9000000000000000000 ≤ z ∧ z ≤ 9000000000000000000) : wrap64 x = z ∧ IntKind.i64.wrap x = z := by subst e; exact wk h

set_option maxHeartbeats 8000000 in
set_option maxRecDepth 1000000 in
theorem rBound_ok (W H D : Int) (A : Bool) (sw sh : Int) (lo : Option Addr) (n c : Nat) (L : Nat → Nat → Int) (cap p : Int) (w : World) (hL : Ldr w lo n L) (hn : n ≤ 9223372036854775807) (hcf : Cfg W H D A sw sh n L cap p) :
    Calls Tryz.prog 7 #[Tl.shv W H D A, cfv sw sh lo n c cap p] w fun e w' => e = .returned (.tuple #[.int .i64 (bnd W H D sw sh A p), .int .i64 0]) ∧ Kept [] w w' := by
  obtain ⟨w1, e1⟩ : ∃ w1, w.alloc (.cells #[.int .i64 W, .int .i64 H, .int .i64 D, .bool A] 23 (0, 0)) = w1 := ⟨_, rfl⟩
  obtain ⟨w2, e2⟩ : ∃ w2, w1.alloc (.cells #[.int .i64 sw, .int .i64 sh, .slice lo n c, .int .i64 cap, .int .i64 p] 29 (0, 0)) = w2 := ⟨_, rfl⟩
  obtain ⟨B, eB⟩ : ∃ B, w.heap.size = B := ⟨_, rfl⟩
  have z1 : w1.heap.size = B + 1 := by rw [← e1, ← eB]; exact Array.size_push _
  have k1 : Kept [] w w1 := by rw [← e1]; exact (Kept.refl [] w).alloc _
  have k2 : Kept [] w1 w2 := by rw [← e2]; exact (Kept.refl [] w1).alloc _
  have HS := Hid.mk (k2.heap (show w1.heap[B]? = some (.cells #[.int .i64 W, .int .i64 H, .int .i64 D, .bool A] 23 (0, 0)) by rw [← e1, ← eB]; exact heap_alloc_new _ _) (by simp))
  have HC := Hid.mk (show w2.heap[B + 1]? = some (.cells #[.int .i64 sw, .int .i64 sh, .slice lo n c, .int .i64 cap, .int .i64 p] 29 (0, 0)) by rw [← e2, ← z1]; exact heap_alloc_new _ _)
  have K2 := Hid.mk (k1.trans k2)
  have hp : 0 ≤ p ∧ p ≤ 16 := by have h9 := hcf.pr; unfold pmb at h9; exact (of_decide_eq_true h9).1
  have g := Tl.Gd.of hcf.shp.1.1 hcf.shp.1.2 hcf.shp.2.1.1 hcf.shp.2.1.2 hcf.sd.1.1 hcf.sd.1.2 hcf.sd.2.1 hcf.sd.2.2.1 hcf.sd.2.2.2
  have C1 := Hid.mk (fun u (hu : Ldr u lo n L) => rValid_any W H D A sw sh lo n c L cap p u hu hn)
  rw [cfE_zero.2 hcf] at C1
  have C2 := Hid.mk (fun u => rCount_any W H D sw sh A u hcf.shp hcf.sd)
  have C3 := Hid.mk (fun u => rplanes_any W H D A u)
  have HLd := Hid.mk (hL.keep K2.out)
  unfold bnd
  have hcr : Tl.cl W sw * Tl.cl H sh ≤ 65536 := Int.mul_le_mul (a := Tl.cl W sw) (b := Tl.cl H sh) (c := 256) (d := 256) g.c1 g.r1 (by have := g.r0; omega) (by omega)
  have hcr0 : 0 ≤ Tl.cl W sw * Tl.cl H sh := Int.mul_nonneg (by have := g.c0; omega) (by have := g.r0; omega)
  obtain ⟨N, eN⟩ : ∃ N : Nat, Tl.cl W sw * Tl.cl H sh = (N : Int) := ⟨_, (Int.toNat_of_nonneg hcr0).symm⟩
  have hN : N ≤ 65536 := by omega
  have hD : D = 10 ∨ D = 12 := hcf.shp.2.2.1
  have C4 := Hid.mk (fun (k q : Nat) (hk : k < N) (hq : q < Tl.np A) u => rsize_any W H D sw sh (Tl.cl W sw) (Tl.cl H sh) A (k : Int) (q : Int) u hcf.shp g rfl (by omega) (by rw [eN]; omega) (by omega) (by omega))
  have PB := Hid.mk (fun (k q : Nat) (hk : k < N) => pz_bd hD (pw_in g (q : Int) (k : Int)).1 (pw_in g (q : Int) (k : Int)).2 (ph_in g (by omega : (0 : Int) ≤ k) (by rw [eN]; omega)).1 (ph_in g (by omega : (0 : Int) ≤ k) (by rw [eN]; omega)).2)
  have PS : Hid (∀ k, k < N → 0 ≤ pzs W H D sw sh (Tl.cl W sw) (Tl.np A) k ∧ pzs W H D sw sh (Tl.cl W sw) (Tl.np A) k ≤ 200000000) := Hid.mk (fun k hk => by
    have h9 := sI_bd (f := fun q => pz D (pw W sw (Tl.cl W sw) (q : Int) (k : Int)) (ph H sh (Tl.cl W sw) (k : Int))) (n := Tl.np A) (M := 25165830) (fun q _ => (PB.out k q hk).2.2.2)
    have h8 := Tl.np_hi A
    unfold pzs
    omega)
  rw [eN, Int.toNat_natCast]
  rw [eN] at C2
  have C5 := Hid.mk (fun (x : Int) (h0 : 0 ≤ x) (h1 : x ≤ 201326592) u => up_any x 8 u h0 (by omega) (by omega) (by omega))
  have HM := Hid.mk (Tl.np_hi A)
  obtain ⟨m, em⟩ : ∃ m, Tl.np A = m := ⟨_, rfl⟩
  rw [em] at C3 C4 PS HM ⊢
  have GF : Hid (∀ k, pzs W H D sw sh (Tl.cl W sw) m k = sI (fun q => pz D (pw W sw (Tl.cl W sw) (q : Int) (k : Int)) (ph H sh (Tl.cl W sw) (k : Int))) m) := Hid.mk (fun k => rfl)
  obtain ⟨f, ef⟩ : ∃ f : Nat → Int, (fun k => pzs W H D sw sh (Tl.cl W sw) m k) = f := ⟨_, rfl⟩
  have GE : Hid (∀ k, pzs W H D sw sh (Tl.cl W sw) m k = f k) := Hid.mk (fun k => congrFun ef k)
  rw [ef]
  obtain ⟨G, eG⟩ : ∃ G : Nat → Nat → Int, (fun (k q : Nat) => pz D (pw W sw (Tl.cl W sw) (q : Int) (k : Int)) (ph H sh (Tl.cl W sw) (k : Int))) = G := ⟨_, rfl⟩
  have GG : Hid (∀ (k q : Nat), pz D (pw W sw (Tl.cl W sw) (q : Int) (k : Int)) (ph H sh (Tl.cl W sw) (k : Int)) = G k q) := Hid.mk (fun k q => congrFun (congrFun eG k) q)
  have FG : Hid (∀ k, f k = sI (G k) m) := Hid.mk (fun k => by rw [← GE.out k, GF.out k]; exact sI_congr (fun q _ => GG.out k q))
  have FB : Hid (∀ k, k < N → 0 ≤ f k ∧ f k ≤ 200000000) := Hid.mk (fun k hk => by rw [← GE.out k]; exact PS.out k hk)
  obtain ⟨S0, eS0⟩ : ∃ S0, 36 + 8 * (N : Int) + 4 * p = S0 := ⟨_, rfl⟩
  rw [eS0]
  have HB0 : Hid (0 ≤ S0 ∧ S0 ≤ 1000000) := Hid.mk (by omega)
  have HN := Hid.mk hN
  have HP := Hid.mk hp
  have y1 := wk (x := 8 * (N : Int)) (by omega)
  have y2 := wk (x := 36 + 8 * (N : Int)) (by omega)
  have y3 := wk (x := 4 * p) (by omega)
  have y4 := wk2 eS0 (by have := HB0.out; omega)
  obtain ⟨q0, q1, q2, q3, q4⟩ := cel5 HC.out
  obtain ⟨s0, s1, s2, s3⟩ := cel4 HS.out
  obtain ⟨y1a, y1b⟩ := y1
  obtain ⟨y2a, y2b⟩ := y2
  obtain ⟨y3a, y3b⟩ := y3
  obtain ⟨y4a, y4b⟩ := y4
  have ES0 := Hid.mk eS0
  clear hL k1 k2 hn hcf g hcr hcr0 eN hN hD em ef eG hp PS GF GE eS0
  go_enter Tryz.func7, Tryz.ntmps7
  go_wp2_with (fail)
  clear e1 e2 eB z1
  refine (C1.out _ HLd.out).mono ?_
  rintro e w3 ⟨rfl, k3⟩
  have K3 := Hid.mk k3
  clear q0 q1 q2 q3 q4 s0 s1 s2 s3 k3
  obtain ⟨q0, q1, q2, q3, q4⟩ := cel5 (K3.out.heap HC.out (by simp))
  obtain ⟨s0, s1, s2, s3⟩ := cel4 (K3.out.heap HS.out (by simp))
  go_wp2_with (fail)
  refine (C2.out _).mono ?_
  rintro e w4 ⟨rfl, k4⟩
  have K4 := Hid.mk (K3.out.trans k4)
  clear q0 q1 q2 q3 q4 s0 s1 s2 s3 k4
  obtain ⟨q0, q1, q2, q3, q4⟩ := cel5 (K4.out.heap HC.out (by simp))
  go_wp2
  clear q0 q1 q2 q3 q4 y1a y1b y2a y2b y3a y3b y4a y4b
  go_loopw [8, 9, 10] (fun a b i wr => ∃ (k : Nat) (S M : Int), k ≤ N ∧ i = .int .i64 (k : Int) ∧ a = .int .i64 S ∧ b = .int .i64 M ∧ Hid (S = S0 + sI f k ∧ M = gmx f k ∧ Kept [] w4 wr)) (fun _ _ i _ => N - (intOf i).toNat)
  case atStart => exact ⟨0, S0, 0, Nat.zero_le _, rfl, rfl, rfl, Hid.mk ⟨by simp [sI], rfl, Kept.refl _ _⟩⟩
  case round =>
    obtain ⟨k, S, M, hk, rfl, rfl, rfl, HI⟩ := hrel
    by_cases hlt : k < N
    · have ik : (k : Int) < (N : Int) := by omega
      have HK := Hid.mk hlt
      clear hlt hk
      go_wp2_with (fail)
      go_loopw [11, 12] (fun a i wq => ∃ (q : Nat) (P : Int), q ≤ m ∧ i = .int .i64 (q : Int) ∧ a = .int .i64 P ∧ Hid (P = sI (G k) q ∧ Kept [] w4 wq)) (fun _ i _ => m - (intOf i).toNat)
      case atStart => exact ⟨0, 0, Nat.zero_le _, rfl, rfl, Hid.mk ⟨rfl, HI.out.2.2⟩⟩
      case round =>
        obtain ⟨q, P, hq, rfl, rfl, HJ⟩ := hrel
        obtain ⟨s0, s1, s2, s3⟩ := cel4 ((K4.out.trans HJ.out.2).heap HS.out (by simp))
        go_wp2_with (fail)
        refine (C3.out _).mono ?_
        rintro e w5 ⟨rfl, k5⟩
        have K5 := Hid.mk (HJ.out.2.trans k5)
        clear s0 s1 s2 s3 k5
        by_cases hqm : q < m
        · have iq : (q : Int) < (m : Int) := by omega
          have HQ := Hid.mk hqm
          obtain ⟨s0, s1, s2, s3⟩ := cel4 ((K4.out.trans K5.out).heap HS.out (by simp))
          obtain ⟨q0, q1, q2, q3, q4⟩ := cel5 ((K4.out.trans K5.out).heap HC.out (by simp))
          clear hqm hq
          go_wp2_with (fail)
          refine (C4.out k q HK.out HQ.out _).mono ?_
          rintro e w6 ⟨rfl, k6⟩
          have K6 := Hid.mk (K5.out.trans k6)
          clear s0 s1 s2 s3 q0 q1 q2 q3 q4 k6
          have hb := PB.out k q HK.out
          have hg := GG.out k q
          obtain ⟨x, ex⟩ : ∃ x, Tl.bX (q : Int) (Tl.sX (Tl.cl W sw) sw (k : Int)) = x := ⟨_, rfl⟩
          obtain ⟨y, ey⟩ : ∃ y, Tl.sY (Tl.cl W sw) sh (k : Int) = y := ⟨_, rfl⟩
          obtain ⟨a, ea⟩ : ∃ a, pw W sw (Tl.cl W sw) (q : Int) (k : Int) = a := ⟨_, rfl⟩
          obtain ⟨b, eb⟩ : ∃ b, ph H sh (Tl.cl W sw) (k : Int) = b := ⟨_, rfl⟩
          rw [ex, ey, ea, eb]
          rw [ea, eb] at hb hg
          clear ex ey ea eb
          obtain ⟨ab, eab⟩ : ∃ z, a * b = z := ⟨_, rfl⟩
          rw [eab] at hb
          obtain ⟨abd, eabd⟩ : ∃ z, ab * D = z := ⟨_, rfl⟩
          rw [eabd, hg] at hb
          have v1 := wk2 eab (by omega)
          have v2 := wk2 eabd (by omega)
          have HSB : Hid (P = sI (G k) q) := Hid.mk HJ.out.1
          have HPB : Hid (0 ≤ P ∧ P ≤ 200000000) := Hid.mk (by
            rw [HSB.out]
            have h9 := sI_bd (f := G k) (n := q) (M := 25165830) (fun q _ => by rw [← GG.out k q]; exact (PB.out k q HK.out).2.2.2)
            have h8 := HM.out
            have h7 := HQ.out
            omega)
          have CU := Hid.mk (C5.out abd hb.2.1.1 hb.2.1.2)
          have v3 := wk (x := P + 4) (by have := HPB.out; omega)
          have HU : Hid ((abd + 8 - 1) / 8 + 4 = G k q ∧ 0 ≤ G k q ∧ G k q ≤ 25165830) := Hid.mk hb.2.2
          obtain ⟨U, eU⟩ : ∃ U, (abd + 8 - 1) / 8 = U := ⟨_, rfl⟩
          rw [eU] at CU HU
          have e9 : P + 4 + U = sI (G k) (q + 1) := by
            have h1 := HSB.out
            have h2 := HU.out.1
            show P + 4 + U = sI (G k) q + G k q
            omega
          have v5 := wk2 (x := (q : Int) + 1) (z := ((q + 1 : Nat) : Int)) rfl (by have := HQ.out; have := HM.out; omega)
          obtain ⟨P9, eP9⟩ : ∃ z, sI (G k) (q + 1) = z := ⟨_, rfl⟩
          rw [eP9] at e9
          have v4 := wk2 e9 (by rw [← e9]; have := HPB.out; have := HU.out; omega)
          have EP9 := Hid.mk eP9
          obtain ⟨v1a, v1b⟩ := v1
          obtain ⟨v2a, v2b⟩ := v2
          obtain ⟨v3a, v3b⟩ := v3
          obtain ⟨v4a, v4b⟩ := v4
          obtain ⟨v5a, v5b⟩ := v5
          clear hb hg eab eabd eU e9 eP9
          have s2 : (w6.alloc (.cells #[.int .i64 x, .int .i64 y, .int .i64 a, .int .i64 b] 49 (0, 0))).cell? ⟨B, 2, none⟩ = some (.int .i64 D) := cellAt (i := 2) (((K4.out.trans K6.out).alloc _).heap HS.out (by simp)) rfl
          have K7 : Hid (Kept [] w4 (w6.alloc (.cells #[.int .i64 x, .int .i64 y, .int .i64 a, .int .i64 b] 49 (0, 0)))) := Hid.mk (K6.out.alloc _)
          go_wp2_with (fail)
          refine (CU.out _).mono ?_
          rintro e w8 ⟨rfl, hw⟩
          obtain rfl := hw.symm
          clear hw
          obtain ⟨w7, e7⟩ : ∃ z, w6.alloc (.cells #[.int .i64 x, .int .i64 y, .int .i64 a, .int .i64 b] 49 (0, 0)) = z := ⟨_, rfl⟩
          rw [e7] at K7 ⊢
          clear s2 e7
          go_wp2
          clear v1a v1b v2a v2b v3a v3b v4a v4b v5a v5b
          go_roundw
          case rel => exact ⟨q + 1, P9, HQ.out, rfl, rfl, Hid.mk ⟨EP9.out.symm, K7.out⟩⟩
          case measure => (clear iq ik; simp [intOf]; have := HQ.out; omega)
        · obtain rfl : m = q := by omega
          have EP : Hid (P = f k) := Hid.mk (by rw [HJ.out.1, FG.out k])
          have HPB := Hid.mk (FB.out k HK.out)
          have HSB : Hid (0 ≤ sI f k ∧ sI f k ≤ (k : Int) * 200000000) := Hid.mk (sI_bd (fun i hi => FB.out i (by have := HK.out; omega)))
          have HMB : Hid (0 ≤ gmx f k ∧ gmx f k ≤ 200000000) := Hid.mk (gmx_in (by omega) (fun i hi => (FB.out i (by have := HK.out; omega)).2))
          have v1 := wk (x := S + P) (by have h1 := HI.out.1; have h2 := EP.out; have h3 := HPB.out; have h4 := HSB.out; have h5 := HB0.out; have h6 := HK.out; have h7 := HN.out; omega)
          have v5 := wk2 (x := (k : Int) + 1) (z := ((k + 1 : Nat) : Int)) rfl (by have := HK.out; have := HN.out; omega)
          obtain ⟨v1a, v1b⟩ := v1
          obtain ⟨v5a, v5b⟩ := v5
          have HSS : Hid (S + P = S0 + sI f (k + 1)) := Hid.mk (by
            have h1 := HI.out.1
            have h2 := EP.out
            show S + P = S0 + (sI f k + f k)
            omega)
          clear hqm hq
          by_cases hgt : M < P
          · have dg : decide (M < P) = true := by simpa using hgt
            have HG : Hid (P = gmx f (k + 1)) := Hid.mk (by
              show P = if gmx f k < f k then f k else gmx f k
              rw [← HI.out.2.1, ← EP.out, if_pos hgt])
            clear hgt
            go_wp2
            clear v1a v1b v5a v5b
            go_roundw
            case rel => exact ⟨k + 1, S + P, P, HK.out, rfl, rfl, rfl, Hid.mk ⟨HSS.out, HG.out, K5.out⟩⟩
            case measure => (clear ik; simp [intOf]; have := HK.out; omega)
          · have dg : decide (M < P) = false := by simpa using hgt
            have HG : Hid (M = gmx f (k + 1)) := Hid.mk (by
              show M = if gmx f k < f k then f k else gmx f k
              rw [← HI.out.2.1, ← EP.out, if_neg hgt])
            clear hgt
            go_wp2
            clear v1a v1b v5a v5b
            go_roundw
            case rel => exact ⟨k + 1, S + P, M, HK.out, rfl, rfl, rfl, Hid.mk ⟨HSS.out, HG.out, K5.out⟩⟩
            case measure => (clear ik; simp [intOf]; have := HK.out; omega)
    · obtain rfl : N = k := by omega
      have HSB : Hid (0 ≤ sI f N ∧ sI f N ≤ (N : Int) * 200000000) := Hid.mk (sI_bd (fun i hi => FB.out i hi))
      have HMB : Hid (0 ≤ gmx f N ∧ gmx f N ≤ 200000000) := Hid.mk (gmx_in (by omega) (fun i hi => (FB.out i hi).2))
      have hm0 : 0 ≤ p * gmx f N := Int.mul_nonneg (by have := HP.out; omega) HMB.out.1
      have hm1 : p * gmx f N ≤ 16 * 200000000 := Int.mul_le_mul HP.out.2 HMB.out.2 HMB.out.1 (by omega)
      obtain ⟨pg, epg⟩ : ∃ z, p * gmx f N = z := ⟨_, rfl⟩
      rw [epg] at hm0 hm1
      have eM : p * M = pg := by rw [HI.out.2.1]; exact epg
      have v1 := wk2 eM (by omega)
      have v2 := wk (x := S + pg) (by have h1 := HI.out.1; have h4 := HSB.out; have h5 := HB0.out; have h7 := HN.out; omega)
      obtain ⟨v1a, v1b⟩ := v1
      obtain ⟨v2a, v2b⟩ := v2
      have HF : Hid (S + pg = S0 + sI f N + p * gmx f N) := Hid.mk (by rw [epg, HI.out.1])
      obtain ⟨q0, q1, q2, q3, q4⟩ := cel5 ((K4.out.trans HI.out.2.2).heap HC.out (by simp))
      have HK9 := Hid.mk (K2.out.trans (K4.out.trans HI.out.2.2))
      clear hm0 hm1 eM epg hk hlt
      go_wp2
      go_ret2
      exact ⟨by rw [HF.out]; rfl, HK9.out⟩
end Go.Proofs.YtbhhkcgicajlcaaGreatDoor.Pc

namespace Go.Proofs.YtbhhkcgicajlcaaGreatDoor.Pc
open Go.RowKit

theorem mxl_gmx {l : Nat → Nat} {f : Nat → Int} {n : Nat} (h : ∀ i, i < n → (l i : Int) ≤ f i) : (mxl l n : Int) ≤ gmx f n := by
  induction n with
  | zero => exact Int.le_refl _
  | succ n ih =>
    have h1 := ih (fun i hi => h i (by omega))
    have h2 := h n (by omega)
    simp only [mxl, gmx]
    split <;> omega
/-- How long a rung's record is. -/
theorem rcl_bd {W H D : Int} {A : Bool} {m : Nat} {ln : Nat → Nat} {F : Nat → Nat → Nat} {sw sh cap : Int} {n pn N : Nat} {L : Nat → Nat → Int} {X : Nat → Nat → Nat → Nat × Nat}
    (hv : Tl.Vld W H D A m ln F) (hc : Cfg W H D A sw sh n L cap (pn : Int)) (hN : N = (Tl.cl W sw * Tl.cl H sh).toNat) (hX : ∀ i, i < n → Cod W H D sw sh (Tl.cl W sw) N m F (L i) (X i)) {i : Nat} (hi : i < n) :
    44 ≤ rcl (lnf (psv N m (X i))) N pn ∧ (rcl (lnf (psv N m (X i))) N pn : Int) ≤ bnd W H D sw sh A (pn : Int) ∧ bnd W H D sw sh A (pn : Int) ≤ 1000000000 := by
  have g := hc.gd
  have hcr : 1 ≤ Tl.cl W sw * Tl.cl H sh ∧ Tl.cl W sw * Tl.cl H sh ≤ 65536 := by
    have h1 : 1 * 1 ≤ Tl.cl W sw * Tl.cl H sh := Int.mul_le_mul g.c0 g.r0 (by omega) (by have := g.c0; omega)
    have h2 : Tl.cl W sw * Tl.cl H sh ≤ 256 * 256 := Int.mul_le_mul g.c1 g.r1 (by have := g.r0; omega) (by omega)
    omega
  have hNi : (N : Int) = Tl.cl W sw * Tl.cl H sh := by rw [hN]; omega
  have hpm := hc.pr
  unfold pmb at hpm
  have hpm := of_decide_eq_true hpm
  have hld := lmb_yes.1 hc.ld
  have hrr : ∀ q, q < 4 → 0 ≤ L i q ∧ L i q ≤ 63 := fun q hq => rmb_tol (hld.2 i hi) hq
  have htot := hv.shp.2.2.2
  have hle : ∀ k, k < N → (lnf (psv N m (X i)) k : Int) ≤ pzs W H D sw sh (Tl.cl W sw) (Tl.np A) k := fun k hk => by
    have h3 := (pay_le hv g (by omega) hrr (hX i hi) hk).1
    unfold lnf
    rw [psv_at hk]
    rw [hv.num] at h3 ⊢
    exact h3
  have hsm : (sm (lnf (psv N m (X i))) N : Int) ≤ sI (fun k => pzs W H D sw sh (Tl.cl W sw) (Tl.np A) k) N := by
    rw [sm_cast]
    exact sI_le hle
  have hmx : (mxl (lnf (psv N m (X i))) N : Int) ≤ gmx (fun k => pzs W H D sw sh (Tl.cl W sw) (Tl.np A) k) N := mxl_gmx hle
  have hg : 0 ≤ gmx (fun k => pzs W H D sw sh (Tl.cl W sw) (Tl.np A) k) N ∧ gmx (fun k => pzs W H D sw sh (Tl.cl W sw) (Tl.np A) k) N ≤ 6291476 := gmx_in (by omega) (fun k hk => by
    have h9 := (pzs_le hv.shp g (k := k) (by omega)).2
    omega)
  have hs2 := pzs_sum hv.shp g
  rw [← hN] at hs2
  unfold rcl bnd
  rw [← hN, ← hNi]
  refine ⟨by omega, ?_, ?_⟩
  · have h1 : ((pn * mxl (lnf (psv N m (X i))) N : Nat) : Int) ≤ (pn : Int) * gmx (fun k => pzs W H D sw sh (Tl.cl W sw) (Tl.np A) k) N := by
      rw [Int.natCast_mul]
      exact Int.mul_le_mul_of_nonneg_left hmx (by omega)
    generalize (pn * mxl (lnf (psv N m (X i))) N) = x at *
    omega
  · have h2 : (pn : Int) * gmx (fun k => pzs W H D sw sh (Tl.cl W sw) (Tl.np A) k) N ≤ 16 * 6291476 := Int.mul_le_mul (by omega) hg.2 hg.1 (by omega)
    generalize (pn : Int) * gmx (fun k => pzs W H D sw sh (Tl.cl W sw) (Tl.np A) k) N = x at *
    omega
/-- And no longer than the format can tell. -/
theorem rcl_top {W H D : Int} {A : Bool} {m : Nat} {ln : Nat → Nat} {F : Nat → Nat → Nat} {sw sh cap : Int} {n pn N : Nat} {L : Nat → Nat → Int} {X : Nat → Nat → Nat → Nat × Nat}
    (hv : Tl.Vld W H D A m ln F) (hc : Cfg W H D A sw sh n L cap (pn : Int)) (hN : N = (Tl.cl W sw * Tl.cl H sh).toNat) (hX : ∀ i, i < n → Cod W H D sw sh (Tl.cl W sw) N m F (L i) (X i)) {i : Nat} (hi : i < n) :
    rcl (lnf (psv N m (X i))) N pn ≤ 134217727 := by
  have g := hc.gd
  have hb := rcl_bd hv hc hN hX hi
  have hcr : 1 ≤ Tl.cl W sw * Tl.cl H sh ∧ Tl.cl W sw * Tl.cl H sh ≤ 65536 := by
    have h1 : 1 * 1 ≤ Tl.cl W sw * Tl.cl H sh := Int.mul_le_mul g.c0 g.r0 (by omega) (by have := g.c0; omega)
    have h2 : Tl.cl W sw * Tl.cl H sh ≤ 256 * 256 := Int.mul_le_mul g.c1 g.r1 (by have := g.r0; omega) (by omega)
    omega
  have hNi : (N : Int) = Tl.cl W sw * Tl.cl H sh := by rw [hN]; omega
  have hpm := hc.pr
  unfold pmb at hpm
  have hpm := of_decide_eq_true hpm
  have htot := hv.shp.2.2.2
  have hg : 0 ≤ gmx (fun k => pzs W H D sw sh (Tl.cl W sw) (Tl.np A) k) N ∧ gmx (fun k => pzs W H D sw sh (Tl.cl W sw) (Tl.np A) k) N ≤ 6291476 := gmx_in (by omega) (fun k hk => by
    have h9 := (pzs_le hv.shp g (k := k) (by omega)).2
    omega)
  have hs2 := pzs_sum hv.shp g
  rw [← hN] at hs2
  have h9 := hb.2.1
  unfold bnd at h9
  rw [← hN, ← hNi] at h9
  rcases hpm.2 with h0 | h0
  · rw [h0] at h9
    simp only [Int.zero_mul] at h9
    omega
  · have h2 : (pn : Int) * gmx (fun k => pzs W H D sw sh (Tl.cl W sw) (Tl.np A) k) N ≤ 16 * 6291476 := Int.mul_le_mul (by omega) hg.2 hg.1 (by omega)
    generalize (pn : Int) * gmx (fun k => pzs W H D sw sh (Tl.cl W sw) (Tl.np A) k) N = x at *
    omega
end Go.Proofs.YtbhhkcgicajlcaaGreatDoor.Pc

namespace Go.Proofs.YtbhhkcgicajlcaaGreatDoor.Pc
open Go.RowKit

set_option maxHeartbeats 4000000 in
set_option maxRecDepth 1000000 in
theorem right_any (W H D : Int) (A : Bool) (po : Option Addr) (m d : Nat) (ln : Nat → Nat) (F : Nat → Nat → Nat) (sw sh : Int) (lo : Option Addr) (n c : Nat) (L : Nat → Nat → Int) (cap p : Int) (w : World) (hr : Tl.Pl w po m ln F) (hm : m ≤ 9223372036854775807) (hln : ∀ i, i < m → ln i ≤ 9223372036854775807) (hF : ∀ i, i < m → ∀ j, j < ln i → F i j < 65536) (hL : Ldr w lo n L) (hn : n ≤ 9223372036854775807) :
    Calls Tryz.prog 6 #[Tl.frv W H D A po m d, cfv sw sh lo n c cap p] w fun e w' => e = .returned (.bool (decide (Tl.vE W H D A m ln F = 0 ∧ cfE W H D A sw sh n L cap p = 0))) ∧ Kept [] w w' := by
  obtain ⟨w1, e1⟩ : ∃ w1, w.alloc (.cells #[.int .i64 W, .int .i64 H, .int .i64 D, .bool A, .slice po m d] 26 (0, 0)) = w1 := ⟨_, rfl⟩
  obtain ⟨w2, e2⟩ : ∃ w2, w1.alloc (.cells #[.int .i64 sw, .int .i64 sh, .slice lo n c, .int .i64 cap, .int .i64 p] 29 (0, 0)) = w2 := ⟨_, rfl⟩
  obtain ⟨B, eB⟩ : ∃ B, w.heap.size = B := ⟨_, rfl⟩
  have z1 : w1.heap.size = B + 1 := by rw [← e1, ← eB]; exact Array.size_push _
  have k1 : Kept [] w w1 := by rw [← e1]; exact (Kept.refl [] w).alloc _
  have k2 : Kept [] w1 w2 := by rw [← e2]; exact (Kept.refl [] w1).alloc _
  have HS := Hid.mk (k2.heap (show w1.heap[B]? = some (.cells #[.int .i64 W, .int .i64 H, .int .i64 D, .bool A, .slice po m d] 26 (0, 0)) by rw [← e1, ← eB]; exact heap_alloc_new _ _) (by simp))
  have HC := Hid.mk (show w2.heap[B + 1]? = some (.cells #[.int .i64 sw, .int .i64 sh, .slice lo n c, .int .i64 cap, .int .i64 p] 29 (0, 0)) by rw [← e2, ← z1]; exact heap_alloc_new _ _)
  have K2 := Hid.mk (k1.trans k2)
  have C1 := Hid.mk (fun u (ku : Kept [] w u) => Tl.rvalid_any W H D A po m d ln F u (hr.keep ku) hm hln hF)
  have C2 := Hid.mk (fun u (ku : Kept [] w u) => rValid_any W H D A sw sh lo n c L cap p u (hL.keep ku) hn)
  obtain ⟨E1, eE1⟩ : ∃ E, Tl.vE W H D A m ln F = E := ⟨_, rfl⟩
  obtain ⟨E2, eE2⟩ : ∃ E, cfE W H D A sw sh n L cap p = E := ⟨_, rfl⟩
  rw [eE1] at C1
  rw [eE2] at C2
  rw [eE1, eE2]
  obtain ⟨q0, q1, q2, q3, q4⟩ := cel5 HC.out
  obtain ⟨s0, s1, s2, s3, s4⟩ := cel5 HS.out
  clear hr hm hln hF hL hn k1 k2 eE1 eE2
  by_cases h1 : E1 = 0
  · subst h1
    have d1 : decide ((0 : Int) = 0 ∧ E2 = 0) = decide (E2 = 0) := by simp
    rw [d1]
    clear d1
    go_enter Tryz.func6, Tryz.ntmps6
    go_wp2_with (fail)
    clear e1 e2 z1 eB
    refine (C1.out _ K2.out).mono ?_
    rintro e w3 ⟨rfl, k3⟩
    have K3 := Hid.mk k3
    clear q0 q1 q2 q3 q4 s0 s1 s2 s3 s4 k3
    obtain ⟨q0, q1, q2, q3, q4⟩ := cel5 (K3.out.heap HC.out (by simp))
    obtain ⟨s0, s1, s2, s3, s4⟩ := cel5 (K3.out.heap HS.out (by simp))
    go_wp2_with (fail)
    refine (C2.out _ (K2.out.trans K3.out)).mono ?_
    rintro e w4 ⟨rfl, k4⟩
    have K4 := Hid.mk ((K2.out.trans K3.out).trans k4)
    clear q0 q1 q2 q3 q4 s0 s1 s2 s3 s4 k4
    by_cases h2 : E2 = 0
    · subst h2
      go_wp2
      go_ret
      exact ⟨by first | rfl | (exact ret_bool (by simp)), K4.out⟩
    · have d2 : decide (E2 = 0) = false := by simpa using h2
      have HD2 := Hid.mk d2
      go_wp2
      go_ret
      exact ⟨by first | (rw [HD2.out]; done) | (rw [HD2.out]; rfl) | (exact ret_bool HD2.out.symm) | rfl, K4.out⟩
  · have d1 : decide (E1 = 0 ∧ E2 = 0) = false := by simp [h1]
    rw [d1]
    clear d1
    go_enter Tryz.func6, Tryz.ntmps6
    go_wp2_with (fail)
    clear e1 e2 z1 eB
    refine (C1.out _ K2.out).mono ?_
    rintro e w3 ⟨rfl, k3⟩
    have K3 := Hid.mk (K2.out.trans k3)
    clear q0 q1 q2 q3 q4 s0 s1 s2 s3 s4 k3
    go_wp2
    go_ret
    exact ⟨by first | rfl | (exact ret_bool rfl), K3.out⟩
end Go.Proofs.YtbhhkcgicajlcaaGreatDoor.Pc

namespace Go.Proofs.YtbhhkcgicajlcaaGreatDoor.Pc
open Go.RowKit

theorem jbE_zero {W H D : Int} {A : Bool} {m : Nat} {ln : Nat → Nat} {F : Nat → Nat → Nat} {sw sh : Int} {n : Nat} {L : Nat → Nat → Int} {cap p : Int} : jbE W H D A m ln F sw sh n L cap p = 0 ↔ (Tl.vE W H D A m ln F = 0 ∧ cfE W H D A sw sh n L cap p = 0) := by
  unfold jbE
  by_cases h : Tl.vE W H D A m ln F = 0
  · rw [if_pos h]; exact ⟨fun h2 => ⟨h, h2⟩, fun h2 => h2.2⟩
  · rw [if_neg h]; exact ⟨fun h2 => absurd h2 h, fun h2 => absurd h2.1 h⟩

set_option maxHeartbeats 4000000 in
set_option maxRecDepth 1000000 in
/-- Of what may not be coded, TopLadder holds. -/
theorem top_no (W H D : Int) (A : Bool) (po : Option Addr) (m d : Nat) (ln : Nat → Nat) (F : Nat → Nat → Nat) (sw sh : Int) (lo : Option Addr) (n c : Nat) (L : Nat → Nat → Int) (cap p : Int) (w : World)
    (hP : Tl.Pl w po m ln F) (hm : m ≤ 9223372036854775807) (hln : ∀ i, i < m → ln i ≤ 9223372036854775807) (hF : ∀ i, i < m → ∀ j, j < ln i → F i j < 65536) (hL : Ldr w lo n L) (hn : n ≤ 9223372036854775807) (s0 : -9223372036854775808 ≤ sw) (s1 : sw ≤ 9223372036854775807)
    (hE : jbE W H D A m ln F sw sh n L cap p ≠ 0) :
    Calls Tryz.prog 3 #[Tl.frv W H D A po m d, cfv sw sh lo n c cap p] w fun e w' => e = .returned (.bool true) ∧ Kept [] w w' := by
  obtain ⟨w1, e1⟩ : ∃ w1, w.alloc (.cells #[.int .i64 W, .int .i64 H, .int .i64 D, .bool A, .slice po m d] 26 (0, 0)) = w1 := ⟨_, rfl⟩
  obtain ⟨w2, e2⟩ : ∃ w2, w1.alloc (.cells #[.int .i64 sw, .int .i64 sh, .slice lo n c, .int .i64 cap, .int .i64 p] 29 (0, 0)) = w2 := ⟨_, rfl⟩
  obtain ⟨B, eB⟩ : ∃ B, w.heap.size = B := ⟨_, rfl⟩
  have z1 : w1.heap.size = B + 1 := by rw [← e1, ← eB]; exact Array.size_push _
  have k1 : Kept [] w w1 := by rw [← e1]; exact (Kept.refl [] w).alloc _
  have k2 : Kept [] w1 w2 := by rw [← e2]; exact (Kept.refl [] w1).alloc _
  have HS := Hid.mk (k2.heap (show w1.heap[B]? = some (.cells #[.int .i64 W, .int .i64 H, .int .i64 D, .bool A, .slice po m d] 26 (0, 0)) by rw [← e1, ← eB]; exact heap_alloc_new _ _) (by simp))
  have HC := Hid.mk (show w2.heap[B + 1]? = some (.cells #[.int .i64 sw, .int .i64 sh, .slice lo n c, .int .i64 cap, .int .i64 p] 29 (0, 0)) by rw [← e2, ← z1]; exact heap_alloc_new _ _)
  have K2 := Hid.mk (k1.trans k2)
  have C1 := Hid.mk (fun u (ku : Kept [] w u) => Encode_any W H D A po m d ln F sw sh lo n c L cap p 0 0 (fun _ => 0) (fun _ => []) (fun _ => []) u (hP.keep ku) hm hln (hL.keep ku) hn s0 s1 (fun h => absurd h hE) (fun h => absurd h hE))
  have C2 := Hid.mk (fun u (ku : Kept [] w u) => right_any W H D A po m d ln F sw sh lo n c L cap p u (hP.keep ku) hm hln hF (hL.keep ku) hn)
  have hd : decide (Tl.vE W H D A m ln F = 0 ∧ cfE W H D A sw sh n L cap p = 0) = false := decide_eq_false (fun h => hE (jbE_zero.2 h))
  rw [hd] at C2
  obtain ⟨E, eE⟩ : ∃ E, jbE W H D A m ln F sw sh n L cap p = E := ⟨_, rfl⟩
  rw [eE] at C1 hE
  obtain ⟨q0, q1, q2, q3, q4⟩ := cel5 HC.out
  obtain ⟨t0, t1, t2, t3, t4⟩ := cel5 HS.out
  clear hP hm hln hF hL hn k1 k2 eE hd s0 s1
  go_enter Tryz.func3, Tryz.ntmps3
  go_wp2_with (fail)
  clear e1 e2 z1 eB
  refine (C1.out _ K2.out).mono ?_
  rintro e w3 (⟨h0, _⟩ | ⟨_, rfl, k3⟩)
  · exact absurd h0 hE
  have K3 := Hid.mk k3
  clear q0 q1 q2 q3 q4 t0 t1 t2 t3 t4 k3
  have K4 : Hid (Kept [] w2 (w3.alloc (.cells #[.slice none 0 0, .int .i64 0, .int .i64 0, .int .i64 0, .int .i64 0, .int .i64 0] 34 (0, 0)))) := Hid.mk (K3.out.alloc _)
  have H4 := Hid.mk (show (w3.alloc (.cells #[.slice none 0 0, .int .i64 0, .int .i64 0, .int .i64 0, .int .i64 0, .int .i64 0] 34 (0, 0))).heap[w3.heap.size]? = some (.cells #[.slice none 0 0, .int .i64 0, .int .i64 0, .int .i64 0, .int .i64 0, .int .i64 0] 34 (0, 0)) from heap_alloc_new _ _)
  obtain ⟨q0, q1, q2, q3, q4⟩ := cel5 (K4.out.heap HC.out (by simp))
  obtain ⟨t0, t1, t2, t3, t4⟩ := cel5 (K4.out.heap HS.out (by simp))
  go_wp2_with (fail)
  refine (C2.out _ (K2.out.trans K4.out)).mono ?_
  rintro e w5 ⟨rfl, k5⟩
  have K5 := Hid.mk ((K2.out.trans K4.out).trans k5)
  have x0 := cellAt (i := 0) (k5.heap H4.out (by simp)) rfl
  have de : decide (E = 0) = false := by simpa using hE
  clear q0 q1 q2 q3 q4 t0 t1 t2 t3 t4 k5
  go_wp2
  go_ret
  exact ⟨by first | rfl | (exact ret_bool (by simp [hE])), K5.out⟩
end Go.Proofs.YtbhhkcgicajlcaaGreatDoor.Pc

namespace Go.Proofs.YtbhhkcgicajlcaaGreatDoor.Pc
open Go.RowKit

theorem Tryz.cellsI : Tryz.prog.cellsOf 3 = 1 := by kernel_rfl
theorem Tryz.infoI3 : (Tryz.prog.info? 3).isSome = true := by kernel_rfl
/-- A rung is the same as itself. -/
theorem rung_eql (a0 a1 a2 a3 : Int) (w : World) : (Op.equalIn 10000 32 (.agg #[.int .i64 a0, .int .i64 a1, .int .i64 a2, .int .i64 a3]) (.agg #[.int .i64 a0, .int .i64 a1, .int .i64 a2, .int .i64 a3])).run Tryz.prog w = .ok true w := by
  obtain ⟨i, hi⟩ := Option.isSome_iff_exists.1 Tryz.infoI3
  rw [run_equalIn_array w 9999 _ _ Tryz.underlying32 hi]
  have hp : ∀ (j : Nat) (x : Int), (#[.int .i64 a0, .int .i64 a1, .int .i64 a2, .int .i64 a3] : Array Value)[j]? = some (.int .i64 x) → (part 3 #[.int .i64 a0, .int .i64 a1, .int .i64 a2, .int .i64 a3] (j * Tryz.prog.cellsOf 3)).run Tryz.prog w = .ok (.int .i64 x) w := fun j x h => by
    rw [Tryz.cellsI, Nat.mul_one]
    simp [part, isAgg, run_underlying Tryz.underlying3, h]
  have he : ∀ x : Int, (Op.equalIn 9999 3 (.int .i64 x) (.int .i64 x)).run Tryz.prog w = .ok true w := fun x => by
    rw [run_equalIn_int w 9998 3 .i64 .i64 _ _ Tryz.underlying3]
    simp
  show (Op.eqItems 9999 3 (Tryz.prog.cellsOf 3) _ _ [0, 1, 2, 3]).run Tryz.prog w = _
  simp only [Op.eqItems, Sem.run_bind, hp 0 a0 rfl, hp 1 a1 rfl, hp 2 a2 rfl, hp 3 a3 rfl, he, Result.andThen_ok, Bool.not_true, Bool.false_eq_true, if_false]
  first | rfl | simp
end Go.Proofs.YtbhhkcgicajlcaaGreatDoor.Pc
