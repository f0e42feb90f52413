import Derived.Test.YtahoeodpjdbdkabDoorSkZ
namespace Go.Proofs.YtahoeodpjdbdkabDoor
open Go.RowKit

/-- May a block have these sides? -/
def szd (w h : Int) : Bool := decide (1 ≤ w ∧ w ≤ 4096 ∧ 1 ≤ h ∧ h ≤ 4096 ∧ w * h ≤ 4194304)
theorem szd_in {w h : Int} (e : szd w h = true) : 1 ≤ w ∧ w ≤ 4096 ∧ 1 ≤ h ∧ h ≤ 4096 ∧ w * h ≤ 4194304 := by unfold szd at e; exact of_decide_eq_true e
def rsz (w h D : Int) : Int × Int := if D ≠ 10 ∧ D ≠ 12 then (0, 91) else if szd w h then (1 + (D * w * h + 7) / 8, 0) else (0, 101)

set_option maxHeartbeats 1000000 in
theorem sized_any (w h : Int) (W : World) : Calls Tryd.prog 17 #[.int .i64 w, .int .i64 h] W fun e W' => e = .returned (.bool (szd w h)) ∧ W' = W := by
  by_cases h1 : 1 ≤ w
  · by_cases h2 : w ≤ 4096
    · by_cases h3 : 1 ≤ h
      · by_cases h4 : h ≤ 4096
        · have p1 : 0 ≤ w * h := Int.mul_nonneg (by omega) (by omega)
          have p2 : w * h ≤ 4096 * 4096 := Int.mul_le_mul h2 h4 (by omega) (by omega)
          obtain ⟨m, hm⟩ : ∃ m, w * h = m := ⟨_, rfl⟩
          have hx : wrap64 (w * h) = m := (w64_in (by omega) (by omega)).trans hm
          have e : szd w h = decide (m ≤ 4194304) := by unfold szd; rw [hm]; simp [h1, h2, h3, h4]
          rw [e]
          clear e hm p1 p2
          go_enter Tryd.func17, Tryd.ntmps17
          go_wp2
          go_ret
          exact ⟨rfl, rfl⟩
        · have e : szd w h = false := by unfold szd; rw [decide_eq_false]; omega
          rw [e]
          go_enter Tryd.func17, Tryd.ntmps17
          go_wp2
          go_ret
          exact ⟨rfl, rfl⟩
      · have e : szd w h = false := by unfold szd; rw [decide_eq_false]; omega
        rw [e]
        go_enter Tryd.func17, Tryd.ntmps17
        go_wp2
        go_ret
        exact ⟨rfl, rfl⟩
    · have e : szd w h = false := by unfold szd; rw [decide_eq_false]; omega
      rw [e]
      go_enter Tryd.func17, Tryd.ntmps17
      go_wp2
      go_ret
      exact ⟨rfl, rfl⟩
  · have e : szd w h = false := by unfold szd; rw [decide_eq_false]; omega
    rw [e]
    go_enter Tryd.func17, Tryd.ntmps17
    go_wp2
    go_ret
    exact ⟨rfl, rfl⟩

set_option maxHeartbeats 2000000 in
theorem rawSize_any (w h D : Int) (W : World) : Calls Tryd.prog 25 #[.int .i64 w, .int .i64 h, .int .i64 D] W fun e W' => e = .returned (.tuple #[.int .i64 (rsz w h D).1, .int .i64 (rsz w h D).2]) ∧ W' = W := by
  by_cases hD : D = 10 ∨ D = 12
  · by_cases hs : szd w h = true
    · have e : rsz w h D = (1 + (D * w * h + 7) / 8, 0) := by unfold rsz; rw [if_neg (by omega), if_pos hs]
      rw [e]
      have C := Hid.mk (fun W => sized_any w h W)
      rw [hs] at C
      have hb := szd_in hs
      have p1 : 0 ≤ w * h := Int.mul_nonneg (by omega) (by omega)
      have p2 : D * w * h = D * (w * h) := Int.mul_assoc _ _ _
      obtain ⟨y, hy⟩ : ∃ y, D * w = y := ⟨_, rfl⟩
      obtain ⟨m, hm⟩ : ∃ m, y * h = m := ⟨_, rfl⟩
      have hyb : 0 ≤ y ∧ y ≤ 12 * 4096 := by rcases hD with rfl | rfl <;> omega
      have hmb : 0 ≤ m ∧ m ≤ 12 * 4194304 := by
        rw [← hm, ← hy, p2]
        generalize w * h = z at *
        rcases hD with rfl | rfl <;> omega
      have x1 : wrap64 (D * w) = y := by rw [hy]; exact w64_in (by omega) (by omega)
      have x2 : wrap64 (y * h) = m := by rw [hm]; exact w64_in (by omega) (by omega)
      rw [hy, hm]
      have d1 : (D != 10 && D != 12) = false := by rcases hD with rfl | rfl <;> rfl
      clear p1 p2 hy hm e hs hb
      rcases hD with rfl | rfl
      all_goals
        go_enter Tryd.func25, Tryd.ntmps25
        go_wp2_with (go_at_call 17; refine (C.out _).mono ?_; rintro e w' ⟨rfl, rfl⟩)
        go_ret2
        exact ⟨rfl, rfl⟩
    · have hs : szd w h = false := by simpa using hs
      have e : rsz w h D = (0, 101) := by unfold rsz; rw [if_neg (by omega), if_neg (by rw [hs]; decide)]
      rw [e]
      have C := Hid.mk (fun W => sized_any w h W)
      rw [hs] at C
      clear e hs
      rcases hD with rfl | rfl
      all_goals
        go_enter Tryd.func25, Tryd.ntmps25
        go_wp2_with (go_at_call 17; refine (C.out _).mono ?_; rintro e w' ⟨rfl, rfl⟩)
        go_ret2
        exact ⟨rfl, rfl⟩
  · have e : rsz w h D = (0, 91) := by unfold rsz; rw [if_pos (by omega)]
    rw [e]
    have d1 : (D != 10) = true := by simp; omega
    have d2 : (D != 12) = true := by simp; omega
    clear e hD
    go_enter Tryd.func25, Tryd.ntmps25
    go_wp2
    go_ret2
    exact ⟨rfl, rfl⟩

set_option maxHeartbeats 1000000 in
theorem sizedD_any (w h : Int) (W : World) : Calls Tryd.prog 14 #[.int .i64 w, .int .i64 h] W fun e W' => e = .returned (.bool (szd w h)) ∧ W' = W := by
  by_cases h1 : 1 ≤ w
  · by_cases h2 : w ≤ 4096
    · by_cases h3 : 1 ≤ h
      · by_cases h4 : h ≤ 4096
        · have p1 : 0 ≤ w * h := Int.mul_nonneg (by omega) (by omega)
          have p2 : w * h ≤ 4096 * 4096 := Int.mul_le_mul h2 h4 (by omega) (by omega)
          obtain ⟨m, hm⟩ : ∃ m, w * h = m := ⟨_, rfl⟩
          have hx : wrap64 (w * h) = m := (w64_in (by omega) (by omega)).trans hm
          have e : szd w h = decide (m ≤ 4194304) := by unfold szd; rw [hm]; simp [h1, h2, h3, h4]
          rw [e]
          clear e hm p1 p2
          go_enter Tryd.func14, Tryd.ntmps14
          go_wp2
          go_ret
          exact ⟨rfl, rfl⟩
        · have e : szd w h = false := by unfold szd; rw [decide_eq_false]; omega
          rw [e]
          go_enter Tryd.func14, Tryd.ntmps14
          go_wp2
          go_ret
          exact ⟨rfl, rfl⟩
      · have e : szd w h = false := by unfold szd; rw [decide_eq_false]; omega
        rw [e]
        go_enter Tryd.func14, Tryd.ntmps14
        go_wp2
        go_ret
        exact ⟨rfl, rfl⟩
    · have e : szd w h = false := by unfold szd; rw [decide_eq_false]; omega
      rw [e]
      go_enter Tryd.func14, Tryd.ntmps14
      go_wp2
      go_ret
      exact ⟨rfl, rfl⟩
  · have e : szd w h = false := by unfold szd; rw [decide_eq_false]; omega
    rw [e]
    go_enter Tryd.func14, Tryd.ntmps14
    go_wp2
    go_ret
    exact ⟨rfl, rfl⟩

end Go.Proofs.YtahoeodpjdbdkabDoor

namespace Go.Proofs.YtahoeodpjdbdkabDoor
open Go.RowKit

/-- The greatest of the first samples. -/
def mxf (f : Nat → Int) : Nat → Int
  | 0 => f 0
  | k + 1 => max (mxf f k) (f (k + 1))
theorem mxf_le (f : Nat → Int) (T : Int) (k : Nat) (h : ∀ i, i ≤ k → f i ≤ T) : mxf f k ≤ T := by
  induction k with
  | zero => exact h 0 (by omega)
  | succ k ih => have := ih (fun i hi => h i (by omega)); have := h (k + 1) (by omega); unfold mxf; omega
theorem mxf_ge (f : Nat → Int) (k : Nat) : ∀ i, i ≤ k → f i ≤ mxf f k := by
  induction k with
  | zero => intro i hi; obtain rfl : i = 0 := by omega
            exact Int.le_refl _
  | succ k ih => intro i hi; unfold mxf; by_cases e : i = k + 1
                 · subst e; omega
                 · have := ih i (by omega); omega

set_option maxHeartbeats 2000000 in
set_option maxRecDepth 100000 in
theorem max_any (sb so n sc : Nat) (f : Nat → Int) (w : World) (hs : Smp w sb so n f) (h1 : 1 ≤ n) (hn : n ≤ 4194304) :
    Calls Tryd.prog 40 #[.slice (some ⟨sb, so, none⟩) n sc] w fun e w' => e = .returned (.int .u16 (mxf f (n - 1))) ∧ w' = w := by
  have z0 := hs 0 (by omega)
  have z0 : w.cell? ⟨sb, so, none⟩ = some (.int .u16 (f 0)) := z0
  have ix : (0 : Int) < n := by omega
  have i1 : ¬ (n : Int) < 1 := by omega
  have HS := Hid.mk hs
  clear hs
  go_enter Tryd.func40, Tryd.ntmps40
  go_wp2
  go_loop [3, 4] (fun m i => ∃ k : Nat, k < n ∧ i = .int .i64 ((k : Int) + 1) ∧ m = .int .u16 (mxf f k)) (fun _ i => n - (intOf i).toNat)
  case atStart => exact ⟨0, by omega, rfl, rfl⟩
  case round =>
    obtain ⟨k, hk, rfl, rfl⟩ := hrel
    by_cases hlt : k + 1 < n
    · have c := HS.out (k + 1) hlt
      have ix2 : (k : Int) + 1 < n := by omega
      obtain ⟨v, hv⟩ : ∃ v, f (k + 1) = v := ⟨_, rfl⟩
      rw [hv] at c
      have HV := Hid.mk hv
      obtain ⟨m, hm⟩ : ∃ m, mxf f k = m := ⟨_, rfl⟩
      have HM := Hid.mk hm
      rw [hm]
      clear hv hm
      go_wp2
      go_round
      case rel => exact ⟨k + 1, by omega, by go_num, by show _ = Value.int .u16 (max (mxf f k) (f (k + 1))); rw [HM.out, HV.out]⟩
      case measure => simp [intOf]; omega
    · have ix2 : ¬ (k : Int) + 1 < n := by omega
      go_wp2
      go_ret
      refine ⟨?_, rfl⟩
      rw [show n - 1 = k by omega]; rfl
theorem hi_zero {D T v : Int} (h : Dp D T) (h0 : 0 ≤ v) (h1 : v ≤ T) : (v / 2 ^ D.toNat == 0) = true := by
  rcases h with ⟨rfl, rfl⟩ | ⟨rfl, rfl⟩
  · rw [show Int.toNat 10 = 10 from rfl]; simp; omega
  · rw [show Int.toNat 12 = 12 from rfl]; simp; omega
theorem hi_some {D T v : Int} (h : Dp D T) (h1 : T < v) : (v / 2 ^ D.toNat == 0) = false := by
  rcases h with ⟨rfl, rfl⟩ | ⟨rfl, rfl⟩
  · rw [show Int.toNat 10 = 10 from rfl]; simp; omega
  · rw [show Int.toNat 12 = 12 from rfl]; simp; omega

theorem agg3' {w : World} {Q t : Nat} {a b c : Value} (h : w.heap[Q]? = some (.cells #[a, b, c] t (0, 0))) : w.cell? ⟨Q, 0, none⟩ = some a ∧ w.cell? ⟨Q, 1, none⟩ = some b ∧ w.cell? ⟨Q, 2, none⟩ = some c := by
  obtain ⟨h0, h1, h2, _⟩ := cells_three h
  exact ⟨h0, h1, h2⟩

set_option maxHeartbeats 2000000 in
set_option maxRecDepth 100000 in
/-- A block that may be. -/
theorem mayBe_yes (W H n sb so sc : Nat) (D T : Int) (f : Nat → Int) (w : World) (hs : Smp w sb so n f) (hz : szd (W : Int) (H : Int) = true) (hn : n = W * H) (hD : Dp D T) (hf : ∀ i, 0 ≤ f i ∧ f i ≤ T) :
    Calls Tryd.prog 22 #[.agg #[.int .i64 (W : Int), .int .i64 (H : Int), .slice (some ⟨sb, so, none⟩) n sc], .int .i64 D] w fun e w' => e = .returned (.bool true) ∧ Kept [] w w' := by
  have hb := szd_in hz
  have hc : (W : Int) * H = (n : Int) := by rw [hn]; simp
  rw [hc] at hb
  have hT : T ≤ 4095 := by rcases hD with ⟨_, h⟩ | ⟨_, h⟩ <;> omega
  have h1 : 1 ≤ n := by rw [hn]; exact Nat.mul_pos (by omega) (by omega)
  obtain ⟨w1, hw1, k1, b1⟩ := three_new w (.int .i64 (W : Int)) (.int .i64 (H : Int)) (.slice (some ⟨sb, so, none⟩) n sc) 24
  obtain ⟨Q, hQ⟩ : ∃ Q, w.heap.size = Q := ⟨_, rfl⟩
  rw [hQ] at b1
  obtain ⟨z0, z1, z2⟩ := agg3' b1
  have C1 := Hid.mk (fun W' => sized_any (W : Int) (H : Int) W')
  rw [hz] at C1
  have hm0 : 0 ≤ mxf f (n - 1) := Int.le_trans (hf 0).1 (mxf_ge f (n - 1) 0 (by omega))
  have hm1 : mxf f (n - 1) ≤ T := mxf_le f T (n - 1) (fun i _ => (hf i).2)
  have C2 := Hid.mk (max_any sb so n sc f w1 (hs.keep k1 (by simp)) h1 (by omega))
  generalize mxf f (n - 1) = m at *
  have hm2 := hi_zero hD hm0 hm1
  have hd := hD.mid
  have hx : wrap64 ((W : Int) * H) = (n : Int) := by rw [hc]; exact w64_in (by omega) (by omega)
  have K1 := Hid.mk k1
  clear hc hn b1 k1 hz hs hf hb hD
  go_enter Tryd.func22, Tryd.ntmps22
  go_wp2_with (first | (go_at_call 17; refine (C1.out _).mono ?_; rintro e w' ⟨rfl, hw⟩; obtain rfl := hw.symm) | (go_at_call 40; refine C2.out.mono ?_; rintro e w' ⟨rfl, hw⟩; obtain rfl := hw.symm))
  go_ret
  exact ⟨ret_bool (by first | exact hm2 | rfl), K1.out⟩
end Go.Proofs.YtahoeodpjdbdkabDoor

namespace Go.Proofs.YtahoeodpjdbdkabDoor
open Go.RowKit

theorem newm_any (D T d : Int) (hD : Dp D T) (w : World) (d0 : 0 ≤ d) (d1 : d ≤ 63) : Calls Tryd.prog 16 #[.int .i64 D, .int .i64 d] w fun e w' => ∃ P, e = .returned (.tuple #[.pointer (some ⟨P, 0, none⟩), .int .i64 0]) ∧ Md w' P T d (fun _ => sx0 T d) ∧ w.heap.size ≤ P ∧ Kept [] w w' := by
  rcases hD with ⟨rfl, rfl⟩ | ⟨rfl, rfl⟩
  · exact new1023 d w d0 d1
  · exact new4095 d w d0 d1
theorem Dp.gd {D T d : Int} (hD : Dp D T) (d0 : 0 ≤ d) (d1 : d ≤ 63) : Gd T d := ⟨by rcases hD with ⟨_, h⟩ | ⟨_, h⟩ <;> omega, d0, d1⟩

theorem results_tmp3 {fn : Func} {t u v : Tmp} (h : fn.results = #[.tmp t, .tmp u, .tmp v]) (tmps : Array Value) (P : Program) (w : World) :
    (results fn tmps).run P w = .ok (.tuple #[tmps.getD t undef, tmps.getD u undef, tmps.getD v undef]) w := by
  simp [results, h]

/-- The bytes of bits, and how many. -/
def nby (x : Nat × Nat) : Nat := (x.2 + 7) / 8
def byts (x : Nat × Nat) : List Nat := big (nby x) (x.1 * 2 ^ (8 * nby x - x.2))
abbrev xw (T d : Int) (W : Nat) (f : Nat → Int) (j : Nat) : Nat × Nat := wrt T d W (cE T d W f) (wk0 T d) j
abbrev sw (T d : Int) (W : Nat) (f : Nat → Int) (j : Nat) : Wk := stp T d W (cE T d W f) (wk0 T d) j

set_option maxHeartbeats 8000000 in
set_option maxRecDepth 1000000 in
/-- A block that may be, coded. -/
theorem encode_mid (W H n sb so sc : Nat) (D T d : Int) (f : Nat → Int) (w : World) (hs : Smp w sb so n f) (hT : Tab w) (hz : szd (W : Int) (H : Int) = true) (hn : n = W * H) (hD : Dp D T) (d0 : 0 ≤ d) (d1 : d ≤ 63) (hf : ∀ i, 0 ≤ f i ∧ f i ≤ T)
    (hc : ∀ j, Enc T d W n f j → (nby (xw T d W f j) : Int) < (rsz W H D).1) :
    Calls Tryd.prog 15 #[.agg #[.int .i64 (W : Int), .int .i64 (H : Int), .slice (some ⟨sb, so, none⟩) n sc], .int .i64 D, .int .i64 d] w fun e w' => ∃ j g G, Enc T d W n f j ∧ e = .returned (.tuple #[.slice (some ⟨g, 0, none⟩) (nby (xw T d W f j)) (nby (xw T d W f j)), .slice (some ⟨G, 0, none⟩) n n, .int .i64 0]) ∧ w.heap.size ≤ g ∧ w.heap.size ≤ G ∧ w'.heap[g]? = some (.cells ((byts (xw T d W f j)).map byt).toArray 5 (0, 0)) ∧ Smp w' G 0 n (sw T d W f j).b ∧ Kept [] w w' := by
  have hb := szd_in hz
  have hcst : (W : Int) * H = (n : Int) := by rw [hn]; simp
  rw [hcst] at hb
  have hG := hD.gd d0 d1
  have HC := Hid.mk hc
  have HN := Hid.mk hn
  have Hf := Hid.mk hf
  obtain ⟨w1, hw1, k1, b1⟩ := three_new w (.int .i64 (W : Int)) (.int .i64 (H : Int)) (.slice (some ⟨sb, so, none⟩) n sc) 24
  obtain ⟨Q, hQ⟩ : ∃ Q, w.heap.size = Q := ⟨_, rfl⟩
  have hQw := hQ
  rw [hQ] at b1
  have C1 := Hid.mk (newm_any D T d hD w1 d0 d1)
  have HT := Hid.mk hT
  have HS := Hid.mk hs
  have K1 := Hid.mk k1
  have B1 := Hid.mk b1
  have C8 := Hid.mk (fun W' => rawSize_any (W : Int) (H : Int) D W')
  have er : (rsz (W : Int) (H : Int) D).2 = 0 := by
    unfold rsz
    rw [if_neg (by rcases hD with ⟨h, _⟩ | ⟨h, _⟩ <;> omega), if_pos hz]
  rw [er] at C8
  obtain ⟨R, hR⟩ : ∃ R, (rsz (W : Int) (H : Int) D).1 = R := ⟨_, rfl⟩
  rw [hR] at C8 HC
  have HZ := Hid.mk hz
  have HD := Hid.mk hD
  obtain ⟨z0, z1, z2⟩ := agg3' b1
  clear hc hn hf hT hs k1 b1 er hR hz hcst hD
  go_enter Tryd.func15, Tryd.ntmps15
  go_wp2_with (fail)
  refine C1.out.mono ?_
  rintro e w2 ⟨P, rfl, m2, hP, k2⟩
  have B2 := Hid.mk (k2.heap B1.out (by simp))
  obtain ⟨y0, y1, y2⟩ := agg3' B2.out
  have K2 := Hid.mk k2
  have M2 := Hid.mk m2
  have HP := Hid.mk hP
  have C2 := Hid.mk (mayBe_yes W H n sb so sc D T f w2 (HS.out.keep (K1.out.trans K2.out) (by simp)) HZ.out HN.out HD.out Hf.out)
  clear k2 m2 hP z0 z1 z2 C1
  go_wp2_with (fail)
  refine C2.out.mono ?_
  rintro e w3 ⟨rfl, k3⟩
  have B3 := Hid.mk (k3.heap B2.out (by simp))
  obtain ⟨z0, z1, z2⟩ := agg3' B3.out
  have K3 := Hid.mk (K2.out.trans k3)
  have M3 := Hid.mk (M2.out.keep k3 (by simp))
  have C3 := Hid.mk (fun W' (hk : Kept [] w3 W') => (newWalk_any P W H n D W' (by omega) (by omega) HN.out.symm).mono (R' := fun e w' => ∃ X G, e = .returned (.agg (wc W D P X G n 0 []).toArray) ∧ Hid (CoderAt w' X 0 ∧ w'.heap[G]? = some (.cells (List.replicate n (.int .u16 0)).toArray 39 (0, 0)) ∧ w1.heap.size ≤ X ∧ w1.heap.size ≤ G ∧ Kept [] w3 w') ∧ w'.cell? ⟨Q, 0, none⟩ = some (.int .i64 (W : Int)) ∧ w'.cell? ⟨Q, 1, none⟩ = some (.int .i64 (H : Int)) ∧ w'.cell? ⟨Q, 2, none⟩ = some (.slice (some ⟨sb, so, none⟩) n sc)) (by
    rintro e w' ⟨X, G, rfl, a1, a2, a3, a4, a5⟩
    have hk' := hk.trans a5
    have hsz := (K3.out.trans hk).size
    exact ⟨X, G, rfl, Hid.mk ⟨a1, a2, Nat.le_trans hsz a3, Nat.le_trans hsz a4, hk'⟩, agg3' (hk'.heap B3.out (by simp))⟩))
  have C4 := Hid.mk (fun W' (hk : Kept [] w3 W') X G => (newCoder_any sb so n sc P X G W d D W').mono (R' := fun e w' => ∃ B O, e = .returned (.pointer (some ⟨B, 0, none⟩)) ∧ Hid (w'.heap[B]? = some (.cells (wc W D P X G n 0 (cext sb so n sc d O)).toArray 71 (0, 0)) ∧ WriterAt w' O (.slice none 0 0) 0 0 ∧ w1.heap.size ≤ B ∧ w1.heap.size ≤ O ∧ Kept [] W' w' ∧ Kept [] w3 w') ∧ w'.cell? ⟨Q, 0, none⟩ = some (.int .i64 (W : Int)) ∧ w'.cell? ⟨Q, 1, none⟩ = some (.int .i64 (H : Int)) ∧ w'.cell? ⟨Q, 2, none⟩ = some (.slice (some ⟨sb, so, none⟩) n sc)) (by
    rintro e w' ⟨B, O, rfl, a1, a2, a3, a4, a5⟩
    have hk' := hk.trans a5
    have hsz := (K3.out.trans hk).size
    exact ⟨B, O, rfl, Hid.mk ⟨a1, a2, Nat.le_trans hsz a3, Nat.le_trans hsz a4, a5, hk'⟩, agg3' (hk'.heap B3.out (by simp))⟩))
  clear k3 y0 y1 y2 C2
  go_wp2_with (fail)
  go_region_held_law (fun w' => w'.cell? ⟨Q, 0, none⟩ = some (.int .i64 (W : Int)) ∧ w'.cell? ⟨Q, 1, none⟩ = some (.int .i64 (H : Int)) ∧ w'.cell? ⟨Q, 2, none⟩ = some (.slice (some ⟨sb, so, none⟩) n sc)) (first | exact ⟨z0, z1, z2⟩ | exact ⟨t0, t1, t2⟩ | exact ⟨r0, r1, r2⟩ | go_keep) (first | (go_at_call 19; refine (C3.out _ (by with_reducible exact (Kept.refl _ _).drew)).mono ?_; rintro e w4 ⟨X, G, rfl, R4, t0, t1, t2⟩) | (go_at_call 23; refine (C4.out _ R4.out.2.2.2.2 X G).mono ?_; rintro e w5 ⟨B, O, rfl, R5, r0, r1, r2⟩))
  obtain ⟨a1, a2, a3, a4, a5⟩ := R4.out
  obtain ⟨b1, b2, b3, b4, b5, b6⟩ := R5.out
  have h5 : Cm w1 B P X G O T d D W n sb so sc f w5 (wk0 T d) (0, 0) := by
    refine ⟨⟨b1, M3.out.keep b6 (by simp), a1.kept b5 (by simp), ⟨_, b5.heap a2 (by simp), by simp, fun i hi => ?_⟩, .inl rfl⟩, ⟨_, b2, fun g hg => by simp [Value.ownBlock] at hg⟩, K3.out.trans b6, HS.out.keep K1.out (by simp), HT.out.kept K1.out (by simp), b3, HP.out, a3, a4, b4⟩
    have : i < 0 := hi
    omega
  have C5 := Hid.mk (write_any w1 B P X G O T d D W H n sb so sc f w5 hG HD.out (by omega) (by omega) (by omega) HN.out Hf.out h5 b2)
  clear a1 a2 a3 a4 a5 b1 b2 b3 b4 b5 b6 h5 R4 R5 C3 C4 t0 t1 t2 r0 r1 r2 z0 z1 z2
  go_wp2_with (fail)
  refine C5.out.mono ?_
  rintro e w6 ⟨j, g, hE, h6, hg, rfl, hb6⟩
  have B6 := Hid.mk (h6.keep.heap B1.out (by simp))
  obtain ⟨z0, z1, z2⟩ := agg3' B6.out
  have hlt := HC.out j hE
  have H6 := Hid.mk h6
  have HB6 := Hid.mk hb6
  have HE := Hid.mk hE
  have Hg := Hid.mk hg
  have c4 := h6.wm.fact.c4
  have Hrow := Hid.mk (fun i (hi : i < n) => h6.wm.cel i (by rw [hE.fin]; exact hi))
  have nb : ((wrt T d W (cE T d W f) (wk0 T d) j).snd + 7) / 8 = nby (xw T d W f j) := rfl
  rw [nb] at HB6 ⊢
  obtain ⟨L, hL⟩ : ∃ L, nby (xw T d W f j) = L := ⟨_, rfl⟩
  rw [hL] at hlt HB6 ⊢
  have HL := Hid.mk hL
  clear h6 hb6 hE hg C5 nb hL
  go_wp2_with (fail)
  refine (C8.out _).mono ?_
  rintro e w7 ⟨rfl, hw7⟩
  obtain rfl := hw7.symm
  clear C8 hw7
  go_wp2
  go_quiet (fail)
  go_wp2
  (try simp only [Exit.inBlock, Exit.then]); refine bodyPost_ret (results_tmp3 rfl _ _ _) rfl ?_
  have hlo := H6.out.lo
  have hs1 := K1.out.size
  refine ⟨j, g, G, HE.out, ?_, by have := Hg.out; omega, by omega, ?_, fun i hi => ?_, (K1.out.trans H6.out.keep).drewN _⟩
  · rw [HL.out]; rfl
  · unfold byts
    rw [HL.out]
    exact ((Kept.refl [] w6).drewN _).heap HB6.out (by simp)
  · rw [cell_drewN, Nat.zero_add]; exact Hrow.out i hi
end Go.Proofs.YtahoeodpjdbdkabDoor
