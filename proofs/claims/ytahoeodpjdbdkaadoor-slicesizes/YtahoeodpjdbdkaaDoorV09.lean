import Derived.Test.YtahoeodpjdbdkaaDoorV08
import Derived.Recover
namespace Go.Proofs.YtahoeodpjdbdkaaDoor
open Go.RowKit

/-- May a block have these sides? -/
def szd (w h : Int) : Bool := decide (1 ≤ w ∧ w ≤ 4096 ∧ 1 ≤ h ∧ h ≤ 4096 ∧ w * h ≤ 4194304)
theorem szd_in {w h : Int} (e : szd w h = true) : 1 ≤ w ∧ w ≤ 4096 ∧ 1 ≤ h ∧ h ≤ 4096 ∧ w * h ≤ 4194304 := by unfold szd at e; exact of_decide_eq_true e
def rsz (w h D : Int) : Int × Int := if D ≠ 10 ∧ D ≠ 12 then (0, 91) else if szd w h then (1 + (D * w * h + 7) / 8, 0) else (0, 101)

set_option maxHeartbeats 1000000 in
theorem sized_any (w h : Int) (W : World) : Calls Tryd.prog 16 #[.int .i64 w, .int .i64 h] W fun e W' => e = .returned (.bool (szd w h)) ∧ W' = W := by
  by_cases h1 : 1 ≤ w
  · by_cases h2 : w ≤ 4096
    · by_cases h3 : 1 ≤ h
      · by_cases h4 : h ≤ 4096
        · have p1 : 0 ≤ w * h := Int.mul_nonneg (by omega) (by omega)
          have p2 : w * h ≤ 4096 * 4096 := Int.mul_le_mul h2 h4 (by omega) (by omega)
          obtain ⟨m, hm⟩ : ∃ m, w * h = m := ⟨_, rfl⟩
          have hx : wrap64 (w * h) = m := (w64_in (by omega) (by omega)).trans hm
          have e : szd w h = decide (m ≤ 4194304) := by unfold szd; rw [hm]; simp [h1, h2, h3, h4]
          rw [e]
          clear e hm p1 p2
          go_enter Tryd.func16, Tryd.ntmps16
          go_wp2
          go_ret
          exact ⟨rfl, rfl⟩
        · have e : szd w h = false := by unfold szd; rw [decide_eq_false]; omega
          rw [e]
          go_enter Tryd.func16, Tryd.ntmps16
          go_wp2
          go_ret
          exact ⟨rfl, rfl⟩
      · have e : szd w h = false := by unfold szd; rw [decide_eq_false]; omega
        rw [e]
        go_enter Tryd.func16, Tryd.ntmps16
        go_wp2
        go_ret
        exact ⟨rfl, rfl⟩
    · have e : szd w h = false := by unfold szd; rw [decide_eq_false]; omega
      rw [e]
      go_enter Tryd.func16, Tryd.ntmps16
      go_wp2
      go_ret
      exact ⟨rfl, rfl⟩
  · have e : szd w h = false := by unfold szd; rw [decide_eq_false]; omega
    rw [e]
    go_enter Tryd.func16, Tryd.ntmps16
    go_wp2
    go_ret
    exact ⟨rfl, rfl⟩

set_option maxHeartbeats 2000000 in
theorem rawSize_any (w h D : Int) (W : World) : Calls Tryd.prog 8 #[.int .i64 w, .int .i64 h, .int .i64 D] W fun e W' => e = .returned (.tuple #[.int .i64 (rsz w h D).1, .int .i64 (rsz w h D).2]) ∧ W' = W := by
  by_cases hD : D = 10 ∨ D = 12
  · by_cases hs : szd w h = true
    · have e : rsz w h D = (1 + (D * w * h + 7) / 8, 0) := by unfold rsz; rw [if_neg (by omega), if_pos hs]
      rw [e]
      have C := Hid.mk (fun W => sized_any w h W)
      rw [hs] at C
      have hb := szd_in hs
      have p1 : 0 ≤ w * h := Int.mul_nonneg (by omega) (by omega)
      have p2 : D * w * h = D * (w * h) := Int.mul_assoc _ _ _
      obtain ⟨y, hy⟩ : ∃ y, D * w = y := ⟨_, rfl⟩
      obtain ⟨m, hm⟩ : ∃ m, y * h = m := ⟨_, rfl⟩
      have hyb : 0 ≤ y ∧ y ≤ 12 * 4096 := by rcases hD with rfl | rfl <;> omega
      have hmb : 0 ≤ m ∧ m ≤ 12 * 4194304 := by
        rw [← hm, ← hy, p2]
        generalize w * h = z at *
        rcases hD with rfl | rfl <;> omega
      have x1 : wrap64 (D * w) = y := by rw [hy]; exact w64_in (by omega) (by omega)
      have x2 : wrap64 (y * h) = m := by rw [hm]; exact w64_in (by omega) (by omega)
      rw [hy, hm]
      have d1 : (D != 10 && D != 12) = false := by rcases hD with rfl | rfl <;> rfl
      clear p1 p2 hy hm e hs hb
      rcases hD with rfl | rfl
      all_goals
        go_enter Tryd.func8, Tryd.ntmps8
        go_wp2_with (go_at_call 16; refine (C.out _).mono ?_; rintro e w' ⟨rfl, rfl⟩)
        go_ret2
        exact ⟨rfl, rfl⟩
    · have hs : szd w h = false := by simpa using hs
      have e : rsz w h D = (0, 101) := by unfold rsz; rw [if_neg (by omega), if_neg (by rw [hs]; decide)]
      rw [e]
      have C := Hid.mk (fun W => sized_any w h W)
      rw [hs] at C
      clear e hs
      rcases hD with rfl | rfl
      all_goals
        go_enter Tryd.func8, Tryd.ntmps8
        go_wp2_with (go_at_call 16; refine (C.out _).mono ?_; rintro e w' ⟨rfl, rfl⟩)
        go_ret2
        exact ⟨rfl, rfl⟩
  · have e : rsz w h D = (0, 91) := by unfold rsz; rw [if_pos (by omega)]
    rw [e]
    have d1 : (D != 10) = true := by simp; omega
    have d2 : (D != 12) = true := by simp; omega
    clear e hD
    go_enter Tryd.func8, Tryd.ntmps8
    go_wp2
    go_ret2
    exact ⟨rfl, rfl⟩

set_option maxHeartbeats 1000000 in
theorem sizedD_any (w h : Int) (W : World) : Calls Tryd.prog 17 #[.int .i64 w, .int .i64 h] W fun e W' => e = .returned (.bool (szd w h)) ∧ W' = W := by
  by_cases h1 : 1 ≤ w
  · by_cases h2 : w ≤ 4096
    · by_cases h3 : 1 ≤ h
      · by_cases h4 : h ≤ 4096
        · have p1 : 0 ≤ w * h := Int.mul_nonneg (by omega) (by omega)
          have p2 : w * h ≤ 4096 * 4096 := Int.mul_le_mul h2 h4 (by omega) (by omega)
          obtain ⟨m, hm⟩ : ∃ m, w * h = m := ⟨_, rfl⟩
          have hx : wrap64 (w * h) = m := (w64_in (by omega) (by omega)).trans hm
          have e : szd w h = decide (m ≤ 4194304) := by unfold szd; rw [hm]; simp [h1, h2, h3, h4]
          rw [e]
          clear e hm p1 p2
          go_enter Tryd.func17, Tryd.ntmps17
          go_wp2
          go_ret
          exact ⟨rfl, rfl⟩
        · have e : szd w h = false := by unfold szd; rw [decide_eq_false]; omega
          rw [e]
          go_enter Tryd.func17, Tryd.ntmps17
          go_wp2
          go_ret
          exact ⟨rfl, rfl⟩
      · have e : szd w h = false := by unfold szd; rw [decide_eq_false]; omega
        rw [e]
        go_enter Tryd.func17, Tryd.ntmps17
        go_wp2
        go_ret
        exact ⟨rfl, rfl⟩
    · have e : szd w h = false := by unfold szd; rw [decide_eq_false]; omega
      rw [e]
      go_enter Tryd.func17, Tryd.ntmps17
      go_wp2
      go_ret
      exact ⟨rfl, rfl⟩
  · have e : szd w h = false := by unfold szd; rw [decide_eq_false]; omega
    rw [e]
    go_enter Tryd.func17, Tryd.ntmps17
    go_wp2
    go_ret
    exact ⟨rfl, rfl⟩

set_option maxHeartbeats 2000000 in
theorem rawSizeD_any (w h D : Int) (W : World) : Calls Tryd.prog 9 #[.int .i64 w, .int .i64 h, .int .i64 D] W fun e W' => e = .returned (.tuple #[.int .i64 (rsz w h D).1, .int .i64 (rsz w h D).2]) ∧ W' = W := by
  by_cases hD : D = 10 ∨ D = 12
  · by_cases hs : szd w h = true
    · have e : rsz w h D = (1 + (D * w * h + 7) / 8, 0) := by unfold rsz; rw [if_neg (by omega), if_pos hs]
      rw [e]
      have C := Hid.mk (fun W => sizedD_any w h W)
      rw [hs] at C
      have hb := szd_in hs
      have p1 : 0 ≤ w * h := Int.mul_nonneg (by omega) (by omega)
      have p2 : D * w * h = D * (w * h) := Int.mul_assoc _ _ _
      obtain ⟨y, hy⟩ : ∃ y, D * w = y := ⟨_, rfl⟩
      obtain ⟨m, hm⟩ : ∃ m, y * h = m := ⟨_, rfl⟩
      have hyb : 0 ≤ y ∧ y ≤ 12 * 4096 := by rcases hD with rfl | rfl <;> omega
      have hmb : 0 ≤ m ∧ m ≤ 12 * 4194304 := by
        rw [← hm, ← hy, p2]
        generalize w * h = z at *
        rcases hD with rfl | rfl <;> omega
      have x1 : wrap64 (D * w) = y := by rw [hy]; exact w64_in (by omega) (by omega)
      have x2 : wrap64 (y * h) = m := by rw [hm]; exact w64_in (by omega) (by omega)
      rw [hy, hm]
      have d1 : (D != 10 && D != 12) = false := by rcases hD with rfl | rfl <;> rfl
      clear p1 p2 hy hm e hs hb
      rcases hD with rfl | rfl
      all_goals
        go_enter Tryd.func9, Tryd.ntmps9
        go_wp2_with (go_at_call 17; refine (C.out _).mono ?_; rintro e w' ⟨rfl, rfl⟩)
        go_ret2
        exact ⟨rfl, rfl⟩
    · have hs : szd w h = false := by simpa using hs
      have e : rsz w h D = (0, 101) := by unfold rsz; rw [if_neg (by omega), if_neg (by rw [hs]; decide)]
      rw [e]
      have C := Hid.mk (fun W => sizedD_any w h W)
      rw [hs] at C
      clear e hs
      rcases hD with rfl | rfl
      all_goals
        go_enter Tryd.func9, Tryd.ntmps9
        go_wp2_with (go_at_call 17; refine (C.out _).mono ?_; rintro e w' ⟨rfl, rfl⟩)
        go_ret2
        exact ⟨rfl, rfl⟩
  · have e : rsz w h D = (0, 91) := by unfold rsz; rw [if_pos (by omega)]
    rw [e]
    have d1 : (D != 10) = true := by simp; omega
    have d2 : (D != 12) = true := by simp; omega
    clear e hD
    go_enter Tryd.func9, Tryd.ntmps9
    go_wp2
    go_ret2
    exact ⟨rfl, rfl⟩
end Go.Proofs.YtahoeodpjdbdkaaDoor

namespace Go.Proofs.YtahoeodpjdbdkaaDoor
open Go.RowKit

/-- The greatest of the first samples. -/
def mxf (f : Nat → Int) : Nat → Int
  | 0 => f 0
  | k + 1 => max (mxf f k) (f (k + 1))
theorem mxf_le (f : Nat → Int) (T : Int) (k : Nat) (h : ∀ i, i ≤ k → f i ≤ T) : mxf f k ≤ T := by
  induction k with
  | zero => exact h 0 (by omega)
  | succ k ih => have := ih (fun i hi => h i (by omega)); have := h (k + 1) (by omega); unfold mxf; omega
theorem mxf_ge (f : Nat → Int) (k : Nat) : ∀ i, i ≤ k → f i ≤ mxf f k := by
  induction k with
  | zero => intro i hi; obtain rfl : i = 0 := by omega
            exact Int.le_refl _
  | succ k ih => intro i hi; unfold mxf; by_cases e : i = k + 1
                 · subst e; omega
                 · have := ih i (by omega); omega

set_option maxHeartbeats 2000000 in
set_option maxRecDepth 100000 in
theorem max_any (sb so n sc : Nat) (f : Nat → Int) (w : World) (hs : Smp w sb so n f) (h1 : 1 ≤ n) (hn : n ≤ 4194304) :
    Calls Tryd.prog 41 #[.slice (some ⟨sb, so, none⟩) n sc] w fun e w' => e = .returned (.int .u16 (mxf f (n - 1))) ∧ w' = w := by
  have z0 := hs 0 (by omega)
  have z0 : w.cell? ⟨sb, so, none⟩ = some (.int .u16 (f 0)) := z0
  have ix : (0 : Int) < n := by omega
  have i1 : ¬ (n : Int) < 1 := by omega
  have HS := Hid.mk hs
  clear hs
  go_enter Tryd.func41, Tryd.ntmps41
  go_wp2
  go_loop [3, 4] (fun m i => ∃ k : Nat, k < n ∧ i = .int .i64 ((k : Int) + 1) ∧ m = .int .u16 (mxf f k)) (fun _ i => n - (intOf i).toNat)
  case atStart => exact ⟨0, by omega, rfl, rfl⟩
  case round =>
    obtain ⟨k, hk, rfl, rfl⟩ := hrel
    by_cases hlt : k + 1 < n
    · have c := HS.out (k + 1) hlt
      have ix2 : (k : Int) + 1 < n := by omega
      obtain ⟨v, hv⟩ : ∃ v, f (k + 1) = v := ⟨_, rfl⟩
      rw [hv] at c
      have HV := Hid.mk hv
      obtain ⟨m, hm⟩ : ∃ m, mxf f k = m := ⟨_, rfl⟩
      have HM := Hid.mk hm
      rw [hm]
      clear hv hm
      go_wp2
      go_round
      case rel => exact ⟨k + 1, by omega, by go_num, by show _ = Value.int .u16 (max (mxf f k) (f (k + 1))); rw [HM.out, HV.out]⟩
      case measure => simp [intOf]; omega
    · have ix2 : ¬ (k : Int) + 1 < n := by omega
      go_wp2
      go_ret
      refine ⟨?_, rfl⟩
      rw [show n - 1 = k by omega]; rfl
theorem hi_zero {D T v : Int} (h : Dp D T) (h0 : 0 ≤ v) (h1 : v ≤ T) : (v / 2 ^ D.toNat == 0) = true := by
  rcases h with ⟨rfl, rfl⟩ | ⟨rfl, rfl⟩
  · rw [show Int.toNat 10 = 10 from rfl]; simp; omega
  · rw [show Int.toNat 12 = 12 from rfl]; simp; omega
theorem hi_some {D T v : Int} (h : Dp D T) (h1 : T < v) : (v / 2 ^ D.toNat == 0) = false := by
  rcases h with ⟨rfl, rfl⟩ | ⟨rfl, rfl⟩
  · rw [show Int.toNat 10 = 10 from rfl]; simp; omega
  · rw [show Int.toNat 12 = 12 from rfl]; simp; omega

theorem agg3' {w : World} {Q t : Nat} {a b c : Value} (h : w.heap[Q]? = some (.cells #[a, b, c] t (0, 0))) : w.cell? ⟨Q, 0, none⟩ = some a ∧ w.cell? ⟨Q, 1, none⟩ = some b ∧ w.cell? ⟨Q, 2, none⟩ = some c := by
  obtain ⟨h0, h1, h2, _⟩ := cells_three h
  exact ⟨h0, h1, h2⟩

set_option maxHeartbeats 2000000 in
set_option maxRecDepth 100000 in
/-- A block that may be. -/
theorem mayBe_yes (W H n sb so sc : Nat) (D T : Int) (f : Nat → Int) (w : World) (hs : Smp w sb so n f) (hz : szd (W : Int) (H : Int) = true) (hn : n = W * H) (hD : Dp D T) (hf : ∀ i, 0 ≤ f i ∧ f i ≤ T) :
    Calls Tryd.prog 24 #[.agg #[.int .i64 (W : Int), .int .i64 (H : Int), .slice (some ⟨sb, so, none⟩) n sc], .int .i64 D] w fun e w' => e = .returned (.bool true) ∧ Kept [] w w' := by
  have hb := szd_in hz
  have hc : (W : Int) * H = (n : Int) := by rw [hn]; simp
  rw [hc] at hb
  have hT : T ≤ 4095 := by rcases hD with ⟨_, h⟩ | ⟨_, h⟩ <;> omega
  have h1 : 1 ≤ n := by rw [hn]; exact Nat.mul_pos (by omega) (by omega)
  obtain ⟨w1, hw1, k1, b1⟩ := three_new w (.int .i64 (W : Int)) (.int .i64 (H : Int)) (.slice (some ⟨sb, so, none⟩) n sc) 29
  obtain ⟨Q, hQ⟩ : ∃ Q, w.heap.size = Q := ⟨_, rfl⟩
  rw [hQ] at b1
  obtain ⟨z0, z1, z2⟩ := agg3' b1
  have C1 := Hid.mk (fun W' => sized_any (W : Int) (H : Int) W')
  rw [hz] at C1
  have hm0 : 0 ≤ mxf f (n - 1) := Int.le_trans (hf 0).1 (mxf_ge f (n - 1) 0 (by omega))
  have hm1 : mxf f (n - 1) ≤ T := mxf_le f T (n - 1) (fun i _ => (hf i).2)
  have C2 := Hid.mk (max_any sb so n sc f w1 (hs.keep k1 (by simp)) h1 (by omega))
  generalize mxf f (n - 1) = m at *
  have hm2 := hi_zero hD hm0 hm1
  have hd := hD.mid
  have hx : wrap64 ((W : Int) * H) = (n : Int) := by rw [hc]; exact w64_in (by omega) (by omega)
  have K1 := Hid.mk k1
  clear hc hn b1 k1 hz hs hf hb hD
  go_enter Tryd.func24, Tryd.ntmps24
  go_wp2_with (first | (go_at_call 16; refine (C1.out _).mono ?_; rintro e w' ⟨rfl, hw⟩; obtain rfl := hw.symm) | (go_at_call 41; refine C2.out.mono ?_; rintro e w' ⟨rfl, hw⟩; obtain rfl := hw.symm))
  go_ret
  exact ⟨ret_bool (by first | exact hm2 | rfl), K1.out⟩
end Go.Proofs.YtahoeodpjdbdkaaDoor

namespace Go.Proofs.YtahoeodpjdbdkaaDoor
open Go.RowKit

theorem newm_any (D T d : Int) (hD : Dp D T) (w : World) (d0 : 0 ≤ d) (d1 : d ≤ 63) : Calls Tryd.prog 19 #[.int .i64 D, .int .i64 d] w fun e w' => ∃ P, e = .returned (.tuple #[.pointer (some ⟨P, 0, none⟩), .int .i64 0]) ∧ Md w' P T d (fun _ => sx0 T d) ∧ w.heap.size ≤ P ∧ Kept [] w w' := by
  rcases hD with ⟨rfl, rfl⟩ | ⟨rfl, rfl⟩
  · exact new1023 d w d0 d1
  · exact new4095 d w d0 d1
theorem Dp.gd {D T d : Int} (hD : Dp D T) (d0 : 0 ≤ d) (d1 : d ≤ 63) : Gd T d := ⟨by rcases hD with ⟨_, h⟩ | ⟨_, h⟩ <;> omega, d0, d1⟩

theorem results_tmp3 {fn : Func} {t u v : Tmp} (h : fn.results = #[.tmp t, .tmp u, .tmp v]) (tmps : Array Value) (P : Program) (w : World) :
    (results fn tmps).run P w = .ok (.tuple #[tmps.getD t undef, tmps.getD u undef, tmps.getD v undef]) w := by
  simp [results, h]

/-- The bytes of bits, and how many. -/
def nby (x : Nat × Nat) : Nat := (x.2 + 7) / 8
def byts (x : Nat × Nat) : List Nat := big (nby x) (x.1 * 2 ^ (8 * nby x - x.2))
abbrev xw (T d : Int) (W : Nat) (f : Nat → Int) (j : Nat) : Nat × Nat := wrt T d W (cE T d W f) (wk0 T d) j
abbrev sw (T d : Int) (W : Nat) (f : Nat → Int) (j : Nat) : Wk := stp T d W (cE T d W f) (wk0 T d) j

set_option maxHeartbeats 8000000 in
set_option maxRecDepth 1000000 in
/-- A block that may be, coded. -/
theorem encode_mid (W H n sb so sc : Nat) (D T d : Int) (f : Nat → Int) (w : World) (hs : Smp w sb so n f) (hT : Tab w) (hz : szd (W : Int) (H : Int) = true) (hn : n = W * H) (hD : Dp D T) (d0 : 0 ≤ d) (d1 : d ≤ 63) (hf : ∀ i, 0 ≤ f i ∧ f i ≤ T)
    (hc : ∀ j, Enc T d W n f j → (nby (xw T d W f j) : Int) < (rsz W H D).1) :
    Calls Tryd.prog 18 #[.agg #[.int .i64 (W : Int), .int .i64 (H : Int), .slice (some ⟨sb, so, none⟩) n sc], .int .i64 D, .int .i64 d] w fun e w' => ∃ j g G, Enc T d W n f j ∧ e = .returned (.tuple #[.slice (some ⟨g, 0, none⟩) (nby (xw T d W f j)) (nby (xw T d W f j)), .slice (some ⟨G, 0, none⟩) n n, .int .i64 0]) ∧ w.heap.size ≤ g ∧ w.heap.size ≤ G ∧ w'.heap[g]? = some (.cells ((byts (xw T d W f j)).map byt).toArray 5 (0, 0)) ∧ Smp w' G 0 n (sw T d W f j).b ∧ Kept [] w w' := by
  have hb := szd_in hz
  have hcst : (W : Int) * H = (n : Int) := by rw [hn]; simp
  rw [hcst] at hb
  have hG := hD.gd d0 d1
  have HC := Hid.mk hc
  have HN := Hid.mk hn
  have Hf := Hid.mk hf
  obtain ⟨w1, hw1, k1, b1⟩ := three_new w (.int .i64 (W : Int)) (.int .i64 (H : Int)) (.slice (some ⟨sb, so, none⟩) n sc) 29
  obtain ⟨Q, hQ⟩ : ∃ Q, w.heap.size = Q := ⟨_, rfl⟩
  have hQw := hQ
  rw [hQ] at b1
  have C1 := Hid.mk (newm_any D T d hD w1 d0 d1)
  have HT := Hid.mk hT
  have HS := Hid.mk hs
  have K1 := Hid.mk k1
  have B1 := Hid.mk b1
  have C8 := Hid.mk (fun W' => rawSize_any (W : Int) (H : Int) D W')
  have er : (rsz (W : Int) (H : Int) D).2 = 0 := by
    unfold rsz
    rw [if_neg (by rcases hD with ⟨h, _⟩ | ⟨h, _⟩ <;> omega), if_pos hz]
  rw [er] at C8
  obtain ⟨R, hR⟩ : ∃ R, (rsz (W : Int) (H : Int) D).1 = R := ⟨_, rfl⟩
  rw [hR] at C8 HC
  have HZ := Hid.mk hz
  have HD := Hid.mk hD
  obtain ⟨z0, z1, z2⟩ := agg3' b1
  clear hc hn hf hT hs k1 b1 er hR hz hcst hD
  go_enter Tryd.func18, Tryd.ntmps18
  go_wp2_with (fail)
  refine C1.out.mono ?_
  rintro e w2 ⟨P, rfl, m2, hP, k2⟩
  have B2 := Hid.mk (k2.heap B1.out (by simp))
  obtain ⟨y0, y1, y2⟩ := agg3' B2.out
  have K2 := Hid.mk k2
  have M2 := Hid.mk m2
  have HP := Hid.mk hP
  have C2 := Hid.mk (mayBe_yes W H n sb so sc D T f w2 (HS.out.keep (K1.out.trans K2.out) (by simp)) HZ.out HN.out HD.out Hf.out)
  clear k2 m2 hP z0 z1 z2 C1
  go_wp2_with (fail)
  refine C2.out.mono ?_
  rintro e w3 ⟨rfl, k3⟩
  have B3 := Hid.mk (k3.heap B2.out (by simp))
  obtain ⟨z0, z1, z2⟩ := agg3' B3.out
  have K3 := Hid.mk (K2.out.trans k3)
  have M3 := Hid.mk (M2.out.keep k3 (by simp))
  have C3 := Hid.mk (fun W' (hk : Kept [] w3 W') => (newWalk_any P W H n D W' (by omega) (by omega) HN.out.symm).mono (R' := fun e w' => ∃ X G, e = .returned (.agg (wc W D P X G n 0 []).toArray) ∧ Hid (CoderAt w' X 0 ∧ w'.heap[G]? = some (.cells (List.replicate n (.int .u16 0)).toArray 41 (0, 0)) ∧ w1.heap.size ≤ X ∧ w1.heap.size ≤ G ∧ Kept [] w3 w') ∧ w'.cell? ⟨Q, 0, none⟩ = some (.int .i64 (W : Int)) ∧ w'.cell? ⟨Q, 1, none⟩ = some (.int .i64 (H : Int)) ∧ w'.cell? ⟨Q, 2, none⟩ = some (.slice (some ⟨sb, so, none⟩) n sc)) (by
    rintro e w' ⟨X, G, rfl, a1, a2, a3, a4, a5⟩
    have hk' := hk.trans a5
    have hsz := (K3.out.trans hk).size
    exact ⟨X, G, rfl, Hid.mk ⟨a1, a2, Nat.le_trans hsz a3, Nat.le_trans hsz a4, hk'⟩, agg3' (hk'.heap B3.out (by simp))⟩))
  have C4 := Hid.mk (fun W' (hk : Kept [] w3 W') X G => (newCoder_any sb so n sc P X G W d D W').mono (R' := fun e w' => ∃ B O, e = .returned (.pointer (some ⟨B, 0, none⟩)) ∧ Hid (w'.heap[B]? = some (.cells (wc W D P X G n 0 (cext sb so n sc d O)).toArray 65 (0, 0)) ∧ WriterAt w' O (.slice none 0 0) 0 0 ∧ w1.heap.size ≤ B ∧ w1.heap.size ≤ O ∧ Kept [] W' w' ∧ Kept [] w3 w') ∧ w'.cell? ⟨Q, 0, none⟩ = some (.int .i64 (W : Int)) ∧ w'.cell? ⟨Q, 1, none⟩ = some (.int .i64 (H : Int)) ∧ w'.cell? ⟨Q, 2, none⟩ = some (.slice (some ⟨sb, so, none⟩) n sc)) (by
    rintro e w' ⟨B, O, rfl, a1, a2, a3, a4, a5⟩
    have hk' := hk.trans a5
    have hsz := (K3.out.trans hk).size
    exact ⟨B, O, rfl, Hid.mk ⟨a1, a2, Nat.le_trans hsz a3, Nat.le_trans hsz a4, a5, hk'⟩, agg3' (hk'.heap B3.out (by simp))⟩))
  clear k3 y0 y1 y2 C2
  go_wp2_with (fail)
  go_region_held_law (fun w' => w'.cell? ⟨Q, 0, none⟩ = some (.int .i64 (W : Int)) ∧ w'.cell? ⟨Q, 1, none⟩ = some (.int .i64 (H : Int)) ∧ w'.cell? ⟨Q, 2, none⟩ = some (.slice (some ⟨sb, so, none⟩) n sc)) (first | exact ⟨z0, z1, z2⟩ | exact ⟨t0, t1, t2⟩ | exact ⟨r0, r1, r2⟩ | go_keep) (first | (go_at_call 21; refine (C3.out _ (by with_reducible exact (Kept.refl _ _).drew)).mono ?_; rintro e w4 ⟨X, G, rfl, R4, t0, t1, t2⟩) | (go_at_call 25; refine (C4.out _ R4.out.2.2.2.2 X G).mono ?_; rintro e w5 ⟨B, O, rfl, R5, r0, r1, r2⟩))
  obtain ⟨a1, a2, a3, a4, a5⟩ := R4.out
  obtain ⟨b1, b2, b3, b4, b5, b6⟩ := R5.out
  have h5 : Cm w1 B P X G O T d D W n sb so sc f w5 (wk0 T d) (0, 0) := by
    refine ⟨⟨b1, M3.out.keep b6 (by simp), a1.kept b5 (by simp), ⟨_, b5.heap a2 (by simp), by simp, fun i hi => ?_⟩, .inl rfl⟩, ⟨_, b2, fun g hg => by simp [Value.ownBlock] at hg⟩, K3.out.trans b6, HS.out.keep K1.out (by simp), HT.out.kept K1.out (by simp), b3, HP.out, a3, a4, b4⟩
    have : i < 0 := hi
    omega
  have C5 := Hid.mk (write_any w1 B P X G O T d D W H n sb so sc f w5 hG HD.out (by omega) (by omega) (by omega) HN.out Hf.out h5 b2)
  clear a1 a2 a3 a4 a5 b1 b2 b3 b4 b5 b6 h5 R4 R5 C3 C4 t0 t1 t2 r0 r1 r2 z0 z1 z2
  go_wp2_with (fail)
  refine C5.out.mono ?_
  rintro e w6 ⟨j, g, hE, h6, hg, rfl, hb6⟩
  have B6 := Hid.mk (h6.keep.heap B1.out (by simp))
  obtain ⟨z0, z1, z2⟩ := agg3' B6.out
  have hlt := HC.out j hE
  have H6 := Hid.mk h6
  have HB6 := Hid.mk hb6
  have HE := Hid.mk hE
  have Hg := Hid.mk hg
  have c4 := h6.wm.fact.c4
  have Hrow := Hid.mk (fun i (hi : i < n) => h6.wm.cel i (by rw [hE.fin]; exact hi))
  have nb : ((wrt T d W (cE T d W f) (wk0 T d) j).snd + 7) / 8 = nby (xw T d W f j) := rfl
  rw [nb] at HB6 ⊢
  obtain ⟨L, hL⟩ : ∃ L, nby (xw T d W f j) = L := ⟨_, rfl⟩
  rw [hL] at hlt HB6 ⊢
  have HL := Hid.mk hL
  clear h6 hb6 hE hg C5 nb hL
  go_wp2_with (fail)
  refine (C8.out _).mono ?_
  rintro e w7 ⟨rfl, hw7⟩
  obtain rfl := hw7.symm
  clear C8 hw7
  go_wp2
  go_quiet (fail)
  go_wp2
  (try simp only [Exit.inBlock, Exit.then]); refine bodyPost_ret (results_tmp3 rfl _ _ _) rfl ?_
  have hlo := H6.out.lo
  have hs1 := K1.out.size
  refine ⟨j, g, G, HE.out, ?_, by have := Hg.out; omega, by omega, ?_, fun i hi => ?_, (K1.out.trans H6.out.keep).drewN _⟩
  · rw [HL.out]; rfl
  · unfold byts
    rw [HL.out]
    exact ((Kept.refl [] w6).drewN _).heap HB6.out (by simp)
  · rw [cell_drewN, Nat.zero_add]; exact Hrow.out i hi
end Go.Proofs.YtahoeodpjdbdkaaDoor

namespace Go.Proofs.YtahoeodpjdbdkaaDoor
open Go.RowKit

/-- What is read is one. -/
theorem numRes_one {l : List Nat} {t k wide : Nat} {X E X2 E2 : Int} {t' t2 : Nat} (h : NumRes l t k wide X E t') (h2 : NumRes l t k wide X2 E2 t2) : X = X2 ∧ E = E2 ∧ t' = t2 := by
  rcases numRes_ok h with ⟨rfl, v, rfl, hv, rfl, hle, hb⟩ | ⟨hE, rfl⟩
  · obtain ⟨rfl, rfl, rfl⟩ := numRes_form h2 hv hle hb
    exact ⟨rfl, rfl, rfl⟩
  · rcases numRes_ok h2 with ⟨rfl, v, rfl, hv, rfl, hle, hb⟩ | ⟨hE2, rfl⟩
    · obtain ⟨rfl, rfl, e3⟩ := numRes_form h hv hle hb
      rcases hE with h | h <;> cases h
    · obtain ⟨rfl, _⟩ := numRes_err h (by rcases hE with h | h <;> rw [h] <;> decide)
      obtain ⟨rfl, _⟩ := numRes_err h2 (by rcases hE2 with h | h <;> rw [h] <;> decide)
      refine ⟨rfl, ?_, rfl⟩
      rcases h with ⟨_, _, _, _, _, _, _, h, _⟩ | ⟨_, _, _, _, h, _⟩ | ⟨_, _, h, hc⟩ | ⟨_, _, h, hc⟩
      · rw [h] at hE; rcases hE with h | h <;> cases h
      · rw [h] at hE; rcases hE with h | h <;> cases h
      · rcases h2 with ⟨_, _, _, _, _, _, _, g, _⟩ | ⟨_, _, _, _, g, _⟩ | ⟨_, _, g, _⟩ | ⟨_, _, g, gc⟩
        · rw [g] at hE2; rcases hE2 with h | h <;> cases h
        · rw [g] at hE2; rcases hE2 with h | h <;> cases h
        · rw [h, g]
        · exfalso
          rcases hc with ⟨u, hu, z, o, h3, h4⟩ | ⟨z, h3, h4⟩ | ⟨h3, z⟩
          · rcases gc with ⟨u2, hu2, z2, o2, g3, _⟩ | ⟨z2, g3, _⟩
            · obtain rfl := first_one z o z2 o2; omega
            · have := z2 u hu; omega
          · rcases gc with ⟨u2, hu2, z2, o2, g3, _⟩ | ⟨z2, g3, _⟩
            · have := z u2 hu2; omega
            · omega
          · rcases gc with ⟨u2, hu2, z2, o2, g3, _⟩ | ⟨z2, g3, _⟩
            · have := z u2 (by omega); omega
            · omega
      · rcases h2 with ⟨_, _, _, _, _, _, _, g, _⟩ | ⟨_, _, _, _, g, _⟩ | ⟨_, _, g, gc⟩ | ⟨_, _, g, _⟩
        · rw [g] at hE2; rcases hE2 with h | h <;> cases h
        · rw [g] at hE2; rcases hE2 with h | h <;> cases h
        · exfalso
          rcases gc with ⟨u, hu, z, o, h3, h4⟩ | ⟨z, h3, h4⟩ | ⟨h3, z⟩
          · rcases hc with ⟨u2, hu2, z2, o2, g3, _⟩ | ⟨z2, g3, _⟩
            · obtain rfl := first_one z o z2 o2; omega
            · have := z2 u hu; omega
          · rcases hc with ⟨u2, hu2, z2, o2, g3, _⟩ | ⟨z2, g3, _⟩
            · have := z u2 hu2; omega
            · omega
          · rcases hc with ⟨u2, hu2, z2, o2, g3, _⟩ | ⟨z2, g3, _⟩
            · have := z u2 (by omega); omega
            · omega
        · rw [h, g]

/-- There is always something that Get comes to. -/
theorem numRes_ex (l : List Nat) (t k wide : Nat) (ht : t ≤ 8 * l.length) : ∃ X E t', NumRes l t k wide X E t' := by
  have hz : ∃ u, u ≤ 24 ∧ t + u ≤ 8 * l.length ∧ (∀ i, i < u → nextN l (t + i) 1 = 0) ∧ (u = 24 ∨ t + u = 8 * l.length ∨ nextN l (t + u) 1 = 1) := by
    have go : ∀ n, n ≤ 24 → ∃ u, u ≤ n ∧ t + u ≤ 8 * l.length ∧ (∀ i, i < u → nextN l (t + i) 1 = 0) ∧ (u = n ∨ t + u = 8 * l.length ∨ nextN l (t + u) 1 = 1) := by
      intro n
      induction n with
      | zero => intro _; exact ⟨0, Nat.le_refl _, by omega, fun i hi => by omega, .inl rfl⟩
      | succ n ih =>
        intro hn
        obtain ⟨u, h1, h2, h3, h4⟩ := ih (by omega)
        rcases h4 with rfl | h4
        · by_cases he : t + u = 8 * l.length
          · exact ⟨u, by omega, h2, h3, .inr (.inl he)⟩
          · have hb := bit_lt l (t + u)
            by_cases h0 : nextN l (t + u) 1 = 0
            · refine ⟨u + 1, by omega, by omega, fun i hi => ?_, .inl rfl⟩
              by_cases e : i = u
              · subst e; exact h0
              · exact h3 i (by omega)
            · exact ⟨u, by omega, h2, h3, .inr (.inr (by omega))⟩
        · exact ⟨u, by omega, h2, h3, .inr h4⟩
    exact go 24 (Nat.le_refl _)
  obtain ⟨u, h1, h2, h3, h4⟩ := hz
  by_cases h24 : u = 24
  · subst h24
    by_cases hend : t + 24 + wide ≤ 8 * l.length
    · by_cases hf : nextN l (t + 24) wide / 2 ^ k < 24
      · exact ⟨_, _, _, .inr (.inr (.inr ⟨rfl, rfl, rfl, .inr ⟨h3, hend, hf⟩⟩))⟩
      · exact ⟨_, _, _, .inr (.inl ⟨h3, hend, by omega, rfl, rfl, rfl⟩)⟩
    · exact ⟨_, _, _, .inr (.inr (.inl ⟨rfl, rfl, rfl, .inr (.inl ⟨h3, h2, by omega⟩)⟩))⟩
  · rcases h4 with h4 | h4 | h4
    · exact absurd h4 h24
    · exact ⟨_, _, _, .inr (.inr (.inl ⟨rfl, rfl, rfl, .inr (.inr ⟨by omega, fun i hi => h3 i (by omega)⟩)⟩))⟩
    · by_cases he : t + u = 8 * l.length
      · exact ⟨_, _, _, .inr (.inr (.inl ⟨rfl, rfl, rfl, .inr (.inr ⟨by omega, fun i hi => h3 i (by omega)⟩)⟩))⟩
      · by_cases hend : t + u + 1 + k ≤ 8 * l.length
        · by_cases hf : u * 2 ^ k + nextN l (t + u + 1) k < 2 ^ wide
          · exact ⟨_, _, _, .inl ⟨u, by omega, h3, h4, hend, hf, rfl, rfl, rfl⟩⟩
          · exact ⟨_, _, _, .inr (.inr (.inr ⟨rfl, rfl, rfl, .inl ⟨u, by omega, h3, h4, hend, by omega⟩⟩))⟩
        · exact ⟨_, _, _, .inr (.inr (.inl ⟨rfl, rfl, rfl, .inl ⟨u, by omega, h3, h4, by omega, by omega⟩⟩))⟩

/-- What is read of a run is one. -/
theorem runRes_one {l : List Nat} {t r room : Nat} {X E X2 E2 : Int} {t' t2 r' r2 : Nat} (h : RunRes l t r room X E t' r') (h2 : RunRes l t r room X2 E2 t2 r2) : X = X2 ∧ E = E2 ∧ t' = t2 ∧ r' = r2 := by
  rcases runRes_ok h with ⟨rfl, n, rfl, hn, rfl, hle, rfl, hb⟩ | ⟨hE, rfl, rfl⟩
  · obtain ⟨rfl, rfl, rfl, rfl⟩ := runRes_form h2 hn hle hb
    exact ⟨rfl, rfl, rfl, rfl⟩
  · rcases runRes_ok h2 with ⟨rfl, n, rfl, hn, rfl, hle, rfl, hb⟩ | ⟨hE2, rfl, rfl⟩
    · obtain ⟨rfl, rfl, e3, e4⟩ := runRes_form h hn hle hb
      rcases hE with h | h <;> cases h
    · obtain ⟨rfl, _⟩ := runRes_err h (by rcases hE with h | h <;> rw [h] <;> decide)
      obtain ⟨rfl, _⟩ := runRes_err h2 (by rcases hE2 with h | h <;> rw [h] <;> decide)
      refine ⟨rfl, ?_, rfl, rfl⟩
      obtain ⟨i, ho, hS, hti, hc⟩ := h
      obtain ⟨j, go, gS, gti, gc⟩ := h2
      rcases hE with rfl | rfl
      · rcases hE2 with rfl | rfl
        · rfl
        · exfalso
          rcases hc with ⟨_, _, h, _⟩ | ⟨_, _, _, _, _, h, _⟩ | ⟨_, _, _, _, _, _, h, _⟩ | ⟨_, _, _, _, _, hc⟩ | ⟨_, _, _, _, _, h, _⟩
          · cases h
          · cases h
          · cases h
          · rcases gc with ⟨_, _, h, _⟩ | ⟨_, _, _, _, _, h, _⟩ | ⟨_, _, _, _, _, _, h, _⟩ | ⟨_, _, _, _, h, _⟩ | ⟨_, g1, _, _, _, _, g2, g3, g4⟩
            · cases h
            · cases h
            · cases h
            · cases h
            · rcases hc with hc | ⟨h1, h2, h3⟩
              · rcases Nat.lt_trichotomy i j with e | e | e
                · omega
                · omega
                · have := ho j e; omega
              · rcases Nat.lt_trichotomy i j with e | e | e
                · have := go i e; omega
                · subst e; omega
                · have := ho j e; omega
          · cases h
      · rcases hE2 with rfl | rfl
        · exfalso
          rcases gc with ⟨_, _, h, _⟩ | ⟨_, _, _, _, _, h, _⟩ | ⟨_, _, _, _, _, _, h, _⟩ | ⟨_, _, _, _, _, gc⟩ | ⟨_, _, _, _, _, h, _⟩
          · cases h
          · cases h
          · cases h
          · rcases hc with ⟨_, _, h, _⟩ | ⟨_, _, _, _, _, h, _⟩ | ⟨_, _, _, _, _, _, h, _⟩ | ⟨_, _, _, _, h, _⟩ | ⟨_, g1, _, _, _, _, g2, g3, g4⟩
            · cases h
            · cases h
            · cases h
            · cases h
            · rcases gc with gc | ⟨h1, h2, h3⟩
              · rcases Nat.lt_trichotomy i j with e | e | e
                · have := go i e; omega
                · omega
                · omega
              · rcases Nat.lt_trichotomy i j with e | e | e
                · have := go i e; omega
                · subst e; omega
                · have := ho j e; omega
          · cases h
        · rfl

/-- There is always something that Get of a run comes to. -/
theorem runRes_ex (l : List Nat) (t r room : Nat) (ht : t ≤ 8 * l.length) : ∃ X E t' r', RunRes l t r room X E t' r' := by
  have go : ∀ n, ∃ i, i ≤ n ∧ (∀ a, a < i → nextN l (t + a) 1 = 1) ∧ S r i ≤ room ∧ t + i ≤ 8 * l.length ∧ (i = n ∨ S r i = room ∨ t + i = 8 * l.length ∨ nextN l (t + i) 1 = 0 ∨ room < S r (i + 1)) := by
    intro n
    induction n with
    | zero => exact ⟨0, Nat.le_refl _, fun a ha => by omega, Nat.zero_le _, by omega, .inl rfl⟩
    | succ n ih =>
      obtain ⟨i, h1, h2, h3, h4, h5⟩ := ih
      rcases h5 with rfl | h5
      · by_cases e1 : S r i = room
        · exact ⟨i, by omega, h2, h3, h4, .inr (.inl e1)⟩
        · by_cases e2 : t + i = 8 * l.length
          · exact ⟨i, by omega, h2, h3, h4, .inr (.inr (.inl e2))⟩
          · have hb := bit_lt l (t + i)
            by_cases e3 : nextN l (t + i) 1 = 0
            · exact ⟨i, by omega, h2, h3, h4, .inr (.inr (.inr (.inl e3)))⟩
            · by_cases e4 : room < S r (i + 1)
              · exact ⟨i, by omega, h2, h3, h4, .inr (.inr (.inr (.inr e4)))⟩
              · refine ⟨i + 1, Nat.le_refl _, fun a ha => ?_, by omega, by omega, .inl rfl⟩
                by_cases e : a = i
                · subst e; omega
                · exact h2 a (by omega)
      · exact ⟨i, by omega, h2, h3, h4, .inr h5⟩
  obtain ⟨i, _, h2, h3, h4, h5⟩ := go (room + 1)
  by_cases e1 : S r i = room
  · exact ⟨_, _, _, _, i, h2, h3, h4, .inl ⟨e1, rfl, rfl, rfl, rfl⟩⟩
  · have e1' : S r i < room := by omega
    by_cases e2 : t + i = 8 * l.length
    · exact ⟨_, _, _, _, i, h2, h3, h4, .inr (.inr (.inr (.inl ⟨e1', rfl, rfl, rfl, rfl, .inl e2⟩)))⟩
    · have hb := bit_lt l (t + i)
      by_cases e3 : nextN l (t + i) 1 = 0
      · by_cases e5 : t + i + 1 + J (ri r i) ≤ 8 * l.length
        · by_cases e6 : S r i + nextN l (t + i + 1) (J (ri r i)) < room
          · exact ⟨_, _, _, _, i, h2, h3, h4, .inr (.inr (.inl ⟨e1', by omega, e3, e5, e6, rfl, rfl, rfl, rfl⟩))⟩
          · exact ⟨_, _, _, _, i, h2, h3, h4, .inr (.inr (.inr (.inr ⟨e1', by omega, rfl, rfl, rfl, rfl, e3, e5, by omega⟩)))⟩
        · exact ⟨_, _, _, _, i, h2, h3, h4, .inr (.inr (.inr (.inl ⟨e1', rfl, rfl, rfl, rfl, .inr ⟨by omega, e3, by omega⟩⟩)))⟩
      · have e3' : nextN l (t + i) 1 = 1 := by omega
        have e4 : room < S r (i + 1) := by
          rcases h5 with h5 | h5 | h5 | h5 | h5
          · have := S_ge r i; omega
          · exact absurd h5 e1
          · exact absurd h5 e2
          · exact absurd h5 e3
          · exact h5
        exact ⟨_, _, _, _, i, h2, h3, h4, .inr (.inl ⟨e1', by omega, e3', e4, rfl, rfl, rfl, rfl⟩)⟩
end Go.Proofs.YtahoeodpjdbdkaaDoor

namespace Go.Proofs.YtahoeodpjdbdkaaDoor
open Go.RowKit

/-- The panic with an error's number. -/
abbrev pnc (n : Int) : List PanicEntry := [{ v := .iface 23 (.int .i64 n), recovered := false }]

set_option maxHeartbeats 1000000 in
theorem taken_ok (v : Int) (w : World) :
    Calls Tryd.prog 54 #[.int .i64 v, .int .i64 0] w fun e w' => e = .returned (.int .i64 v) ∧ w' = w := by
  go_enter Tryd.func54, Tryd.ntmps54
  go_wp2
  go_ret
  exact ⟨rfl, rfl⟩
set_option maxHeartbeats 1000000 in
theorem taken_no (v E : Int) (w : World) (h : ¬ E = 0) :
    Calls Tryd.prog 54 #[.int .i64 v, .int .i64 E] w fun e w' => e = .panicked (pnc 102) ∧ w' = w := by
  go_enter Tryd.func54, Tryd.ntmps54
  go_wp2
  exact bodyPost_panic rfl ⟨rfl, rfl⟩
set_option maxHeartbeats 1000000 in
theorem takenU_ok (v : Int) (w : World) :
    Calls Tryd.prog 34 #[.int .u32 v, .int .i64 0] w fun e w' => e = .returned (.int .u32 v) ∧ w' = w := by
  go_enter Tryd.func34, Tryd.ntmps34
  go_wp2
  go_ret
  exact ⟨rfl, rfl⟩
set_option maxHeartbeats 1000000 in
theorem takenU_no (v E : Int) (w : World) (h : ¬ E = 0) :
    Calls Tryd.prog 34 #[.int .u32 v, .int .i64 E] w fun e w' => e = .panicked (pnc 102) ∧ w' = w := by
  go_enter Tryd.func34, Tryd.ntmps34
  go_wp2
  exact bodyPost_panic rfl ⟨rfl, rfl⟩

abbrev dext (O : Nat) : List Value := [.pointer (some ⟨O, 0, none⟩)]
/-- A decoder in memory. -/
structure Dm (w0 : World) (B P X G O g : Nat) (T d D : Int) (W n : Nat) (l : List Nat) (w : World) (s : Wk) (t : Nat) : Prop where
  wm : Wm w B P X G 57 T d D W n (dext O) s
  rd : ReaderAt w O g l t
  keep : Kept [] w0 w
  tab : Tab w0
  lo : w0.heap.size ≤ B ∧ w0.heap.size ≤ P ∧ w0.heap.size ≤ X ∧ w0.heap.size ≤ G ∧ w0.heap.size ≤ O ∧ w0.heap.size ≤ g

theorem dext_cell {w : World} {B P X G : Nat} {T d D : Int} {W n O : Nat} {s : Wk} (h : Wm w B P X G 57 T d D W n (dext O) s) : w.cell? ⟨B, 6, none⟩ = some (.pointer (some ⟨O, 0, none⟩)) := by
  have hb := h.blk
  simp [World.cell?, hb]
theorem Dm.kp {w0 : World} {B P X G O g : Nat} {T d D : Int} {W n : Nat} {l : List Nat} {w w' : World} {s : Wk} {t : Nat} (h : Dm w0 B P X G O g T d D W n l w s t) (hk : Kept [] w w') : Dm w0 B P X G O g T d D W n l w' s t :=
  ⟨h.wm.keep hk (by simp), reader_kept h.rd hk (by simp) (by simp), h.keep.trans hk, h.tab, h.lo⟩
theorem Dm.step {w0 : World} {B P X G O g : Nat} {T d D : Int} {W n : Nat} {l : List Nat} {w w' : World} {s s' : Wk} {t : Nat} (h : Dm w0 B P X G O g T d D W n l w s t) (hk : Kept [B, G, P] w w') (hm : Wm w' B P X G 57 T d D W n (dext O) s') : Dm w0 B P X G O g T d D W n l w' s' t := by
  obtain ⟨cs, hr, hl, hc⟩ := h.wm.row
  obtain ⟨ps, hp, _⟩ := h.wm.md.blk
  have hlo := h.lo
  have o1 := ne_ty h.rd.1 h.wm.blk (by decide)
  have o2 := ne_ty h.rd.1 hr (by decide)
  have o3 := ne_ty h.rd.1 hp (by decide)
  have g1 := ne_ty h.rd.2.1 h.wm.blk (by decide)
  have g2 := ne_ty h.rd.2.1 hr (by decide)
  have g3 := ne_ty h.rd.2.1 hp (by decide)
  exact ⟨hm, reader_kept h.rd hk (by intro hh; simp at hh; omega) (by intro hh; simp at hh; omega), h.keep.step hk (fun y hy => by right; simp at hy; omega), h.tab, h.lo⟩

set_option maxHeartbeats 4000000 in
set_option maxRecDepth 1000000 in
theorem drun_ok (w0 : World) (B P X G O g : Nat) (T d D : Int) (W n : Nat) (l : List Nat) (w : World) (s : Wk) (t : Nat) (h : Dm w0 B P X G O g T d D W n l w s t) (a : Int) (rm : Nat) (hr1 : 1 ≤ rm) (hr2 : rm ≤ 4096) (m : Nat) (hm : m ≤ rm) (hl : t + rw_ s.r m rm ≤ 8 * l.length) (hb : nextN l t (rw_ s.r m rm) = rf s.r m rm) :
    Calls Tryd.prog 38 #[.pointer (some ⟨B, 0, none⟩), .int .i64 a, .int .i64 (rm : Int)] w fun e w' =>
      e = .returned (.int .i64 (m : Int)) ∧ Dm w0 B P X G O g T d D W n l w' ⟨s.L, rr s.r m rm, s.b, s.t⟩ (t + rw_ s.r m rm) ∧ S98 w w' ∧ Kept [X, O] w w' := by
  have c3 := h.wm.fact.c3
  have c6 := dext_cell h.wm
  have hlo := h.lo
  have hpos := h.tab.pos
  have C := Hid.mk (fun W' (hk : Kept [] w W') => show Calls Tryd.prog 55 #[.pointer (some ⟨X, 0, none⟩), .pointer (some ⟨O, 0, none⟩), .int .i64 (rm : Int)] W' (fun e w' => e = .returned (.tuple #[.int .i64 (m : Int), .int .i64 0]) ∧ Hid (Dm w0 B P X G O g T d D W n l w' ⟨s.L, rr s.r m rm, s.b, s.t⟩ (t + rw_ s.r m rm) ∧ S98 w w' ∧ Kept [X, O] w w') ∧ w'.cell? ⟨B, 3, none⟩ = some (.pointer (some ⟨X, 0, none⟩)) ∧ w'.cell? ⟨B, 6, none⟩ = some (.pointer (some ⟨O, 0, none⟩))) from by
    have h1 := h.kp hk
    obtain ⟨cs, hr, hl', hc⟩ := h1.wm.row
    obtain ⟨ps, hp, _⟩ := h1.wm.md.blk
    obtain ⟨n1, n2, n3, n4, n5, n6⟩ := h1.wm.ne
    have o1 := ne_ty h1.rd.1 h1.wm.blk (by decide)
    have o2 := ne_ty h1.rd.1 hr (by decide)
    have o3 := ne_ty h1.rd.1 hp (by decide)
    refine (rget_any X O g l t s.r (rm : Int) W' h1.wm.co h1.rd (h1.tab.kept h1.keep (by simp)) (by omega) (by omega) (by omega)).mono ?_
    rintro e w' ⟨Y2, E2, t2, r2, rfl, hrd, hco, hkk, hres2⟩
    rw [Int.toNat_natCast] at hres2
    obtain ⟨rfl, rfl, rfl, rfl⟩ := runRes_form hres2 hm hl hb
    have bB : w'.heap[B]? = _ := hkk.heap h1.wm.blk (by intro hh; simp at hh; omega)
    have k0 : Kept [] w0 w' := h1.keep.step hkk (fun y hy => by right; simp at hy; omega)
    refine ⟨rfl, Hid.mk ⟨⟨⟨bB, h1.wm.md.keep hkk (by intro hh; simp at hh; omega), hco, ⟨cs, hkk.heap hr (by intro hh; simp at hh; omega), hl', hc⟩, h1.wm.ty⟩, hrd, k0, h1.tab, h1.lo⟩, ?_, (hk.mono (by simp)).trans hkk⟩, by simp [World.cell?, bB], by simp [World.cell?, bB]⟩
    intro Q c hQ
    have hQ2 := hk.heap hQ (by simp)
    have q1 := ne_ty hQ2 h1.wm.co.1 (by decide)
    have q2 := ne_ty hQ2 h1.rd.1 (by decide)
    exact hkk.heap hQ2 (by intro hh; simp at hh; omega))
  clear h hl hb
  go_enter Tryd.func38, Tryd.ntmps38
  go_wp2
  go_region_held_law (fun w' => w'.cell? ⟨B, 3, none⟩ = some (.pointer (some ⟨X, 0, none⟩)) ∧ w'.cell? ⟨B, 6, none⟩ = some (.pointer (some ⟨O, 0, none⟩))) (first | exact ⟨c3, c6⟩ | exact ⟨t3, t6⟩ | go_keep) (first | (go_at_call 55; refine (C.out _ (by with_reducible exact (Kept.refl _ _).drew)).mono ?_; rintro e w1 ⟨rfl, R1, t3, t6⟩) | (go_at_call 54; refine (taken_ok _ _).mono ?_; rintro e w2 ⟨rfl, hw⟩; obtain rfl := hw.symm))
  go_wp2
  go_ret
  exact ⟨rfl, R1.out.1, R1.out.2.1, R1.out.2.2⟩

theorem unfold_any' (v : Nat) (q : Int) (w : World) (h1 : v ≤ 100000) (hq : fld q = v) : Calls Tryd.prog 60 #[.int .i64 (v : Int)] w fun r w' => r = .returned (.tuple #[.int .i64 q, .int .i64 0]) ∧ w' = w := by
  refine unfold_to (v : Int) q w (by omega) (by omega) ?_
  unfold fld at hq
  split at hq <;> omega

set_option maxHeartbeats 1000000 in
theorem range_any' (P : Nat) (T d : Int) (w : World) (H : Hd w P T d) : Calls Tryd.prog 59 #[.pointer (some ⟨P, 0, none⟩)] w fun e w' => e = .returned (.int .i64 (rg T d)) ∧ w' = w := by
  have h3 := H.c3
  generalize rg T d = K at *
  clear H
  go_enter Tryd.func59, Tryd.ntmps59
  go_wp2
  go_ret
  exact ⟨rfl, rfl⟩

set_option maxHeartbeats 4000000 in
set_option maxRecDepth 1000000 in
theorem done_ok (w0 : World) (B P X G O gg : Nat) (T d D : Int) (W n : Nat) (l : List Nat) (w : World) (s : Wk) (t : Nat) (h : Dm w0 B P X G O gg T d D W n l w s t) (hG : Gd T d) (k g p : Int) (least : Nat) (q : Int) (v : Nat) (hv : v < 2 ^ wde T d) (hq : fld q = v + least) (hq2 : (fld q : Int) < rg T d)
    (hl : t + gw v (po s.L k) (wde T d) ≤ 8 * l.length) (hb : nextN l t (gw v (po s.L k) (wde T d)) = gf v (po s.L k)) :
    Calls Tryd.prog 39 #[.pointer (some ⟨B, 0, none⟩), .agg #[.int .i64 k, .int .i64 g, .int .i64 p], .int .i64 (least : Int)] w fun e w' =>
      e = .returned (.int .i64 q) ∧ Dm w0 B P X G O gg T d D W n l w' s (t + gw v (po s.L k) (wde T d)) ∧ S98 w w' ∧ Kept [O] w w' := by
  obtain ⟨w2, hw2, k2, b2⟩ := three_new w (.int .i64 k) (.int .i64 g) (.int .i64 p) 98
  have h2 := h.kp k2
  have y6 := dext_cell h2.wm
  have y2 : w2.cell? ⟨B, 2, none⟩ = some (.pointer (some ⟨P, 0, none⟩)) := h2.wm.fact.c2
  obtain ⟨y0, -, -⟩ := agg3 b2
  obtain ⟨Q, hQ⟩ : ∃ Q, w.heap.size = Q := ⟨_, rfl⟩
  rw [hQ] at y0 b2
  have hpo := po_le s.L k
  have hwd := wde_in hG
  have hrg := rg_pos T d hG
  have C3 := Hid.mk (fun W' (hk : Kept [] w2 W') => (param_any P k T d s.L W' (h2.wm.md.keep hk (by simp))).mono (R' := fun e w' => e = .returned (.int .i64 (po s.L k : Int)) ∧ Hid (Kept [] w2 w') ∧ w'.cell? ⟨B, 6, none⟩ = some (.pointer (some ⟨O, 0, none⟩)) ∧ w'.cell? ⟨B, 2, none⟩ = some (.pointer (some ⟨P, 0, none⟩)) ∧ w'.cell? ⟨Q, 0, none⟩ = some (.int .i64 k)) (by
    rintro e w' ⟨rfl, hk'⟩
    have hk3 := hk.trans hk'
    have h3 := h2.kp hk3
    exact ⟨rfl, Hid.mk hk3, dext_cell h3.wm, h3.wm.fact.c2, (agg3 (hk3.heap b2 (by simp))).1⟩))
  have C4 := Hid.mk (fun W' (hk : Kept [] w2 W') => wide_any P T d W' (h2.wm.md.keep hk (by simp)).hd hG)
  have ew : Lib.bitLen (rg T d - 1).toNat = wde T d := rfl
  rw [ew] at C4
  clear ew
  have C5 := Hid.mk (fun W' (hk : Kept [] w2 W') => show Calls Tryd.prog 56 #[.pointer (some ⟨O, 0, none⟩), .int .i64 (po s.L k : Int), .int .i64 (wde T d : Int)] W' (fun e w' => e = .returned (.tuple #[.int .i64 (v : Int), .int .i64 0]) ∧ Hid (Dm w0 B P X G O gg T d D W n l w' s (t + gw v (po s.L k) (wde T d)) ∧ S98 w w' ∧ Kept [O] w w') ∧ w'.cell? ⟨B, 6, none⟩ = some (.pointer (some ⟨O, 0, none⟩)) ∧ w'.cell? ⟨B, 2, none⟩ = some (.pointer (some ⟨P, 0, none⟩)) ∧ w'.cell? ⟨Q, 0, none⟩ = some (.int .i64 k)) from by
    have h3 := h2.kp hk
    obtain ⟨cs, hr, hl', hc⟩ := h3.wm.row
    obtain ⟨ps, hp, _⟩ := h3.wm.md.blk
    have o1 := ne_ty h3.rd.1 h3.wm.blk (by decide)
    have o2 := ne_ty h3.rd.1 hr (by decide)
    have o3 := ne_ty h3.rd.1 hp (by decide)
    have o4 := ne_ty h3.rd.1 h3.wm.co.1 (by decide)
    have hlo := h3.lo
    refine (gget_any O gg l t (po s.L k : Int) (wde T d : Int) W' h3.rd (by omega) (by omega) (by omega) (by omega)).mono ?_
    rintro e w' ⟨X2, E2, t2, rfl, hrd, hkk, hres⟩
    rw [Int.toNat_natCast, Int.toNat_natCast] at hres
    obtain ⟨rfl, rfl, rfl⟩ := numRes_form hres hv hl hb
    have hm' : Wm w' B P X G 57 T d D W n (dext O) s := h3.wm.keep hkk (by simp; omega)
    refine ⟨rfl, Hid.mk ⟨⟨hm', hrd, h3.keep.step hkk (fun y hy => by right; simp at hy; omega), h3.tab, h3.lo⟩, ?_, ((k2.trans hk).mono (by simp)).trans hkk⟩, dext_cell hm', hm'.fact.c2, ?_⟩
    · intro Q' c hQ'
      have hQ2 := (k2.trans hk).heap hQ' (by simp)
      have q2 := ne_ty hQ2 h3.rd.1 (by decide)
      exact hkk.heap hQ2 (by intro hh; simp at hh; omega)
    · have hb' := hk.heap b2 (by simp)
      have q2 := ne_ty hb' h3.rd.1 (by decide)
      exact (agg3 (hkk.heap hb' (by intro hh; simp at hh; omega))).1)
  have C6 := Hid.mk (fun W' (hm : Hid (Dm w0 B P X G O gg T d D W n l W' s (t + gw v (po s.L k) (wde T d)) ∧ S98 w W' ∧ Kept [O] w W')) => range_any' P T d W' hm.out.1.wm.md.hd)
  have hF : fld q ≤ 5000 := by omega
  have C7 := Hid.mk (fun W' => unfold_any' (fld q) q W' (by omega) rfl)
  obtain ⟨F, hFF⟩ : ∃ F, fld q = F := ⟨_, rfl⟩
  rw [hFF] at hq hq2 hF C7
  have hsum : (least : Int) + v = (F : Int) := by omega
  have hsw : IntKind.i64.wrap (F : Int) = (F : Int) := wrap_i (by omega) (by omega)
  have hge : ¬ rg T d ≤ (F : Int) := by omega
  generalize rg T d = K at *
  clear h h2 k2 b2 hb hl hv hq hFF
  generalize gw v (po s.L k) (wde T d) = dt at *
  generalize (po s.L k : Int) = kk at *
  generalize (wde T d : Int) = ww at *
  go_enter Tryd.func39, Tryd.ntmps39
  go_wp2
  go_region_held_law (fun w' => w'.cell? ⟨B, 6, none⟩ = some (.pointer (some ⟨O, 0, none⟩)) ∧ w'.cell? ⟨B, 2, none⟩ = some (.pointer (some ⟨P, 0, none⟩)) ∧ w'.cell? ⟨Q, 0, none⟩ = some (.int .i64 k)) (first | exact ⟨y6, y2, y0⟩ | exact ⟨t6, t2, t0⟩ | exact ⟨r6, r2, r0⟩ | go_keep) (first | (go_at_call 57; refine (C3.out _ (by with_reducible exact (Kept.refl _ _).drew)).mono ?_; rintro e w3 ⟨rfl, K3, t6, t2, t0⟩) | (go_at_call 58; refine (C4.out _ (by first | with_reducible exact (Kept.refl _ _).drew | exact K3.out)).mono ?_; rintro e w4 ⟨rfl, hw4⟩; obtain rfl := hw4.symm) | (go_at_call 56; refine (C5.out _ K3.out).mono ?_; rintro e w5 ⟨rfl, R5, r6, r2, r0⟩) | (go_at_call 54; refine (taken_ok _ _).mono ?_; rintro e w6 ⟨rfl, hw6⟩; obtain rfl := hw6.symm))
  all_goals
    clear C3 C4 C5 t6 t2 t0 hsum
    go_wp2_with (first | (go_at_call 59; refine (C6.out _ R5).mono ?_; rintro e w7 ⟨rfl, hw7⟩; obtain rfl := hw7.symm) | (go_at_call 60; refine (C7.out _).mono ?_; rintro e w8 ⟨rfl, hw8⟩; obtain rfl := hw8.symm))
    go_ret
    exact ⟨rfl, R5.out.1, R5.out.2.1, R5.out.2.2⟩
end Go.Proofs.YtahoeodpjdbdkaaDoor

namespace Go.Proofs.YtahoeodpjdbdkaaDoor
open Go.RowKit

set_option maxHeartbeats 8000000 in
set_option maxRecDepth 1000000 in
theorem through38 {α : Type} (B P X G ty : Nat) (T d D : Int) (W H n : Nat) (ext : List Value) (V : Drv α) (I : World → Wk → α → Prop) (Bd : World → List PanicEntry → Prop) 
    (hD : Dp D T) (hG : Gd T d) (hn : n ≤ 4194304) (hW : 1 ≤ W) (hW2 : W ≤ 4096) (hWH : n = W * H) (s : Wk) (x : α) (hH : Hnd B P X G ty T d D W n ext 38 39 V I Bd (Rch T d W n V s x)) (w : World) (h : I w s x) (hin : s.In T) (hst : s.t ≤ n) :
    Calls Tryd.prog 37 #[.pointer (some ⟨B, 0, none⟩), .func (.func 38) #[.pointer (some ⟨B, 0, none⟩)] #[], .func (.func 39) #[.pointer (some ⟨B, 0, none⟩)] #[]] w fun e w' =>
      (e = .returned (.tuple #[]) ∧ ∃ s' x', Rch T d W n V s x s' x' ∧ s'.t = n ∧ s'.In T ∧ I w' s' x') ∨
      (∃ pc s' x', e = .panicked pc ∧ Rch T d W n V s x s' x' ∧ s'.In T ∧ Stk T d W n V s' x' ∧ Bd w' pc) := by
  have HH := Hid.mk hH
  have h0 := Hid.mk h
  have Hin := Hid.mk hin
  have HWH := Hid.mk hWH
  clear hH h hin hWH
  go_enter Tryd.func37, Tryd.ntmps37
  go_wp2
  go_loopg [6, 7, 8, 9, 10] (n - s.t) (fun k s6 s7 s8 s9 s10 wr => ∃ sr xr, k = n - sr.t ∧ sr.t ≤ n ∧ sr.In T ∧ Rch T d W n V s x sr xr ∧ I wr sr xr)
  case atStart => exact ⟨s, x, rfl, hst, Hin.out, .refl, h0.out⟩
  case round =>
    obtain ⟨sr, xr, hgk, hle, hin, hR, hI⟩ := hrel
    have hm := HH.out.wm _ _ _ hI
    have F := hm.fact
    have Hgk := Hid.mk hgk
    have Hle := Hid.mk hle
    have Hin := Hid.mk hin
    have HR := Hid.mk hR
    have HI := Hid.mk hI
    have Hm := Hid.mk hm
    obtain ⟨c0, c1, c2, c3, c4, c5, fz⟩ := F
    clear hgk hin hR hI hm fz h0 
    by_cases hlt : sr.t < n
    · have hlt' : (sr.t : Int) < (n : Int) := by omega
      have C := Hid.mk (fun q => spot_any B P X G ty T d D W n ext sr (wr.drewN q) (Hm.out.drewN q) hD hn hlt hW hW2 Hin.out)
      obtain ⟨k, hk⟩ : ∃ k, xk T d W sr = k := ⟨_, rfl⟩
      obtain ⟨g, hg⟩ : ∃ g, xs T d W sr = g := ⟨_, rfl⟩
      obtain ⟨p, hp⟩ : ∃ p, xp T d W sr = p := ⟨_, rfl⟩
      rw [hk, hg, hp] at C
      have Ek := Hid.mk hk
      have Eg := Hid.mk hg
      have Ep := Hid.mk hp
      have Hlt := Hid.mk hlt
      clear hk hg hp hlt
      by_cases hk0 : k = 0
      · have hpA : p = nA T W sr.b sr.t := by rw [← Ep.out]; unfold xp; rw [if_pos (Ek.out.trans hk0)]
        have Hk0 := Hid.mk (Ek.out.trans hk0)
        obtain ⟨a, ha⟩ : ∃ a, nA T W sr.b sr.t = a := ⟨_, rfl⟩
        have Ea := Hid.mk ha
        rw [ha] at hpA
        have hain := nA_in hG Hin.out hW
        rw [ha] at hain
        have hTT := hG.t0
        subst hpA hk0
        obtain ⟨rm, hrm⟩ : ∃ rm, rom W sr.t = rm := ⟨_, rfl⟩
        have Erm := Hid.mk hrm
        have hr1 := rom_pos (W := W) (t := sr.t) hW
        have hr2 := rom_in (H := H) hW (show sr.t < W * H by rw [← HWH.out]; exact Hlt.out)
        rw [← HWH.out] at hr2
        rw [hrm] at hr1 hr2
        clear ha hrm
        go_wp2
        go_quiet (fail)
        go_wp2_with (fail)
        refine (C.out _).mono ?_
        rintro e w1 ⟨rfl, k1⟩
        obtain ⟨w2, hw2, k2, b2⟩ := three_new w1 (.int .i64 0) (.int .i64 g) (.int .i64 p) 98
        have K2 : Kept [] wr w2 := ((Kept.refl [] wr).drewN nq).trans (k1.trans k2)
        have i2 := HH.out.step wr w2 sr sr xr HI.out (K2.mono (by simp)) (Hm.out.keep K2 (by simp))
        obtain ⟨q0, q1, q2⟩ := agg3 b2
        have I2 := Hid.mk i2
        have B2 := Hid.mk b2
        obtain ⟨Q, hQ⟩ : ∃ Q, w1.heap.size = Q := ⟨_, rfl⟩
        rw [hQ] at q0 q1 q2 B2
        clear k1 k2 b2 i2 K2 C
        go_wp2_with (fail)
        clear hw2 hQ
        refine (room_any B P X G ty T d D W n ext sr w2 (HH.out.wm _ _ _ I2.out) hW hW2).mono ?_
        rintro e w3 ⟨rfl, m3, rfl⟩
        rw [Erm.out]
        go_wp2_with (fail)
        have i3 : I (w2.drewN m3) sr xr := HH.out.step w2 _ sr sr xr I2.out ((Kept.refl _ _).drewN m3) ((HH.out.wm _ _ _ I2.out).drewN m3)
        have C4 := HH.out.run _ sr xr i3 Hin.out Hlt.out Hk0.out HR.out
        rw [Ea.out, Erm.out] at C4
        refine C4.mono ?_
        clear C4 i3 q0 q1 q2 I2
        rintro e w4 (⟨m, x4, rfl, hm, hr, i4, s4⟩ | ⟨pc, rfl, hb, hbd⟩)
        · have B4 := Hid.mk (s4 Q _ (((Kept.refl [] w2).drewN m3).heap B2.out (by simp)))
          obtain ⟨q0, q1, q2⟩ := agg3 B4.out
          have I4 := Hid.mk i4
          have Hr := Hid.mk hr
          clear i4 hr s4 B2
          go_wp2_with (fail)
          refine (fill_any B P X G ty T d D W n ext _ (m : Int) p w4 (HH.out.wm _ _ _ I4.out) (by omega) (by show sr.t + _ ≤ n; rw [Int.toNat_natCast]; omega) hn (by omega) (by omega)).mono ?_
          clear q0 q1 q2
          rintro e w5 ⟨rfl, m5, k5⟩
          rw [Int.toNat_natCast] at m5
          have i5 : I w5 (gor T W sr m) x4 := HH.out.step w4 w5 _ _ x4 I4.out (k5.mono (by simp)) (by unfold gor; rw [Ea.out, Erm.out]; exact m5)
          have B5 := Hid.mk ((HH.out.wm _ _ _ I4.out).s98 (k5.mono (by simp)) Q _ B4.out)
          obtain ⟨q0, q1, q2⟩ := agg3 B5.out
          have I5 := Hid.mk i5
          clear i5 m5 k5 B4 I4
          have hin5 := Hid.mk (gor_in hG Hin.out hW m)
          by_cases hmr : m = rm
          · subst hmr
            go_wp2_with (fail)
            go_roundg (n - (sr.t + m))
            case measure => have := Hgk.out; omega
            case rel => exact ⟨gor T W sr m, x4, rfl, by show sr.t + m ≤ n; omega, hin5.out, HR.out.tail ⟨Hlt.out, .inl ⟨Hk0.out, m, x4, by rw [Erm.out]; exact hm, Hr.out, .inl ⟨Erm.out.symm, rfl, rfl⟩⟩⟩, I5.out⟩
          · have hmr' : ((m : Int) == (rm : Int)) = false := by simp; omega
            go_wp2_with (fail)
            clear q0 q1 q2
            have C6 := HH.out.one w5 (gor T W sr m) x4 0 g p 1 I5.out hin5.out (by show _ < n; show sr.t + m < n; omega) (.inr ⟨rfl, rfl, sr, xr, m, by rw [Erm.out]; exact hm, by rw [Erm.out]; exact hmr, Hr.out, rfl, Eg.out.symm, Ea.out.symm, Hk0.out, Hin.out, Hlt.out, HR.out⟩)
            refine C6.mono ?_
            clear C6
            rintro e w6 (⟨q, x6, rfl, qlo, qhi, ho, i6, s6⟩ | ⟨pc, rfl, hb, hbd⟩)
            · have B6 := Hid.mk (s6 Q _ B5.out)
              have hm6 := HH.out.wm _ _ _ i6
              have I6 := Hid.mk i6
              have Ho := Hid.mk ho
              obtain ⟨-, -, c2, -, -, -, -⟩ := hm6.fact
              obtain ⟨y0, y1, y2⟩ := agg3 B6.out
              have C7 := Hid.mk (fun W7 (hk : Kept [] w6 W7) => (learn_any P T d 0 q ((gor T W sr m)).L W7 (hm6.md.keep hk (by simp))).mono (R' := fun e w7 => e = .returned (.tuple #[]) ∧ Hid (I w7 ⟨lL T d ((gor T W sr m)).L 0 q, ((gor T W sr m)).r, ((gor T W sr m)).b, ((gor T W sr m)).t⟩ x6) ∧ Hid (w7.heap[Q]? = some (.cells #[.int .i64 0, .int .i64 g, .int .i64 p] 98 (0, 0))) ∧ w7.cell? ⟨B, 2, none⟩ = some (.pointer (some ⟨P, 0, none⟩)) ∧ w7.cell? ⟨Q, 0, none⟩ = some (.int .i64 0) ∧ w7.cell? ⟨Q, 1, none⟩ = some (.int .i64 g) ∧ w7.cell? ⟨Q, 2, none⟩ = some (.int .i64 p)) (by
                rintro e w7 ⟨rfl, m7, k7⟩
                have k7 : Kept [P] w6 w7 := (hk.mono (by simp)).trans k7
                have hm7 := hm6.learn k7 m7
                have B7 := hm6.s98 (k7.mono (by simp)) Q _ B6.out
                obtain ⟨z0, z1, z2⟩ := agg3 B7
                exact ⟨rfl, Hid.mk (HH.out.step w6 w7 _ _ x6 I6.out (k7.mono (by simp)) hm7), Hid.mk B7, hm7.fact.c2, z0, z1, z2⟩))
              obtain ⟨g0, g1, g2⟩ := gq_in (g := g) (q := q) (by rw [← Eg.out]; exact xs_one ..) qlo qhi
              clear i6 s6 ho hm6 B5 I5 B6 I6
              go_wp2_with (fail)
              go_region_held_law (fun w' => w'.cell? ⟨B, 2, none⟩ = some (.pointer (some ⟨P, 0, none⟩)) ∧ w'.cell? ⟨Q, 0, none⟩ = some (.int .i64 0)) (first | exact ⟨c2, y0⟩ | exact ⟨t2, t3⟩ | go_keep) (first | (go_at_call 52; refine (C7.out _ (by first | with_reducible exact (Kept.refl _ _).drew | with_reducible exact Kept.refl _ _)).mono ?_; rintro e w7 ⟨rfl, I7, B7, t2, t3, t4, t5⟩))
              have hm7 := HH.out.wm _ _ _ I7.out
              have vin := gro_in hG p (g * q)
              obtain ⟨gq, hgq⟩ : ∃ gq, g * q = gq := ⟨_, rfl⟩
              have g3 : IntKind.i64.wrap (g * q) = gq := g0.trans hgq
              have C8 := Hid.mk (fun W8 (hk : Kept [] w7 W8) => grow_any P T d p gq W8 (hm7.md.keep hk (by simp)).hd hG)
              have C9 := Hid.mk (fun W9 (hk : Kept [] w7 W9) => (fill_any B P X G ty T d D W n ext _ 1 (gro T d p (g * q)) W9 (hm7.keep hk (by simp)) (by omega) (by show _ + 1 ≤ n; show sr.t + m + 1 ≤ n; omega) hn (by omega) (by omega)).mono (R' := fun e w9 => e = .returned (.tuple #[]) ∧ Hid (I w9 (goo T d (gor T W sr m) 0 g p q) x6) ∧ w9.cell? ⟨B, 2, none⟩ = some (.pointer (some ⟨P, 0, none⟩)) ∧ w9.cell? ⟨Q, 1, none⟩ = some (.int .i64 g) ∧ w9.cell? ⟨Q, 2, none⟩ = some (.int .i64 p)) (by
                rintro e w9 ⟨rfl, m9, k9⟩
                have k9 : Kept [B, G, P] w7 w9 := (hk.mono (by simp)).trans (k9.mono (by simp))
                obtain ⟨z0, z1, z2⟩ := agg3 (hm7.s98 k9 Q _ B7.out)
                exact ⟨rfl, Hid.mk (HH.out.step w7 w9 _ _ x6 I7.out k9 m9), m9.fact.c2, z1, z2⟩))
              rw [hgq] at C9
              obtain ⟨v8, hv8⟩ : ∃ v8, gro T d p gq = v8 := ⟨_, rfl⟩
              rw [hv8] at C8 C9
              clear g0 hgq hv8 hm7 y0 y1 y2 c2 C7 vin I7 B7
              go_wp2_with (fail)
              go_region_held_law (fun w' => w'.cell? ⟨B, 2, none⟩ = some (.pointer (some ⟨P, 0, none⟩)) ∧ w'.cell? ⟨Q, 1, none⟩ = some (.int .i64 g) ∧ w'.cell? ⟨Q, 2, none⟩ = some (.int .i64 p)) (first | exact ⟨t2, t4, t5⟩ | exact ⟨r2, r4, r5⟩ | go_keep) (first | (go_at_call 53; refine (C8.out _ (by first | with_reducible exact (Kept.refl _ _).drew | with_reducible exact Kept.refl _ _)).mono ?_; rintro e w8 ⟨rfl, m8, rfl⟩) | (go_at_call 49; refine (C9.out _ (by first | with_reducible exact ((Kept.refl _ _).drew).drewN _ | with_reducible exact (Kept.refl _ _).drewN _)).mono ?_; rintro e w9 ⟨rfl, I9, r2, r4, r5⟩))
              all_goals
                clear C8 C9 t2 t3 t4 t5 r2 r4 r5
                go_wp2_with (fail)
                go_roundg (n - ((sr.t + m) + 1))
                case measure => have := Hgk.out; omega
                case rel => exact ⟨goo T d (gor T W sr m) 0 g p q, x6, rfl, by show _ + 1 ≤ n; show sr.t + m + 1 ≤ n; omega, goo_in hG hin5.out _ _ _ _, HR.out.tail ⟨Hlt.out, .inl ⟨Hk0.out, m, x4, by rw [Erm.out]; exact hm, Hr.out, .inr ⟨by rw [Erm.out]; exact hmr, q, by rw [Eg.out, Ea.out]; exact Ho.out, by rw [Eg.out, Ea.out]⟩⟩⟩, I9.out⟩
            · exact bodyPost_panic rfl (.inr ⟨pc, sr, xr, rfl, HR.out, Hin.out, ⟨Hlt.out, .inl ⟨Hk0.out, .inr ⟨m, x4, by rw [Erm.out]; exact hm, by rw [Erm.out]; exact hmr, Hr.out, by rw [Eg.out, Ea.out]; exact hb⟩⟩⟩, hbd⟩)
        · exact bodyPost_panic rfl (.inr ⟨pc, sr, xr, rfl, HR.out, Hin.out, ⟨Hlt.out, .inl ⟨Hk0.out, .inl hb⟩⟩, hbd⟩)
      · have hk1 : (k == 0) = false := by simpa using hk0
        have hkz : k ≠ 0 := hk0
        have Hkz := Hid.mk hkz
        have hTT := hG.t0
        clear hkz hk0
        go_wp2
        go_quiet (fail)
        go_wp2_with (fail)
        refine (C.out _).mono ?_
        rintro e w1 ⟨rfl, k1⟩
        obtain ⟨w5, hw5, k2, b5⟩ := three_new w1 (.int .i64 k) (.int .i64 g) (.int .i64 p) 98
        have K5 : Kept [] wr w5 := ((Kept.refl [] wr).drewN nq).trans (k1.trans k2)
        have i5 := HH.out.step wr w5 sr sr xr HI.out (K5.mono (by simp)) (Hm.out.keep K5 (by simp))
        obtain ⟨q0, q1, q2⟩ := agg3 b5
        have I5 := Hid.mk i5
        have B5 := Hid.mk b5
        obtain ⟨Q, hQ⟩ : ∃ Q, w1.heap.size = Q := ⟨_, rfl⟩
        rw [hQ] at q0 q1 q2 B5
        have hin5 := Hin
        clear k1 k2 b5 i5 K5 C
        go_wp2_with (fail)
        clear hw5 hQ q0 q1 q2
        have C6 := HH.out.one w5 sr xr k g p 0 I5.out hin5.out (by show _ < n; exact Hlt.out) (.inl ⟨rfl, Ek.out.symm, Eg.out.symm, Ep.out.symm, by rw [Ek.out]; exact Hkz.out, HR.out⟩)
        refine C6.mono ?_
        clear C6
        rintro e w6 (⟨q, x6, rfl, qlo, qhi, ho, i6, s6⟩ | ⟨pc, rfl, hb, hbd⟩)
        · have B6 := Hid.mk (s6 Q _ B5.out)
          have hm6 := HH.out.wm _ _ _ i6
          have I6 := Hid.mk i6
          have Ho := Hid.mk ho
          obtain ⟨-, -, c2, -, -, -, -⟩ := hm6.fact
          obtain ⟨y0, y1, y2⟩ := agg3 B6.out
          have C7 := Hid.mk (fun W7 (hk : Kept [] w6 W7) => (learn_any P T d k q (sr).L W7 (hm6.md.keep hk (by simp))).mono (R' := fun e w7 => e = .returned (.tuple #[]) ∧ Hid (I w7 ⟨lL T d (sr).L k q, (sr).r, (sr).b, (sr).t⟩ x6) ∧ Hid (w7.heap[Q]? = some (.cells #[.int .i64 k, .int .i64 g, .int .i64 p] 98 (0, 0))) ∧ w7.cell? ⟨B, 2, none⟩ = some (.pointer (some ⟨P, 0, none⟩)) ∧ w7.cell? ⟨Q, 0, none⟩ = some (.int .i64 k) ∧ w7.cell? ⟨Q, 1, none⟩ = some (.int .i64 g) ∧ w7.cell? ⟨Q, 2, none⟩ = some (.int .i64 p)) (by
            rintro e w7 ⟨rfl, m7, k7⟩
            have k7 : Kept [P] w6 w7 := (hk.mono (by simp)).trans k7
            have hm7 := hm6.learn k7 m7
            have B7 := hm6.s98 (k7.mono (by simp)) Q _ B6.out
            obtain ⟨z0, z1, z2⟩ := agg3 B7
            exact ⟨rfl, Hid.mk (HH.out.step w6 w7 _ _ x6 I6.out (k7.mono (by simp)) hm7), Hid.mk B7, hm7.fact.c2, z0, z1, z2⟩))
          obtain ⟨g0, g1, g2⟩ := gq_in (g := g) (q := q) (by rw [← Eg.out]; exact xs_one ..) qlo qhi
          clear i6 s6 ho hm6 B5 I5 B6 I6
          go_wp2_with (fail)
          go_region_held_law (fun w' => w'.cell? ⟨B, 2, none⟩ = some (.pointer (some ⟨P, 0, none⟩)) ∧ w'.cell? ⟨Q, 0, none⟩ = some (.int .i64 k)) (first | exact ⟨c2, y0⟩ | exact ⟨t2, t3⟩ | go_keep) (first | (go_at_call 52; refine (C7.out _ (by first | with_reducible exact (Kept.refl _ _).drew | with_reducible exact Kept.refl _ _)).mono ?_; rintro e w7 ⟨rfl, I7, B7, t2, t3, t4, t5⟩))
          have hm7 := HH.out.wm _ _ _ I7.out
          have vin := gro_in hG p (g * q)
          obtain ⟨gq, hgq⟩ : ∃ gq, g * q = gq := ⟨_, rfl⟩
          have g3 : IntKind.i64.wrap (g * q) = gq := g0.trans hgq
          have C8 := Hid.mk (fun W8 (hk : Kept [] w7 W8) => grow_any P T d p gq W8 (hm7.md.keep hk (by simp)).hd hG)
          have C9 := Hid.mk (fun W9 (hk : Kept [] w7 W9) => (fill_any B P X G ty T d D W n ext _ 1 (gro T d p (g * q)) W9 (hm7.keep hk (by simp)) (by omega) (by show _ + 1 ≤ n; show sr.t + 1 ≤ n; have := Hlt.out; omega) hn (by omega) (by omega)).mono (R' := fun e w9 => e = .returned (.tuple #[]) ∧ Hid (I w9 (goo T d sr k g p q) x6) ∧ w9.cell? ⟨B, 2, none⟩ = some (.pointer (some ⟨P, 0, none⟩)) ∧ w9.cell? ⟨Q, 1, none⟩ = some (.int .i64 g) ∧ w9.cell? ⟨Q, 2, none⟩ = some (.int .i64 p)) (by
            rintro e w9 ⟨rfl, m9, k9⟩
            have k9 : Kept [B, G, P] w7 w9 := (hk.mono (by simp)).trans (k9.mono (by simp))
            obtain ⟨z0, z1, z2⟩ := agg3 (hm7.s98 k9 Q _ B7.out)
            exact ⟨rfl, Hid.mk (HH.out.step w7 w9 _ _ x6 I7.out k9 m9), m9.fact.c2, z1, z2⟩))
          rw [hgq] at C9
          obtain ⟨v8, hv8⟩ : ∃ v8, gro T d p gq = v8 := ⟨_, rfl⟩
          rw [hv8] at C8 C9
          clear g0 hgq hv8 hm7 y0 y1 y2 c2 C7 vin I7 B7
          go_wp2_with (fail)
          go_region_held_law (fun w' => w'.cell? ⟨B, 2, none⟩ = some (.pointer (some ⟨P, 0, none⟩)) ∧ w'.cell? ⟨Q, 1, none⟩ = some (.int .i64 g) ∧ w'.cell? ⟨Q, 2, none⟩ = some (.int .i64 p)) (first | exact ⟨t2, t4, t5⟩ | exact ⟨r2, r4, r5⟩ | go_keep) (first | (go_at_call 53; refine (C8.out _ (by first | with_reducible exact (Kept.refl _ _).drew | with_reducible exact Kept.refl _ _)).mono ?_; rintro e w8 ⟨rfl, m8, rfl⟩) | (go_at_call 49; refine (C9.out _ (by first | with_reducible exact ((Kept.refl _ _).drew).drewN _ | with_reducible exact (Kept.refl _ _).drewN _)).mono ?_; rintro e w9 ⟨rfl, I9, r2, r4, r5⟩))
          all_goals
            clear C8 C9 t2 t3 t4 t5 r2 r4 r5
            go_wp2_with (fail)
            go_roundg (n - (sr.t + 1))
            case measure => have := Hgk.out; omega
            case rel => exact ⟨goo T d sr k g p q, x6, rfl, by show _ + 1 ≤ n; show sr.t + 1 ≤ n; have := Hlt.out; omega, goo_in hG hin5.out _ _ _ _, HR.out.tail ⟨Hlt.out, .inr ⟨by rw [Ek.out]; exact Hkz.out, q, by rw [Ek.out, Eg.out, Ep.out]; exact Ho.out, by rw [Ek.out, Eg.out, Ep.out]⟩⟩, I9.out⟩
        · exact bodyPost_panic rfl (.inr ⟨pc, sr, xr, rfl, HR.out, Hin.out, ⟨Hlt.out, .inr ⟨by rw [Ek.out]; exact Hkz.out, by rw [Ek.out, Eg.out, Ep.out]; exact hb⟩⟩, hbd⟩)
    · have hlt' : ¬ (sr.t : Int) < (n : Int) := by omega
      go_wp2
      go_quiet (fail)
      go_wp2
      go_end0
      exact .inl ⟨rfl, sr, xr, HR.out, by omega, Hin.out, HH.out.step wr _ sr sr xr HI.out ((Kept.refl _ _).drewN _) (Hm.out.drewN _)⟩
end Go.Proofs.YtahoeodpjdbdkaaDoor
