import Derived.Test.YtahoeodpjdbdkaaDoorSb
namespace Go.Proofs.YtahoeodpjdbdkaaDoor
open Go.RowKit

/-- What a depth's greatest sample is. -/
def Dp (D T : Int) : Prop := (D = 10 ∧ T = 1023) ∨ (D = 12 ∧ T = 4095)
theorem Dp.mid {D T : Int} (h : Dp D T) : wrap64 (2 ^ (D.toNat - 1)) = (T + 1) / 2 ∧ 0 ≤ D ∧ D ≤ 12 ∧ 0 ≤ D - 1 := by
  rcases h with ⟨rfl, rfl⟩ | ⟨rfl, rfl⟩
  · exact ⟨by rw [show (Int.toNat 10 - 1) = 9 from rfl]; unfold wrap64; omega, by decide, by decide, by decide⟩
  · exact ⟨by rw [show (Int.toNat 12 - 1) = 11 from rfl]; unfold wrap64; omega, by decide, by decide, by decide⟩

theorem results_tmp4' {fn : Func} {t u v x : Tmp} (h : fn.results = #[.tmp t, .tmp u, .tmp v, .tmp x]) (tmps : Array Value) (P : Program) (w : World) :
    (results fn tmps).run P w = .ok (.tuple #[tmps.getD t undef, tmps.getD u undef, tmps.getD v undef, tmps.getD x undef]) w := by
  simp [results, h]

set_option maxHeartbeats 4000000 in
set_option maxRecDepth 1000000 in
theorem left_first (B P X G ty : Nat) (T d D : Int) (W n : Nat) (ext : List Value) (s : Wk) (w : World) (h : Wm w B P X G ty T d D W n ext s) (hD : Dp D T) (hn : n ≤ 4194304) (ht : s.t < n) (hW : s.t < W) (hb : ∀ i, i < s.t → 0 ≤ s.b i ∧ s.b i ≤ 4095) :
    Calls Tryd.prog 90 #[.pointer (some ⟨B, 0, none⟩)] w fun e w' => e = .returned (.int .i64 (nA T W s.b s.t)) ∧ ∃ m, w' = w.drewN m := by
  obtain ⟨c0, c1, c2, c3, c4, c5, fz⟩ := h.fact
  obtain ⟨hm, d0, d1, d2⟩ := hD.mid
  unfold nA
  rw [if_pos hW]
  by_cases h0 : s.t = 0
  · rw [if_pos h0]
    rw [h0] at c5
    have c5 : w.cell? ⟨B, 5, none⟩ = some (.int .i64 0) := c5
    obtain ⟨R, hR⟩ : ∃ R, (T + 1) / 2 = R := ⟨_, rfl⟩
    rw [hR] at hm ⊢
    clear h hn ht hW hb hD fz hR h0
    go_enter Tryd.func90, Tryd.ntmps90
    go_wp2
    go_ret
    exact ⟨ret_int hm, 0, rfl⟩
  · rw [if_neg h0]
    have hc := h.cel (s.t - 1) (by omega)
    have hb := hb (s.t - 1) (by omega)
    generalize s.b (s.t - 1) = v at *
    obtain ⟨t, ht'⟩ : ∃ t, s.t = t + 1 := ⟨s.t - 1, by omega⟩
    rw [ht'] at c5 hc
    have c5 : w.cell? ⟨B, 5, none⟩ = some (.int .i64 ((t : Int) + 1)) := c5
    have hc : w.cell? ⟨G, t, none⟩ = some (.int .u16 v) := hc
    have ix : (t : Int) < n := by omega
    have hv : IntKind.i64.wrap v = v := wrap_i (by omega) (by omega)
    clear h hW hD fz h0 hm
    go_enter Tryd.func90, Tryd.ntmps90
    go_wp2
    go_quiet (fail)
    go_wp2
    go_ret
    exact ⟨rfl, _, rfl⟩

set_option maxHeartbeats 4000000 in
set_option maxRecDepth 1000000 in
theorem room_any (B P X G ty : Nat) (T d D : Int) (W n : Nat) (ext : List Value) (s : Wk) (w : World) (h : Wm w B P X G ty T d D W n ext s) (hW : 1 ≤ W) (hW2 : W ≤ 4096) :
    Calls Tryd.prog 51 #[.pointer (some ⟨B, 0, none⟩)] w fun e w' => e = .returned (.int .i64 ((rom W s.t : Nat) : Int)) ∧ ∃ m, w' = w.drewN m := by
  obtain ⟨c0, c1, c2, c3, c4, c5, fz⟩ := h.fact
  have h1 := Nat.mod_lt s.t (show 0 < W by omega)
  obtain ⟨x, hx⟩ : ∃ x, s.t % W = x := ⟨_, rfl⟩
  have hR : (rom W s.t : Int) = (W : Int) - x := by unfold rom; omega
  rw [hR]
  have hm : (s.t : Int) % (W : Int) = (x : Int) := by rw [← hx]; simp
  have hz : ¬ (W : Int) = 0 := by omega
  have z1 : (0 : Int) ≤ (s.t : Int) := by omega
  have z2 : (0 : Int) < (W : Int) := by omega
  have hw : wrap64 ((W : Int) - x) = (W : Int) - x := w64_in (by omega) (by omega)
  clear h fz hR hx
  go_enter Tryd.func51, Tryd.ntmps51
  go_wp2
  go_quiet (fail)
  go_wp2
  go_ret
  exact ⟨rfl, _, rfl⟩

set_option maxHeartbeats 4000000 in
set_option maxRecDepth 1000000 in
theorem neigh_any (B P X G ty : Nat) (T d D : Int) (W n : Nat) (ext : List Value) (s : Wk) (w : World) (h : Wm w B P X G ty T d D W n ext s) (hD : Dp D T) (hn : n ≤ 4194304) (ht : s.t < n) (hW : 1 ≤ W) (hW2 : W ≤ 4096) (hb : ∀ i, i < s.t → 0 ≤ s.b i ∧ s.b i ≤ 4095) :
    Calls Tryd.prog 71 #[.pointer (some ⟨B, 0, none⟩)] w fun e w' => e = .returned (.tuple #[.int .i64 (nA T W s.b s.t), .int .i64 (nB T W s.b s.t), .int .i64 (nC T W s.b s.t), .int .i64 (nE T W s.b s.t)]) ∧ ∃ m, w' = w.drewN m := by
  obtain ⟨c0, c1, c2, c3, c4, c5, fz⟩ := h.fact
  have h1 := Nat.mod_lt s.t (show 0 < W by omega)
  by_cases hc : s.t < W
  · have C := Hid.mk (fun q => left_first B P X G ty T d D W n ext s (w.drewN q) (h.drewN q) hD hn ht hc hb)
    have eB : nB T W s.b s.t = nA T W s.b s.t := if_pos hc
    have eC : nC T W s.b s.t = nA T W s.b s.t := if_pos hc
    have eE : nE T W s.b s.t = nA T W s.b s.t := if_pos hc
    rw [eB, eC, eE]
    generalize nA T W s.b s.t = a at *
    have hc' : (s.t : Int) < (W : Int) := by omega
    clear h hb eB eC eE fz
    go_enter Tryd.func71, Tryd.ntmps71
    go_wp2
    go_quiet (fail)
    go_wp2_with (go_at_call 90; refine (C.out _).mono ?_; rintro e w' ⟨rfl, m, rfl⟩)
    (try simp only [Exit.inBlock, Exit.then]); refine bodyPost_ret (results_tmp4' rfl _ _ _) rfl ?_
    exact ⟨rfl, _, rfl⟩
  · have hc' : ¬ (s.t : Int) < (W : Int) := by omega
    obtain ⟨U, hU⟩ : ∃ U, s.t = U + W := ⟨s.t - W, by omega⟩
    have hx1 : s.t % W = U % W := by rw [hU]; simp
    have hU1 : (s.t : Int) - (W : Int) = (U : Int) := by omega
    obtain ⟨x, hx⟩ : ∃ x, s.t % W = x := ⟨_, rfl⟩
    have hm : (s.t : Int) % (W : Int) = (x : Int) := by rw [← hx]; simp
    have hz : ¬ (W : Int) = 0 := by omega
    have z1 : (0 : Int) ≤ (s.t : Int) := by omega
    have z2 : (0 : Int) < (W : Int) := by omega
    have hb0 := h.cel U (by omega)
    have eB : nB T W s.b s.t = s.b U := by unfold nB; rw [if_neg hc, show s.t - W = U by omega]
    have v0 := hb U (by omega)
    have w0 : IntKind.i64.wrap (s.b U) = s.b U := wrap_i (by omega) (by omega)
    have ixU : (U : Int) < n := by omega
    have hWx : wrap64 ((W : Int) - 1) = (W : Int) - 1 := w64_in (by omega) (by omega)
    rw [eB]
    by_cases hx0 : 0 < x
    · have hx0' : (0 : Int) < (x : Int) := by omega
      have hUp : 0 < U := by
        rcases Nat.eq_zero_or_pos U with h | h
        · rw [h] at hx1; simp at hx1; omega
        · exact h
      obtain ⟨t1, ht1⟩ : ∃ t1, s.t = t1 + 1 := ⟨s.t - 1, by omega⟩
      obtain ⟨U1, hU2⟩ : ∃ U1, U = U1 + 1 := ⟨U - 1, by omega⟩
      have g1 : (s.t : Int) - 1 = (t1 : Int) := by omega
      have g2 : (U : Int) - 1 = (U1 : Int) := by omega
      have hb1 := h.cel t1 (by omega)
      have hb2 := h.cel U1 (by omega)
      have v1 := hb t1 (by omega)
      have v2 := hb U1 (by omega)
      have w1 : IntKind.i64.wrap (s.b t1) = s.b t1 := wrap_i (by omega) (by omega)
      have w2 : IntKind.i64.wrap (s.b U1) = s.b U1 := wrap_i (by omega) (by omega)
      have ix1 : (t1 : Int) < n := by omega
      have ix2 : (U1 : Int) < n := by omega
      have eA : nA T W s.b s.t = s.b t1 := by unfold nA; rw [if_neg hc, if_pos (by omega), show s.t - 1 = t1 by omega]
      have eC : nC T W s.b s.t = s.b U1 := by unfold nC; rw [if_neg hc, if_pos (by omega), show s.t - W - 1 = U1 by omega]
      rw [eA, eC]
      by_cases hr : x + 1 < W
      · have hr' : (x : Int) < (W : Int) - 1 := by omega
        have hb3 := h.cel (U + 1) (by omega)
        have v3 := hb (U + 1) (by omega)
        have w3 : IntKind.i64.wrap (s.b (U + 1)) = s.b (U + 1) := wrap_i (by omega) (by omega)
        have ix3 : (U : Int) + 1 < n := by omega
        have eE : nE T W s.b s.t = s.b (U + 1) := by unfold nE; rw [if_neg hc, if_pos (by omega), show s.t - W + 1 = U + 1 by omega]
        rw [eE]
        generalize s.b (U + 1) = y3 at *
        generalize s.b U1 = y2 at *
        generalize s.b t1 = y1 at *
        generalize s.b U = y0 at *
        clear h hb eA eB eC eE fz hx hx1 hU hU2 ht1 h1
        go_enter Tryd.func71, Tryd.ntmps71
        go_wp2
        go_quiet (fail)
        go_wp2
        go_quiet (fail)
        go_wp2
        go_quiet (fail)
        go_wp2
        (try simp only [Exit.inBlock, Exit.then]); refine bodyPost_ret (results_tmp4' rfl _ _ _) rfl ?_
        exact ⟨rfl, _, rfl⟩
      · have hr' : ¬ (x : Int) < (W : Int) - 1 := by omega
        have eE : nE T W s.b s.t = s.b U := by unfold nE; rw [if_neg hc, if_neg (by omega), show s.t - W = U by omega]
        rw [eE]
        generalize s.b U1 = y2 at *
        generalize s.b t1 = y1 at *
        generalize s.b U = y0 at *
        clear h hb eA eB eC eE fz hx hx1 hU hU2 ht1 h1
        go_enter Tryd.func71, Tryd.ntmps71
        go_wp2
        go_quiet (fail)
        go_wp2
        go_quiet (fail)
        go_wp2
        go_quiet (fail)
        go_wp2
        (try simp only [Exit.inBlock, Exit.then]); refine bodyPost_ret (results_tmp4' rfl _ _ _) rfl ?_
        exact ⟨rfl, _, rfl⟩
    · have hx0' : ¬ (0 : Int) < (x : Int) := by omega
      have eA : nA T W s.b s.t = s.b U := by unfold nA; rw [if_neg hc, if_neg (by omega), show s.t - W = U by omega]
      have eC : nC T W s.b s.t = s.b U := by unfold nC; rw [if_neg hc, if_neg (by omega), show s.t - W = U by omega]
      rw [eA, eC]
      by_cases hr : x + 1 < W
      · have hr' : (x : Int) < (W : Int) - 1 := by omega
        have hb3 := h.cel (U + 1) (by omega)
        have v3 := hb (U + 1) (by omega)
        have w3 : IntKind.i64.wrap (s.b (U + 1)) = s.b (U + 1) := wrap_i (by omega) (by omega)
        have ix3 : (U : Int) + 1 < n := by omega
        have eE : nE T W s.b s.t = s.b (U + 1) := by unfold nE; rw [if_neg hc, if_pos (by omega), show s.t - W + 1 = U + 1 by omega]
        rw [eE]
        generalize s.b (U + 1) = y3 at *
        generalize s.b U = y0 at *
        clear h hb eA eB eC eE fz hx hx1 hU h1
        go_enter Tryd.func71, Tryd.ntmps71
        go_wp2
        go_quiet (fail)
        go_wp2
        go_quiet (fail)
        go_wp2
        (try simp only [Exit.inBlock, Exit.then]); refine bodyPost_ret (results_tmp4' rfl _ _ _) rfl ?_
        exact ⟨rfl, _, rfl⟩
      · have hr' : ¬ (x : Int) < (W : Int) - 1 := by omega
        have eE : nE T W s.b s.t = s.b U := by unfold nE; rw [if_neg hc, if_neg (by omega), show s.t - W = U by omega]
        rw [eE]
        generalize s.b U = y0 at *
        clear h hb eA eB eC eE fz hx hx1 hU h1
        go_enter Tryd.func71, Tryd.ntmps71
        go_wp2
        go_quiet (fail)
        go_wp2
        go_quiet (fail)
        go_wp2
        (try simp only [Exit.inBlock, Exit.then]); refine bodyPost_ret (results_tmp4' rfl _ _ _) rfl ?_
        exact ⟨rfl, _, rfl⟩
end Go.Proofs.YtahoeodpjdbdkaaDoor
