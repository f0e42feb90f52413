import Derived.Test.YtahoeodpjdbdkabDoorShZ
import Derived.Test.YtahoeodpjdbdkabDoorSf
namespace Go.Proofs.YtahoeodpjdbdkabDoor
open Go.RowKit

theorem cE_zero {T d : Int} {W : Nat} {f : Nat → Int} {s : Wk} (h : xk T d W s = 0) : cE T d W f s = (rnl f (nA T W s.b s.t) d s.t (rom W s.t), shr T d (xs T d W s * (f (s.t + rnl f (nA T W s.b s.t) d s.t (rom W s.t)) - nA T W s.b s.t))) := by unfold cE; rw [if_pos h]
theorem cE_else {T d : Int} {W : Nat} {f : Nat → Int} {s : Wk} (h : xk T d W s ≠ 0) : cE T d W f s = (0, shr T d (xs T d W s * (f s.t - xp T d W s))) := by unfold cE; rw [if_neg h]

theorem it_cdr {T d : Int} {W n : Nat} {f : Nat → Int} {s s' : Wk} {x x' : Nat × Nat} (h : It T d W n (cdr T d W f) s x s' x') : s.t < n ∧ s' = itr T d W s (cE T d W f s) ∧ x' = bit T d W s (cE T d W f s) x := by
  obtain ⟨h0, ⟨hk, m, x1, hm, ⟨hr, hx⟩, h1⟩ | ⟨hk, q, ⟨hq, hx⟩, hs⟩⟩ := h
  · rw [cE_zero hk]
    rw [← hr]
    unfold itr bit
    simp only [if_pos hk]
    rcases h1 with ⟨h1, h2, h3⟩ | ⟨h1, q, ⟨hq, hx2⟩, hs⟩
    · rw [if_pos h1, if_pos h1, h3]; exact ⟨h0, h2, hx⟩
    · rw [if_neg h1, if_neg h1]
      have hq : q = shr T d (xs T d W s * (f (s.t + m) - nA T W s.b s.t)) := hq
      rw [← hq, ← hx]; exact ⟨h0, hs, hx2⟩
  · rw [cE_else hk]
    unfold itr bit
    simp only [if_neg hk]
    rw [← hq]; exact ⟨h0, hs, hx⟩

theorem rch_cdr {T d : Int} {W n : Nat} {f : Nat → Int} {s0 s : Wk} {x : Nat × Nat} (h : Rch T d W n (cdr T d W f) s0 (1, 8) s x) :
    ∃ j, s = stp T d W (cE T d W f) s0 j ∧ x = wrt T d W (cE T d W f) s0 j ∧ ∀ i, i < j → (stp T d W (cE T d W f) s0 i).t < n := by
  induction h with
  | refl => exact ⟨0, rfl, rfl, fun i hi => by omega⟩
  | tail h1 h2 ih =>
    obtain ⟨j, rfl, rfl, hj⟩ := ih
    obtain ⟨a, b, c⟩ := it_cdr h2
    refine ⟨j + 1, b, c, fun i hi => ?_⟩
    by_cases e : i = j
    · subst e; exact a
    · exact hj i (by omega)

theorem rw_few (r m room : Nat) : rw_ r m room ≤ m + 13 := by
  have h1 := cnt_le r m
  have h2 := J_le (rm r m)
  unfold rw_
  split
  · omega
  · split <;> omega
theorem bto_len {T d : Int} (G : Gd T d) (s : Wk) (k : Int) (least : Nat) (q : Int) (x : Nat × Nat) : (bto T d s k least q x).2 ≤ x.2 + 40 := by
  have := gw_le (fld q - least) (po s.L k) (wde T d) (po_le _ _) (by have := wde_in G; omega)
  show x.2 + _ ≤ _; omega
theorem bit_len {T d : Int} (G : Gd T d) {W : Nat} (s : Wk) (c : Nat × Int) (x : Nat × Nat) (hW : 1 ≤ W) : (bit T d W s c x).2 + 54 * s.t ≤ x.2 + 54 * (itr T d W s c).t := by
  have hr := rom_pos (t := s.t) hW
  unfold bit itr
  split
  · have h1 := rw_few s.r c.1 (rom W s.t)
    split
    · show x.2 + rw_ s.r c.1 (rom W s.t) + 54 * s.t ≤ x.2 + 54 * (s.t + c.1); omega
    · have h2 := bto_len G (gor T W s c.1) 0 1 c.2 (btr W s c.1 x)
      have h3 : (btr W s c.1 x).2 = x.2 + rw_ s.r c.1 (rom W s.t) := rfl
      show _ ≤ x.2 + 54 * (s.t + c.1 + 1); omega
  · have h2 := bto_len G s (xk T d W s) 0 c.2 x
    show _ ≤ x.2 + 54 * (s.t + 1); omega
theorem wrt_len {T d : Int} (G : Gd T d) {W : Nat} (c : Wk → Nat × Int) (s0 : Wk) (hW : 1 ≤ W) (j : Nat) : (wrt T d W c s0 j).2 ≤ 8 + 54 * (stp T d W c s0 j).t := by
  induction j with
  | zero => show 8 ≤ 8 + _; omega
  | succ j ih =>
    have := bit_len G (stp T d W c s0 j) (c (stp T d W c s0 j)) (wrt T d W c s0 j) hW
    show (bit _ _ _ _ _ _).2 ≤ 8 + 54 * (itr _ _ _ _ _).t
    omega

set_option maxHeartbeats 1000000 in
/-- A coder's two functions do what is wanted. -/
theorem chnd (w0 : World) (B P X G O : Nat) (T d D : Int) (W H n sb so sc : Nat) (f : Nat → Int) (hG : Gd T d) (hn : n ≤ 4194304) (hW : 1 ≤ W) (hW2 : W ≤ 4096) (hWH : n = W * H) (hf : ∀ i, 0 ≤ f i ∧ f i ≤ T) (s0 : Wk) :
    Hnd B P X G 71 T d D W n (cext sb so n sc d O) 43 44 (cdr T d W f) (Cm w0 B P X G O T d D W n sb so sc f) (fun _ _ => False) (Rch T d W n (cdr T d W f) s0 (1, 8)) := by
  have hT := hG.t0
  have hf2 : ∀ i, 0 ≤ f i ∧ f i ≤ 4095 := fun i => by have := hf i; omega
  refine ⟨fun w s x h => h.wm, fun w w' s s' x h hk hm => h.step hk hm, ?_, ?_⟩
  · intro w s x h hin ht hk hR
    have ha := nA_in hG hin hW
    have hr := rom_pos (t := s.t) hW
    have hr2 := rom_in (H := H) hW (show s.t < W * H by omega)
    obtain ⟨j, hs, hx, _⟩ := rch_cdr hR
    have hl := wrt_len hG (cE T d W f) s0 hW j
    rw [← hs, ← hx] at hl
    refine (crun_any w0 B P X G O T d D W n sb so sc f w s x h (nA T W s.b s.t) (rom W s.t) ha.1 (by omega) hr.1 (by omega) (by omega) hn hf2 (by omega)).mono ?_
    rintro e w' ⟨m, rfl, hm, hc, h98⟩
    exact .inl ⟨m, _, rfl, by rw [hm]; exact rnl_le _ _ _ _ _, ⟨hm, rfl⟩, hc, h98⟩
  · intro w s x k g p least h hin ht hP
    rcases hP with ⟨rfl, rfl, rfl, rfl, hk, hR⟩ | ⟨rfl, rfl, s1, x1, m, hm, hm2, ⟨hr, hx1⟩, hs, rfl, rfl, hk, hin1, ht1, hR⟩
    · obtain ⟨j, hs, hx, _⟩ := rch_cdr hR
      have hl := wrt_len hG (cE T d W f) s0 hW j
      rw [← hs, ← hx] at hl
      have hq := cE_q hG (f := f) hin hW hf
      rw [cE_else hk] at hq
      have hp := xp_in hG hin hW
      have hrg := rg_pos T d hG
      have hql : -5000 ≤ shr T d (xs T d W s * (f s.t - xp T d W s)) ∧ shr T d (xs T d W s * (f s.t - xp T d W s)) ≤ 5000 := by unfold fld at hq; dsimp only at hq; split at hq <;> omega
      refine (cone_any w0 B P X G O T d D W n sb so sc f w s x h hG _ _ _ 0 (xs_one ..) hp.1 (by omega) ht hf2 _ rfl hql.1 hql.2 (by omega) (lt_wde hG _ (by simpa using hq)) (by omega)).mono ?_
      rintro e w' ⟨rfl, hc, h98⟩
      exact .inl ⟨_, _, rfl, hql.1, hql.2, ⟨rfl, rfl⟩, hc, h98⟩
    · obtain ⟨j, hs', hx, _⟩ := rch_cdr hR
      have hl := wrt_len hG (cE T d W f) s0 hW j
      rw [← hs', ← hx] at hl
      have hq := cE_q hG (f := f) hin1 hW hf
      have hq1 := cE_run hG (f := f) hin1 hW hf hk
      rw [cE_zero hk, ← hr] at hq hq1
      have hq1 := hq1 (by show m < _; omega)
      have hp := nA_in hG hin1 hW
      have hrg := rg_pos T d hG
      have hst : s.t = s1.t + m := by rw [hs]; rfl
      rw [← hst] at hq hq1
      have hql : -5000 ≤ shr T d (xs T d W s1 * (f s.t - nA T W s1.b s1.t)) ∧ shr T d (xs T d W s1 * (f s.t - nA T W s1.b s1.t)) ≤ 5000 := by unfold fld at hq; dsimp only at hq; split at hq <;> omega
      have hw := rw_few s1.r m (rom W s1.t)
      have hr2 := rom_pos (t := s1.t) hW
      have hx2 : x.2 = x1.2 + rw_ s1.r m (rom W s1.t) := by rw [hx1]; rfl
      dsimp only at hq hq1
      refine (cone_any w0 B P X G O T d D W n sb so sc f w s x h hG _ _ _ 1 (xs_one ..) hp.1 (by omega) ht hf2 _ rfl hql.1 hql.2 hq1 (lt_wde hG _ (by omega)) (by omega)).mono ?_
      rintro e w' ⟨rfl, hc, h98⟩
      exact .inl ⟨_, _, rfl, hql.1, hql.2, ⟨rfl, rfl⟩, hc, h98⟩
end Go.Proofs.YtahoeodpjdbdkabDoor
