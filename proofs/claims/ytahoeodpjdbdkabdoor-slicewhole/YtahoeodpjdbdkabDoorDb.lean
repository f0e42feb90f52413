import Derived.Test.YtahoeodpjdbdkabDoorDa
import Derived.Test.YtahoeodpjdbdkabDoorSkZ
import Derived.Test.YtahoeodpjdbdkabDoorSg
namespace Go.Proofs.YtahoeodpjdbdkabDoor
open Go.RowKit

/-- The bytes begin with these bits. -/
def Holds (l : List Nat) (x : Nat × Nat) : Prop := x.2 ≤ 8 * l.length ∧ nextN l 0 x.2 = x.1

theorem holds_ap {l : List Nat} {x : Nat × Nat} {w v : Nat} (h : Holds l (ap x w v)) (hv : v < 2 ^ w) : Holds l x ∧ x.2 + w ≤ 8 * l.length ∧ nextN l x.2 w = v := by
  obtain ⟨h1, h2⟩ := h
  have h1 : x.2 + w ≤ 8 * l.length := h1
  have h2 : nextN l 0 (x.2 + w) = x.1 * 2 ^ w + v := h2
  have j := nextN_join l 0 x.2 w (by omega)
  rw [Nat.zero_add] at j
  rw [h2] at j
  have b := nextN_lt l x.2 w
  have d1 := two_parts x.1 w v hv
  have d2 := two_parts (nextN l 0 x.2) w _ b
  rw [← j] at d2
  refine ⟨⟨by omega, ?_⟩, h1, ?_⟩
  · rw [← d2.1, d1.1]
  · rw [← d2.2, d1.2]

theorem rch_lt {T d : Int} {W n : Nat} {f : Nat → Int} {J j : Nat} (hW : 1 ≤ W) (hE : Enc T d W n f J) (h : (stp T d W (cE T d W f) (wk0 T d) j).t < n) : j < J := by
  rcases Nat.lt_or_ge j J with h1 | h1
  · exact h1
  · rcases Nat.eq_or_lt_of_le h1 with h2 | h2
    · subst h2; have := hE.fin; omega
    · have := stp_lt (T := T) (d := d) (s := wk0 T d) (cE T d W f) hW J j h2
      have := hE.fin; omega

theorem fit_q {T d : Int} (G : Gd T d) {W : Nat} {f : Nat → Int} {s : Wk} (h : s.In T) (hW : 1 ≤ W) (hf : ∀ i, 0 ≤ f i ∧ f i ≤ T) (least : Nat) (k : Nat) : gf (fld (cE T d W f s).2 - least) k < 2 ^ gw (fld (cE T d W f s).2 - least) k (wde T d) := by
  refine gf_lt _ _ _ (lt_wde G _ ?_)
  have := cE_q G (f := f) h hW hf
  omega
theorem holds_bit {T d : Int} (G : Gd T d) {W : Nat} {f : Nat → Int} {s : Wk} {x : Nat × Nat} {l : List Nat} (h : s.In T) (hW : 1 ≤ W) (hf : ∀ i, 0 ≤ f i ∧ f i ≤ T) (hh : Holds l (bit T d W s (cE T d W f s) x)) : Holds l x := by
  unfold bit at hh
  split at hh
  · split at hh
    · exact (holds_ap hh (rf_lt _ _ _)).1
    · exact (holds_ap (holds_ap hh (fit_q G h hW hf _ _)).1 (rf_lt _ _ _)).1
  · exact (holds_ap hh (fit_q G h hW hf _ _)).1
theorem holds_wrt {T d : Int} (G : Gd T d) {W : Nat} {f : Nat → Int} {l : List Nat} (hW : 1 ≤ W) (hf : ∀ i, 0 ≤ f i ∧ f i ≤ T) (j k : Nat) (h : Holds l (wrt T d W (cE T d W f) (wk0 T d) (j + k))) : Holds l (wrt T d W (cE T d W f) (wk0 T d) j) := by
  induction k with
  | zero => exact h
  | succ k ih => exact ih (holds_bit G (stp_in G _ (wk0_in G) hW _) hW hf h)

set_option maxHeartbeats 1000000 in
/-- A decoder's two functions tell what the coder told. -/
theorem dhnd (w0 w1 : World) (B P X G O g : Nat) (T d D : Int) (W H n : Nat) (l : List Nat) (f : Nat → Int) (hG : Gd T d) (hW : 1 ≤ W) (hW2 : W ≤ 4096) (hWH : n = W * H) (hf : ∀ i, 0 ≤ f i ∧ f i ≤ T) (J : Nat) (hE : Enc T d W n f J) (hl : Holds l (wrt T d W (cE T d W f) (wk0 T d) J)) :
    Hnd B P X G 61 T d D W n (dext O) 37 38 (cdr T d W f) (fun w s x => Dm w0 B P X G O g T d D W n l w s x.2 ∧ Kept [B, P, X, G, O] w1 w) (fun _ _ => False) (Rch T d W n (cdr T d W f) (wk0 T d) (1, 8)) := by
  have hT := hG.t0
  have next : ∀ j, (stp T d W (cE T d W f) (wk0 T d) j).t < n → Holds l (bit T d W (stp T d W (cE T d W f) (wk0 T d) j) (cE T d W f (stp T d W (cE T d W f) (wk0 T d) j)) (wrt T d W (cE T d W f) (wk0 T d) j)) := by
    intro j hj
    have hlt := rch_lt hW hE hj
    exact holds_wrt hG hW hf (j + 1) (J - (j + 1)) (by rw [show j + 1 + (J - (j + 1)) = J by omega]; exact hl)
  refine ⟨fun w s x h => h.1.wm, fun w w' s s' x h hk hm => ⟨h.1.step hk hm, h.2.trans (hk.mono (fun y hy => by left; simp at hy ⊢; omega))⟩, ?_, ?_⟩
  · intro w s x ⟨h, hkw⟩ hin ht hk hR
    have hr := rom_pos (t := s.t) hW
    have hr2 := rom_in (H := H) hW (show s.t < W * H by omega)
    obtain ⟨j, hs, hx, _⟩ := rch_cdr hR
    have hn := next j (by rw [← hs]; exact ht)
    rw [← hs, ← hx] at hn
    have hm : (cE T d W f s).1 = rnl f (nA T W s.b s.t) d s.t (rom W s.t) := by rw [cE_zero hk]
    have hb : Holds l (btr W s (cE T d W f s).1 x) := by
      unfold bit at hn
      rw [if_pos hk] at hn
      split at hn
      · exact hn
      · exact (holds_ap hn (fit_q hG hin hW hf _ _)).1
    obtain ⟨_, h1, h2⟩ := holds_ap hb (rf_lt _ _ _)
    rw [hm] at h1 h2
    refine (drun_ok w0 B P X G O g T d D W n l w s x.2 h _ (rom W s.t) hr.1 (by omega) _ (rnl_le _ _ _ _ _) h1 h2).mono ?_
    rintro e w' ⟨rfl, hd, h98, hkk⟩
    exact .inl ⟨_, (btr W s (rnl f (nA T W s.b s.t) d s.t (rom W s.t)) x), rfl, rnl_le _ _ _ _ _, ⟨rfl, rfl⟩, ⟨hd, hkw.trans (hkk.mono (fun y hy => by left; simp at hy ⊢; omega))⟩, h98⟩
  · intro w s x k gg p least ⟨h, hkw⟩ hin ht hP
    rcases hP with ⟨rfl, rfl, rfl, rfl, hk, hR⟩ | ⟨rfl, rfl, s1, x1, m, hm, hm2, ⟨hr, hx1⟩, hs, rfl, rfl, hk, hin1, ht1, hR⟩
    · obtain ⟨j, hs, hx, _⟩ := rch_cdr hR
      have hn := next j (by rw [← hs]; exact ht)
      rw [← hs, ← hx] at hn
      have hq := cE_q hG (f := f) hin hW hf
      have fq := fit_q hG hin hW hf 0 (po s.L (xk T d W s))
      unfold bit at hn
      rw [if_neg hk, cE_else hk] at hn
      rw [cE_else hk] at hq fq
      have hrg := rg_pos T d hG
      dsimp only at hq hn fq
      obtain ⟨_, h1, h2⟩ := holds_ap hn fq
      have hql : -5000 ≤ shr T d (xs T d W s * (f s.t - xp T d W s)) ∧ shr T d (xs T d W s * (f s.t - xp T d W s)) ≤ 5000 := by unfold fld at hq; split at hq <;> omega
      refine (done_ok w0 B P X G O g T d D W n l w s x.2 h hG _ _ _ 0 (shr T d (xs T d W s * (f s.t - xp T d W s))) (fld (shr T d (xs T d W s * (f s.t - xp T d W s))) - 0) (lt_wde hG _ (by simpa using hq)) (by omega) hq h1 h2).mono ?_
      rintro e w' ⟨rfl, hc, h98, hkk⟩
      exact .inl ⟨_, (bto T d s (xk T d W s) 0 (shr T d (xs T d W s * (f s.t - xp T d W s))) x), rfl, hql.1, hql.2, ⟨rfl, rfl⟩, ⟨hc, hkw.trans (hkk.mono (fun y hy => by left; simp at hy ⊢; omega))⟩, h98⟩
    · obtain ⟨j, hs', hx, _⟩ := rch_cdr hR
      have hn := next j (by rw [← hs']; exact ht1)
      rw [← hs', ← hx] at hn
      have hq := cE_q hG (f := f) hin1 hW hf
      have hq1 := cE_run hG (f := f) hin1 hW hf hk
      have fq := fit_q hG hin1 hW hf 1 (po s.L 0)
      unfold bit at hn
      rw [if_pos hk] at hn
      rw [cE_zero hk, ← hr] at hq hq1 fq hn
      have hq1 := hq1 (by show m < _; omega)
      dsimp only at hn
      rw [if_neg hm2] at hn
      have hrg := rg_pos T d hG
      have hst : s.t = s1.t + m := by rw [hs]; rfl
      have hsL : (gor T W s1 m) = s := hs.symm
      rw [hsL] at hn
      rw [← hst] at hq hq1 hn fq
      have hx1' : btr W s1 m x1 = x := hx1.symm
      rw [hx1'] at hn
      dsimp only at hq hq1 fq
      obtain ⟨_, h1, h2⟩ := holds_ap hn fq
      have hql : -5000 ≤ shr T d (xs T d W s1 * (f s.t - nA T W s1.b s1.t)) ∧ shr T d (xs T d W s1 * (f s.t - nA T W s1.b s1.t)) ≤ 5000 := by unfold fld at hq; split at hq <;> omega
      refine (done_ok w0 B P X G O g T d D W n l w s x.2 h hG _ _ _ 1 (shr T d (xs T d W s1 * (f s.t - nA T W s1.b s1.t))) (fld (shr T d (xs T d W s1 * (f s.t - nA T W s1.b s1.t))) - 1) (lt_wde hG _ (by omega)) (by omega) hq h1 h2).mono ?_
      rintro e w' ⟨rfl, hc, h98, hkk⟩
      exact .inl ⟨_, (bto T d s 0 1 (shr T d (xs T d W s1 * (f s.t - nA T W s1.b s1.t))) x), rfl, hql.1, hql.2, ⟨rfl, rfl⟩, ⟨hc, hkw.trans (hkk.mono (fun y hy => by left; simp at hy ⊢; omega))⟩, h98⟩
end Go.Proofs.YtahoeodpjdbdkabDoor
