import Derived.Test.YtahoeodpjdbdkabDoorFuZ
namespace Go.Proofs.YtahoeodpjdbdkabDoor
open Go.RowKit

theorem fc_flat (T d c : Int) (hd : 0 ≤ d) : fc T d c c c c = 0 := by
  have h : dg T d 0 = 0 := by unfold dg; rw [if_neg (by omega)]; unfold sz; rw [if_pos hd]
  have e : fk T d c c c c = 0 := by unfold fk; rw [Int.sub_self, h]; rfl
  unfold fc; rw [e]; rfl
theorem rnl_all (f : Nat → Int) (a d : Int) (m : Nat) (h : ∀ i, nea d a (f i) = true) : ∀ t, rnl f a d t m = m := by
  induction m with
  | zero => intro t; rfl
  | succ m ih => intro t; unfold rnl; rw [if_pos (h t), ih]
theorem rnl_no (f : Nat → Int) (a d : Int) (m t : Nat) (h : nea d a (f t) = false) : rnl f a d t m = 0 := by
  cases m with
  | zero => rfl
  | succ m => unfold rnl; rw [h]; rfl

/-- A state all of whose samples are the same. -/
structure Fl (T d : Int) (W : Nat) (v c : Int) (s : Wk) : Prop where
  k0 : xk T d W s = 0
  a_ : nA T W s.b s.t = c
  nr : v - c ≤ d ∧ c - v ≤ d

theorem fl_of {T d : Int} {W : Nat} {v c : Int} {s : Wk} (hd : 0 ≤ d) (hW : 1 ≤ W) (ht : 1 ≤ s.t) (hb : ∀ i, i < s.t → s.b i = c) (hn : v - c ≤ d ∧ c - v ≤ d) : Fl T d W v c s := by
  have hm : s.t % W < W := Nat.mod_lt _ (by omega)
  have a : nA T W s.b s.t = c := by
    unfold nA
    split
    · rw [if_neg (by omega)]; exact hb _ (by omega)
    · split
      · exact hb _ (by omega)
      · exact hb _ (by omega)
  have b : nB T W s.b s.t = c := by
    unfold nB
    split
    · exact a
    · exact hb _ (by omega)
  have c' : nC T W s.b s.t = c := by
    unfold nC
    split
    · exact a
    · split
      · exact hb _ (by omega)
      · exact hb _ (by omega)
  have e : nE T W s.b s.t = c := by
    unfold nE
    split
    · exact a
    · split
      · exact hb _ (by omega)
      · exact hb _ (by omega)
  exact ⟨by unfold xk; rw [a, b, c', e]; exact fc_flat T d c hd, a, hn⟩

theorem fl_zero {T d : Int} {W : Nat} {v : Int} (hd : 0 ≤ d) (hW : 1 ≤ W) (hn : v - (T + 1) / 2 ≤ d ∧ (T + 1) / 2 - v ≤ d) : Fl T d W v ((T + 1) / 2) (wk0 T d) := by
  have a : nA T W (wk0 T d).b (wk0 T d).t = (T + 1) / 2 := by
    unfold nA
    rw [if_pos (show (wk0 T d).t < W from hW), if_pos (show (wk0 T d).t = 0 from rfl)]
  have b : nB T W (wk0 T d).b (wk0 T d).t = (T + 1) / 2 := by
    unfold nB; rw [if_pos (show (wk0 T d).t < W from hW)]; exact a
  have c : nC T W (wk0 T d).b (wk0 T d).t = (T + 1) / 2 := by
    unfold nC; rw [if_pos (show (wk0 T d).t < W from hW)]; exact a
  have e : nE T W (wk0 T d).b (wk0 T d).t = (T + 1) / 2 := by
    unfold nE; rw [if_pos (show (wk0 T d).t < W from hW)]; exact a
  exact ⟨by unfold xk; rw [a, b, c, e]; exact fc_flat T d _ hd, a, hn⟩

/-- A round of such a state is the rest of its row. -/
theorem fl_round {T d : Int} {W : Nat} {v c : Int} {s : Wk} {x : Nat × Nat} (h : Fl T d W v c s) (hW : 1 ≤ W) (hW2 : W ≤ 4096) (hr : s.r ≤ 22) :
    let f : Nat → Int := fun _ => v
    (itr T d W s (cE T d W f s)).t = s.t + rom W s.t ∧ (∀ i, (itr T d W s (cE T d W f s)).b i = if s.t ≤ i ∧ i < s.t + rom W s.t then c else s.b i) ∧ (bit T d W s (cE T d W f s) x).2 + s.r ≤ x.2 + (itr T d W s (cE T d W f s)).r + 1 := by
  intro f
  have hc : (cE T d W f s).1 = rom W s.t := by
    unfold cE
    rw [if_pos h.k0]
    exact rnl_all f _ d _ (fun i => (nea_iff _ _ _).2 (by rw [h.a_]; exact h.nr)) _
  have hm : s.t % W < W := Nat.mod_lt _ (by omega)
  have hi : itr T d W s (cE T d W f s) = gor T W s (rom W s.t) := by unfold itr; rw [if_pos h.k0, hc, if_pos rfl]
  have hb : bit T d W s (cE T d W f s) x = btr W s (rom W s.t) x := by unfold bit; rw [if_pos h.k0, hc, if_pos rfl]
  rw [hi, hb]
  refine ⟨rfl, fun i => ?_, ?_⟩
  · show fil s.b s.t (rom W s.t) (nA T W s.b s.t) i = _
    rw [h.a_]; rfl
  · have := row_bits s.r (rom W s.t) hr (by unfold rom; omega) (by unfold rom; omega)
    show x.2 + rw_ s.r (rom W s.t) (rom W s.t) + s.r ≤ x.2 + rr s.r (rom W s.t) (rom W s.t) + 1
    omega

theorem rom_div (W t : Nat) (hW : 1 ≤ W) : (t + rom W t) / W = t / W + 1 := by
  unfold rom
  have h := Nat.div_add_mod t W
  have hm : t % W < W := Nat.mod_lt _ (by omega)
  have e : t + (W - t % W) = (t / W + 1) * W := by
    rw [Nat.add_mul, Nat.one_mul, Nat.mul_comm (t / W) W]; omega
  rw [e, Nat.mul_div_cancel _ (by omega)]

/-- What stands behind some rounds of a block of one sample. -/
theorem fl_inv {T d : Int} (G : Gd T d) {W : Nat} {v : Int} (hW : 1 ≤ W) (hW2 : W ≤ 4096) (h0 : 0 ≤ v) (h1 : v ≤ T) (j : Nat) :
    ∃ c, v - c ≤ d ∧ c - v ≤ d ∧ (∀ i, i < (sw T d W (fun _ => v) (j + 1)).t → (sw T d W (fun _ => v) (j + 1)).b i = c) ∧ 1 ≤ (sw T d W (fun _ => v) (j + 1)).t ∧ (xw T d W (fun _ => v) (j + 1)).2 ≤ 49 + (sw T d W (fun _ => v) (j + 1)).r + (sw T d W (fun _ => v) (j + 1)).t / W := by
  induction j with
  | zero =>
    by_cases hn : v - (T + 1) / 2 ≤ d ∧ (T + 1) / 2 - v ≤ d
    · have hF := fl_zero (W := W) (T := T) G.lo hW hn
      obtain ⟨r1, r2, r3⟩ := fl_round (x := (1, 8)) hF hW hW2 (Nat.zero_le _)
      have e0 : (wk0 T d).t = 0 := rfl
      have hro : rom W 0 = W := by unfold rom; rw [Nat.zero_mod]; omega
      rw [e0, hro, Nat.zero_add] at r1
      refine ⟨(T + 1) / 2, hn.1, hn.2, fun i hi => ?_, ?_, ?_⟩
      · have hi : i < (itr T d W (wk0 T d) (cE T d W (fun _ => v) (wk0 T d))).t := hi
        rw [r1] at hi
        have := r2 i
        rw [e0, hro, Nat.zero_add, if_pos ⟨Nat.zero_le _, hi⟩] at this
        exact this
      · show 1 ≤ (itr T d W (wk0 T d) (cE T d W (fun _ => v) (wk0 T d))).t
        rw [r1]; exact hW
      · have r3 : (xw T d W (fun _ => v) 1).2 + 0 ≤ 8 + (sw T d W (fun _ => v) 1).r + 1 := r3
        have hq : 0 ≤ (sw T d W (fun _ => v) 1).t / W := Nat.zero_le _
        show (xw T d W (fun _ => v) 1).2 ≤ 49 + (sw T d W (fun _ => v) 1).r + (sw T d W (fun _ => v) 1).t / W
        generalize (sw T d W (fun _ => v) 1).t / W = qq at *
        omega
    · have ha : nA T W (wk0 T d).b (wk0 T d).t = (T + 1) / 2 := by
        unfold nA
        rw [if_pos (show (wk0 T d).t < W from hW), if_pos (show (wk0 T d).t = 0 from rfl)]
      have hk : xk T d W (wk0 T d) = 0 := by
        have b : nB T W (wk0 T d).b (wk0 T d).t = (T + 1) / 2 := by
          unfold nB; rw [if_pos (show (wk0 T d).t < W from hW)]; exact ha
        have c : nC T W (wk0 T d).b (wk0 T d).t = (T + 1) / 2 := by
          unfold nC; rw [if_pos (show (wk0 T d).t < W from hW)]; exact ha
        have e : nE T W (wk0 T d).b (wk0 T d).t = (T + 1) / 2 := by
          unfold nE; rw [if_pos (show (wk0 T d).t < W from hW)]; exact ha
        unfold xk; rw [ha, b, c, e]; exact fc_flat T d _ G.lo
      have hro : rom W (wk0 T d).t = W := by show rom W 0 = W; unfold rom; rw [Nat.zero_mod]; omega
      have hne : nea d ((T + 1) / 2) v = false := by
        cases hq : nea d ((T + 1) / 2) v with
        | false => rfl
        | true => exact absurd ((nea_iff _ _ _).1 hq) hn
      have hc : (cE T d W (fun _ => v) (wk0 T d)).1 = 0 := by
        unfold cE
        rw [if_pos hk, ha]
        exact rnl_no _ _ d _ _ hne
      have hi : itr T d W (wk0 T d) (cE T d W (fun _ => v) (wk0 T d)) = goo T d (gor T W (wk0 T d) 0) 0 (xs T d W (wk0 T d)) (nA T W (wk0 T d).b (wk0 T d).t) (cE T d W (fun _ => v) (wk0 T d)).2 := by
        unfold itr; rw [if_pos hk, hc, if_neg (by rw [hro]; omega)]
      have hb : bit T d W (wk0 T d) (cE T d W (fun _ => v) (wk0 T d)) (1, 8) = bto T d (gor T W (wk0 T d) 0) 0 1 (cE T d W (fun _ => v) (wk0 T d)).2 (btr W (wk0 T d) 0 (1, 8)) := by
        unfold bit; rw [if_pos hk, hc, if_neg (by rw [hro]; omega)]
      have ht : (sw T d W (fun _ => v) (0 + 1)).t = 1 := by
        show (itr T d W (wk0 T d) (cE T d W (fun _ => v) (wk0 T d))).t = 1
        rw [hi]; rfl
      have hnr := stp_near G (wk0_in G) hW (f := fun _ => v) (fun _ => ⟨h0, h1⟩) rfl (0 + 1) 0 (by show 0 < (sw T d W (fun _ => v) (0 + 1)).t; rw [ht]; omega)
      have hnr : -d ≤ (sw T d W (fun _ => v) (0 + 1)).b 0 - v ∧ (sw T d W (fun _ => v) (0 + 1)).b 0 - v ≤ d := hnr
      refine ⟨(sw T d W (fun _ => v) (0 + 1)).b 0, by omega, by omega, fun i hi => ?_, by omega, ?_⟩
      · obtain rfl : i = 0 := by omega
        rfl
      · have e1 : (btr W (wk0 T d) 0 (1, 8)).2 ≤ 9 := by
          show 8 + rw_ 0 0 (rom W (wk0 T d).t) ≤ 9
          rw [hro]
          unfold rw_
          rw [if_pos (by omega), show cnt 0 0 = 0 from rfl, show J (rm 0 0) = 0 from by decide]
          exact Nat.le_refl _
        have e2 := bto_len G (gor T W (wk0 T d) 0) 0 1 (cE T d W (fun _ => v) (wk0 T d)).2 (btr W (wk0 T d) 0 (1, 8))
        have e3 : (xw T d W (fun _ => v) (0 + 1)).2 = (bto T d (gor T W (wk0 T d) 0) 0 1 (cE T d W (fun _ => v) (wk0 T d)).2 (btr W (wk0 T d) 0 (1, 8))).2 := congrArg Prod.snd hb
        have hq : 0 ≤ (sw T d W (fun _ => v) (0 + 1)).t / W := Nat.zero_le _
        generalize (sw T d W (fun _ => v) (0 + 1)).t / W = qq at *
        omega
  | succ j ih =>
    obtain ⟨c, n1, n2, hb, ht, hx⟩ := ih
    have hin := stp_in G (cE T d W (fun _ => v)) (wk0_in G) hW (j + 1)
    have hF := fl_of (T := T) (W := W) G.lo hW ht hb ⟨n1, n2⟩
    obtain ⟨r1, r2, r3⟩ := fl_round (x := xw T d W (fun _ => v) (j + 1)) hF hW hW2 hin.rate
    have r1 : (sw T d W (fun _ => v) (j + 1 + 1)).t = (sw T d W (fun _ => v) (j + 1)).t + rom W (sw T d W (fun _ => v) (j + 1)).t := r1
    have r2 : ∀ i, (sw T d W (fun _ => v) (j + 1 + 1)).b i = if (sw T d W (fun _ => v) (j + 1)).t ≤ i ∧ i < (sw T d W (fun _ => v) (j + 1)).t + rom W (sw T d W (fun _ => v) (j + 1)).t then c else (sw T d W (fun _ => v) (j + 1)).b i := r2
    have r3 : (xw T d W (fun _ => v) (j + 1 + 1)).2 + (sw T d W (fun _ => v) (j + 1)).r ≤ (xw T d W (fun _ => v) (j + 1)).2 + (sw T d W (fun _ => v) (j + 1 + 1)).r + 1 := r3
    refine ⟨c, n1, n2, fun i hi => ?_, by omega, ?_⟩
    · rw [r2 i]
      split
      · rfl
      · exact hb i (by omega)
    · have := rom_div W (sw T d W (fun _ => v) (j + 1)).t hW
      rw [r1, this]
      omega

/-- A block of one sample: what comes back is one sample, and the bits are few. -/
theorem fl_tell {T d D : Int} {W H n : Nat} {v : Int} {x : Nat × Nat} {b : Nat → Int} (B : Blk W H n D T d (fun _ => v)) (h : Tell T d D W H n (fun _ => v) x b) :
    (∃ c, ∀ i, i < n → b i = c) ∧ nby x ≤ 1 + (H + 63 + 7) / 8 := by
  have hw := B.w
  obtain ⟨_, hk⟩ := (⟨trivial, rfl⟩ : True ∧ W = W)
  have h2 := tell_first B h
  obtain ⟨j, hj, hc⟩ := h
  have hv := B.f_ 0
  cases j with
  | zero => have := hj.fin; have : 0 = n := this; omega
  | succ j =>
    obtain ⟨c, n1, n2, hb, ht, hx⟩ := fl_inv B.gd (W := W) hw.1 hw.2.1 hv.1 hv.2 j
    have hr := (stp_in B.gd (cE T d W (fun _ => v)) (wk0_in B.gd) hw.1 (j + 1)).rate
    have hfin : (sw T d W (fun _ => v) (j + 1)).t = n := hj.fin
    have hdiv : n / W = H := by rw [B.n_]; exact Nat.mul_div_cancel_left _ (by omega)
    rw [hfin, hdiv] at hx
    have hr : (sw T d W (fun _ => v) (j + 1)).r ≤ 22 := hr
    have hN : nby (xw T d W (fun _ => v) (j + 1)) ≤ 1 + (H + 63 + 7) / 8 := by unfold nby; omega
    rcases hc with ⟨_, rfl, rfl⟩ | ⟨hge, hxe, rfl⟩
    · exact ⟨⟨c, fun i hi => hb i (by rw [hfin]; exact hi)⟩, hN⟩
    · refine ⟨⟨v, fun _ _ => rfl⟩, ?_⟩
      obtain ⟨c0, t0, _, h3⟩ := h2
      rcases h3 with ⟨_, h3⟩ | ⟨_, h3, _⟩ <;> omega
end Go.Proofs.YtahoeodpjdbdkabDoor
