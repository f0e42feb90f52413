import Derived.Test.YtahoeodpjdbdkabDoorHcZ
import Derived.Test.YtahoeodpjdbdkabDoorFuZ
namespace Go.Proofs.YtahoeodpjdbdkabDoor
open Go.RowKit

/-- The one list begins with the other. -/
def Agr (l L : List Nat) : Prop := l.length ≤ L.length ∧ ∀ a b, a + b ≤ 8 * l.length → nextN L a b = nextN l a b
theorem agr_refl (l : List Nat) : Agr l l := ⟨Nat.le_refl _, fun _ _ _ => rfl⟩
theorem agr_app (l m : List Nat) (hm : Byts m) : Agr l (l ++ m) := by
  refine ⟨by simp, fun a b h => ?_⟩
  have h2 : num m < 2 ^ (8 * m.length) := by
    have := num_lt m hm
    rwa [show 256 ^ m.length = 2 ^ (8 * m.length) by rw [Nat.pow_mul]] at this
  unfold nextN
  rw [num_append, List.length_append, show 256 ^ m.length = 2 ^ (8 * m.length) by rw [Nat.pow_mul], show 8 * (l.length + m.length) - (a + b) = 8 * m.length + (8 * l.length - (a + b)) by omega, Nat.pow_add, ← Nat.div_div_eq_div_mul, Nat.add_comm, Nat.add_mul_div_right _ _ (Nat.two_pow_pos _), Nat.div_eq_of_lt h2, Nat.zero_add]

theorem num_agr {l L : List Nat} (A : Agr l L) {t k wide : Nat} {X : Int} {t' : Nat} (h : NumRes l t k wide X 0 t') : NumRes L t k wide X 0 t' := by
  rcases numRes_ok h with ⟨_, v, rfl, hv, rfl, hle, hb⟩ | ⟨hE, _⟩
  · have hA := A.1
    obtain ⟨X2, E2, t2, h2⟩ := numRes_ex L t k wide (by omega)
    obtain ⟨rfl, rfl, rfl⟩ := numRes_form h2 hv (by omega) (by rw [A.2 _ _ hle]; exact hb)
    exact h2
  · rcases hE with h | h <;> cases h
theorem run_agr {l L : List Nat} (A : Agr l L) {t r room : Nat} {X : Int} {t' r' : Nat} (h : RunRes l t r room X 0 t' r') : RunRes L t r room X 0 t' r' := by
  rcases runRes_ok h with ⟨_, n, rfl, hn, rfl, hle, rfl, hb⟩ | ⟨hE, _⟩
  · have hA := A.1
    obtain ⟨X2, E2, t2, r2, h2⟩ := runRes_ex L t r room (by omega)
    obtain ⟨rfl, rfl, rfl, rfl⟩ := runRes_form h2 hn (by omega) (by rw [A.2 _ _ hle]; exact hb)
    exact h2
  · rcases hE with h | h <;> cases h

theorem fld_inj {p q : Int} (h : fld p = fld q) : p = q := by
  unfold fld at h
  split at h <;> split at h <;> omega

/-- What is read at a round of bytes that hold what the coder told there. -/
theorem fol_step {T d : Int} (G : Gd T d) {W : Nat} {f : Nat → Int} {s : Wk} {x : Nat × Nat} {L : List Nat} (hin : s.In T) (hW : 1 ≤ W) (hf : ∀ i, 0 ≤ f i ∧ f i ≤ T) (hh : Holds L (bit T d W s (cE T d W f s) x)) :
    (xk T d W s = 0 → (∀ X E t' r', RunRes L x.2 s.r (rom W s.t) X E t' r' → X = ((cE T d W f s).1 : Int) ∧ E = 0 ∧ t' = (btr W s (cE T d W f s).1 x).2) ∧
      ((cE T d W f s).1 ≠ rom W s.t → ∀ X E t', NumRes L (btr W s (cE T d W f s).1 x).2 (po s.L 0) (wde T d) X E t' → E = 0 ∧ X + 1 = (fld (cE T d W f s).2 : Int) ∧ t' = (bit T d W s (cE T d W f s) x).2)) ∧
    (xk T d W s ≠ 0 → ∀ X E t', NumRes L x.2 (po s.L (xk T d W s)) (wde T d) X E t' → E = 0 ∧ X = (fld (cE T d W f s).2 : Int) ∧ t' = (bit T d W s (cE T d W f s) x).2) := by
  have hq := cE_q G (f := f) hin hW hf
  have hle := cE_le T d W f s
  have hq1 := fun hk => cE_run G (f := f) hin hW hf (s := s) hk
  have f0 := fit_q G hin hW hf (f := f) 0 (po s.L (xk T d W s))
  have f1 := fit_q G hin hW hf (f := f) 1 (po s.L 0)
  have hwd : fld (cE T d W f s).2 < 2 ^ wde T d := lt_wde G _ hq
  generalize cE T d W f s = c at *
  constructor
  · intro hk
    unfold bit at hh ⊢
    rw [if_pos hk] at hh ⊢
    have hb : Holds L (btr W s c.1 x) := by
      split at hh
      · exact hh
      · exact (holds_ap hh f1).1
    obtain ⟨_, h1, h2⟩ := holds_ap hb (rf_lt _ _ _)
    refine ⟨fun X E t' r' h => ?_, fun hm X E t' h => ?_⟩
    · obtain ⟨e1, e2, e3, _⟩ := runRes_form h hle h1 h2
      exact ⟨e1, e2, e3⟩
    · rw [if_neg hm] at hh ⊢
      have g1 := hq1 hk (by omega)
      obtain ⟨_, h3, h4⟩ := holds_ap hh f1
      obtain ⟨e1, e2, e3⟩ := numRes_form h (v := fld c.2 - 1) (by omega) h3 h4
      exact ⟨e2, by omega, e3⟩
  · intro hk X E t' h
    unfold bit at hh ⊢
    rw [if_neg hk] at hh ⊢
    obtain ⟨_, h3, h4⟩ := holds_ap hh f0
    obtain ⟨e1, e2, e3⟩ := numRes_form h (v := fld c.2 - 0) (by omega) h3 h4
    exact ⟨e2, by omega, e3⟩

/-- A round of the decoder is the coder's. -/
theorem fol_it {T d : Int} (G : Gd T d) {W n : Nat} {f : Nat → Int} {s s' : Wk} {x : Nat × Nat} {x' : Nat} {l L : List Nat} (A : Agr l L) (hin : s.In T) (hW : 1 ≤ W) (hf : ∀ i, 0 ≤ f i ∧ f i ≤ T) (hh : Holds L (bit T d W s (cE T d W f s) x)) (h : It T d W n (dvr T d W l) s x.2 s' x') :
    s' = itr T d W s (cE T d W f s) ∧ x' = (bit T d W s (cE T d W f s) x).2 := by
  obtain ⟨z0, z1⟩ := fol_step G hin hW hf hh
  obtain ⟨_, ⟨hk, m, x1, hm, hr, h⟩ | ⟨hk, q, ⟨v, hn, hv, _⟩, rfl⟩⟩ := h
  · obtain ⟨a1, a2⟩ := z0 hk
    obtain ⟨b1, _, rfl⟩ := a1 _ _ _ _ (run_agr A hr)
    obtain rfl : m = (cE T d W f s).1 := by omega
    rcases h with ⟨e, rfl, rfl⟩ | ⟨e, q, ⟨v, hn, hv, _⟩, rfl⟩
    · unfold itr bit
      rw [if_pos hk, if_pos e, if_pos hk, if_pos e]
      exact ⟨rfl, rfl⟩
    · obtain ⟨_, c1, rfl⟩ := a2 e _ _ _ (num_agr A hn)
      obtain rfl : q = (cE T d W f s).2 := fld_inj (by omega)
      unfold itr
      rw [if_pos hk, if_neg e]
      exact ⟨rfl, rfl⟩
  · obtain ⟨_, c1, rfl⟩ := z1 hk _ _ _ (num_agr A hn)
    obtain rfl : q = (cE T d W f s).2 := fld_inj (by omega)
    unfold itr
    rw [if_neg hk]
    exact ⟨rfl, rfl⟩
theorem fol_stk {T d : Int} (G : Gd T d) {W n : Nat} {f : Nat → Int} {s : Wk} {x : Nat × Nat} {L : List Nat} (hin : s.In T) (hW : 1 ≤ W) (hf : ∀ i, 0 ≤ f i ∧ f i ≤ T) (hh : Holds L (bit T d W s (cE T d W f s) x)) (h : Stk T d W n (dvr T d W L) s x.2) : False := by
  have hq := cE_q G (f := f) hin hW hf
  obtain ⟨z0, z1⟩ := fol_step G hin hW hf hh
  obtain ⟨_, ⟨hk, ⟨X, E, t', r', hr, hE⟩ | ⟨m, x1, hm, hm2, hr, h⟩⟩ | ⟨hk, h⟩⟩ := h
  · exact hE ((z0 hk).1 _ _ _ _ hr).2.1
  · obtain ⟨a1, a2⟩ := z0 hk
    obtain ⟨b1, _, rfl⟩ := a1 _ _ _ _ hr
    obtain rfl : m = (cE T d W f s).1 := by omega
    rcases h with ⟨X, E, t', hn, hE⟩ | ⟨v, x', hn, hv⟩
    · exact hE (a2 hm2 _ _ _ hn).1
    · have := (a2 hm2 _ _ _ hn).2.1
      omega
  · rcases h with ⟨X, E, t', hn, hE⟩ | ⟨v, x', hn, hv⟩
    · exact hE (z1 hk _ _ _ hn).1
    · have := (z1 hk _ _ _ hn).2.1
      omega

/-- Where the decoder comes to, of bytes that begin as what was told. -/
theorem fol_rch {T d : Int} (G : Gd T d) {W n : Nat} {f : Nat → Int} {J : Nat} {l L : List Nat} (A : Agr l L) (hW : 1 ≤ W) (hf : ∀ i, 0 ≤ f i ∧ f i ≤ T) (hE : Enc T d W n f J) (hl : Holds L (xw T d W f J)) {s : Wk} {x' : Nat} (h : Rch T d W n (dvr T d W l) (wk0 T d) 8 s x') :
    ∃ j, s = sw T d W f j ∧ x' = (xw T d W f j).2 ∧ (s.t < n → Holds L (bit T d W s (cE T d W f s) (xw T d W f j))) ∧ (s.t = n → j = J) := by
  have next : ∀ j, (sw T d W f j).t < n → Holds L (bit T d W (sw T d W f j) (cE T d W f (sw T d W f j)) (xw T d W f j)) := by
    intro j hj
    have hlt := rch_lt hW hE hj
    exact holds_wrt G hW hf (j + 1) (J - (j + 1)) (by rw [show j + 1 + (J - (j + 1)) = J by omega]; exact hl)
  have fin : ∀ j, (sw T d W f j).t = n → j = J := by
    intro j hj
    rcases Nat.lt_trichotomy j J with e | e | e
    · have := hE.all j e; have hj : (stp T d W (cE T d W f) (wk0 T d) j).t = n := hj; omega
    · exact e
    · have := stp_lt (T := T) (d := d) (s := wk0 T d) (cE T d W f) hW J j e
      have := hE.fin
      have hj : (stp T d W (cE T d W f) (wk0 T d) j).t = n := hj
      omega
  have key : ∃ j, s = sw T d W f j ∧ x' = (xw T d W f j).2 := by
    induction h with
    | refl => exact ⟨0, rfl, rfl⟩
    | tail _ hi ih =>
      obtain ⟨j, rfl, rfl⟩ := ih
      obtain ⟨e1, e2⟩ := fol_it G A (stp_in G _ (wk0_in G) hW j) hW hf (next j hi.1) hi
      exact ⟨j + 1, e1, e2⟩
  obtain ⟨j, rfl, rfl⟩ := key
  exact ⟨j, rfl, rfl, next j, fin j⟩

/-- Each beginning of what was told is refused. -/
theorem tell_cut {W H n : Nat} {D T d : Int} {f b : Nat → Int} {x : Nat × Nat} (B : Blk W H n D T d f) (ht : Tell T d D W H n f x b) {k : Nat} (hk : k < nby x) {E : Int} {s : Wk} (h : RdRes T d D W n ((byts x).take k) E s) : E = 102 := by
  have hw := B.w
  obtain ⟨hlen, hB, hh, _, _⟩ := byts_hold (tell_lt B.gd B.dp hw.1 B.f_ ht)
  obtain ⟨c0, t0, hct, hkind⟩ := tell_first B ht
  have A : Agr ((byts x).take k) (byts x) := by
    have := agr_app ((byts x).take k) ((byts x).drop k) (fun b hb => hB b (List.mem_of_mem_drop hb))
    rwa [List.take_append_drop] at this
  have hl : ((byts x).take k).length = k := by rw [List.length_take, hlen]; omega
  have hlt : 8 * k < x.2 := by unfold nby at hk; omega
  have h8 : ∀ c, 1 ≤ ((byts x).take k).length → nextN ((byts x).take k) 0 8 = c → nextN (byts x) 0 8 = c := fun c h1 h2 => by rw [A.2 0 8 (by omega)]; exact h2
  obtain ⟨j, hj, ⟨hc, rfl, rfl⟩ | ⟨hc, rfl, rfl⟩⟩ := ht
  · have h0 : Holds _ (1, 8) := holds_wrt B.gd hw.1 B.f_ 0 j (by rw [Nat.zero_add]; exact hh)
    have h01 : nextN _ 0 8 = 1 := h0.2
    rcases h with ⟨_, rfl⟩ | ⟨_, _, rfl⟩ | ⟨_, _, _, rfl⟩ | ⟨a1, a2, _⟩ | ⟨_, _, rfl, _⟩ | ⟨_, _, a3, _, x', a5, a6, _⟩
    · rfl
    · rfl
    · rfl
    · have := h8 _ a1 a2; omega
    · rfl
    · obtain ⟨i, rfl, rfl, _, hi⟩ := fol_rch B.gd A hw.1 B.f_ hj hh a6
      obtain rfl := hi a3
      rw [hl] at a5
      omega
  · have h0 : Holds _ (0, 8) := holds_rwb (fun i => B.dp.up (B.f_ i).1 (B.f_ i).2) 0 n (by rw [Nat.zero_add]; exact hh)
    have h01 : nextN _ 0 8 = 0 := h0.2
    rw [rwb_len] at hlt
    rcases h with ⟨_, rfl⟩ | ⟨_, _, rfl⟩ | ⟨_, _, _, rfl⟩ | ⟨a1, a2, a3, _⟩ | ⟨_, _, rfl, _⟩ | ⟨a1, a2, _⟩
    · rfl
    · rfl
    · rfl
    · rw [hl] at a3; omega
    · rfl
    · have := h8 _ a1 a2; omega

/-- The whole with something behind it is refused. -/
theorem tell_more {W H n : Nat} {D T d : Int} {f b : Nat → Int} {x : Nat × Nat} (B : Blk W H n D T d f) (ht : Tell T d D W H n f x b) {m : List Nat} (hm : Byts m) (h1 : 1 ≤ m.length) {E : Int} {s : Wk} (h : RdRes T d D W n (byts x ++ m) E s) : E = 103 := by
  have hw := B.w
  obtain ⟨hlen, hB, hh, hp, hz⟩ := byts_hold (tell_lt B.gd B.dp hw.1 B.f_ ht)
  have A := agr_app (byts x) m hm
  have hx2 := hh.1
  have hL : (byts x ++ m).length = (byts x).length + m.length := List.length_append
  have hr : (8 * (byts x ++ m).length - x.2) % 8 = 8 * (byts x).length - x.2 := by rw [hL]; omega
  have hF : ∀ E, Fin (byts x ++ m) x.2 E → E = 103 := by
    intro E h
    unfold Fin at h
    rw [hr, A.2 _ _ (by omega), hz] at h
    rcases h with ⟨h, _⟩ | ⟨_, _, h⟩ | ⟨_, h, _⟩
    · exact absurd rfl h
    · exact h
    · rw [hL] at h; omega
  have hH : Holds (byts x ++ m) x := ⟨by rw [hL]; omega, by rw [A.2 _ _ (by omega)]; exact hh.2⟩
  obtain ⟨j, hj, ⟨hc, rfl, rfl⟩ | ⟨hc, rfl, rfl⟩⟩ := ht
  · have h0 : Holds _ (1, 8) := holds_wrt B.gd hw.1 B.f_ 0 j (by rw [Nat.zero_add]; exact hH)
    have h01 : nextN _ 0 8 = 1 := h0.2
    have h02 : 8 ≤ 8 * _ := h0.1
    rcases h with ⟨a1, _⟩ | ⟨_, a2, _⟩ | ⟨_, a2, _⟩ | ⟨_, a2, _⟩ | ⟨_, _, _, s', x', a6, a7, a8⟩ | ⟨_, _, a3, _, x', a5, a6, a7⟩
    · omega
    · omega
    · omega
    · omega
    · obtain ⟨i, rfl, rfl, hi, _⟩ := fol_rch B.gd (agr_refl _) hw.1 B.f_ hj hH a6
      exact (fol_stk B.gd a7 hw.1 B.f_ (hi a8.1) a8).elim
    · obtain ⟨i, rfl, rfl, _, hi⟩ := fol_rch B.gd (agr_refl _) hw.1 B.f_ hj hH a6
      obtain rfl := hi a3
      exact hF _ a7
  · have h0 : Holds _ (0, 8) := holds_rwb (fun i => B.dp.up (B.f_ i).1 (B.f_ i).2) 0 n (by rw [Nat.zero_add]; exact hH)
    have h01 : nextN _ 0 8 = 0 := h0.2
    have h02 : 8 ≤ 8 * _ := h0.1
    rw [rwb_len] at hx2 hF
    rcases h with ⟨a1, _⟩ | ⟨_, a2, _⟩ | ⟨_, _, a3, _⟩ | ⟨_, _, _, _, a5⟩ | ⟨_, a2, _⟩ | ⟨_, a2, _⟩
    · omega
    · omega
    · rw [hL] at a3; omega
    · exact hF _ a5
    · omega
    · omega
end Go.Proofs.YtahoeodpjdbdkabDoor
