import Derived.Test.YtahoeodpjdbdkabDoorFaZ
import Derived.Test.YtahoeodpjdbdkabDoorFcZ
namespace Go.Proofs.YtahoeodpjdbdkabDoor
open Go.RowKit

set_option maxHeartbeats 2000000 in
set_option maxRecDepth 100000 in
theorem Encode_raw (W H n sb so sc : Nat) (D T d : Int) (f : Nat → Int) (w : World) (hs : Smp w sb so n f) (hT : Tab w) (hz : szd (W : Int) (H : Int) = true) (hn : n = W * H) (hD : Dp D T) (d0 : 0 ≤ d) (d1 : d ≤ 63) (hf : ∀ i, 0 ≤ f i ∧ f i ≤ T)
    (hc : ∀ j, Enc T d W n f j → ¬ (nby (xw T d W f j) : Int) < (rsz W H D).1) :
    Calls Tryd.prog 8 #[.agg #[.int .i64 (W : Int), .int .i64 (H : Int), .slice (some ⟨sb, so, none⟩) n sc], .int .i64 D, .int .i64 d] w fun e w' => ∃ g, e = .returned (.tuple #[.slice (some ⟨g, 0, none⟩) (nby (rwb D.toNat f n)) (nby (rwb D.toNat f n)), .int .i64 0]) ∧ w.heap.size ≤ g ∧ w'.heap[g]? = some (.cells ((byts (rwb D.toNat f n)).map byt).toArray 5 (0, 0)) ∧ Kept [] w w' := by
  obtain ⟨w1, hw1, k1, b1⟩ := three_new w (.int .i64 (W : Int)) (.int .i64 (H : Int)) (.slice (some ⟨sb, so, none⟩) n sc) 24
  obtain ⟨Q, hQ⟩ : ∃ Q, w.heap.size = Q := ⟨_, rfl⟩
  have hsz := k1.size
  rw [hQ] at b1
  obtain ⟨z0, z1, z2⟩ := agg3' b1
  have C := Hid.mk (encode_raw W H n sb so sc D T d f w1 (hs.keep k1 (by simp)) (hT.kept k1 (by simp)) hz hn hD d0 d1 hf hc)
  have K1 := Hid.mk k1
  have HQ := Hid.mk hQ
  clear hs hT hz hn hD hf hc b1 k1
  go_enter Tryd.func8, Tryd.ntmps8
  go_wp2_with (fail)
  refine C.out.mono ?_
  rintro e w2 ⟨g, G, c, rfl, hg, -, hb, -, k2⟩
  have HB := Hid.mk hb
  have K2 := Hid.mk k2
  have Hg := Hid.mk hg
  clear hb k2 C hg
  obtain ⟨L, hL⟩ : ∃ L, nby (rwb D.toNat f n) = L := ⟨_, rfl⟩
  have HL := Hid.mk hL
  rw [hL]
  clear hL
  go_wp2
  go_ret2
  exact ⟨g, by rw [HL.out]; rfl, by have := Hg.out; have := HQ.out; omega, HB.out, K1.out.trans K2.out⟩


set_option maxHeartbeats 8000000 in
set_option maxRecDepth 1000000 in
theorem Decode_raw (W H n : Nat) (ao : Option Addr) (cap m : Nat) (l : List Nat) (D T d : Int) (f : Nat → Int) (w : World) (hr : Reads w ao l) (hby : Byts l) (hm : l.length = m) (hl : m ≤ 281474976710656) (hT : Tab w) (hz : szd (W : Int) (H : Int) = true) (hn : n = W * H) (hD : Dp D T) (d0 : 0 ≤ d) (d1 : d ≤ 63) (hf : ∀ i, 0 ≤ f i ∧ f i ≤ T)
    (hh : Holds l (rwb D.toNat f n)) (h1 : 8 * l.length - (8 + D.toNat * n) < 8) (hzz : nextN l (8 + D.toNat * n) (8 * l.length - (8 + D.toNat * n)) = 0) :
    Calls Tryd.prog 9 #[.slice ao m cap, .int .i64 (W : Int), .int .i64 (H : Int), .int .i64 D, .int .i64 d] w fun e w' => ∃ G, e = .returned (.tuple #[.agg #[.int .i64 (W : Int), .int .i64 (H : Int), .slice (some ⟨G, 0, none⟩) n n], .int .i64 0]) ∧ w.heap.size ≤ G ∧ Smp w' G 0 n f ∧ Kept [] w w' := by
  have hb := szd_in hz
  have hcst : (W : Int) * H = (n : Int) := by rw [hn]; simp
  rw [hcst] at hb
  have HN := Hid.mk hn
  have Hf := Hid.mk hf
  obtain ⟨w1, hw1, k1, b1⟩ := three_new w (.int .i64 0) (.int .i64 0) (.slice none 0 0) 24
  obtain ⟨Q, hQ⟩ : ∃ Q, w.heap.size = Q := ⟨_, rfl⟩
  rw [hQ] at b1
  have HQ := Hid.mk hQ
  have C1 := Hid.mk (newm_any D T d hD w1 d0 d1)
  have C2 := Hid.mk (fun W' => sized_any (W : Int) (H : Int) W')
  rw [hz] at C2
  have HT := Hid.mk hT
  have HRd := Hid.mk (hr.keep k1)
  have K1 := Hid.mk k1
  have B1 := Hid.mk b1
  have HD := Hid.mk hD
  have Hh := Hid.mk (And.intro hh (And.intro h1 hzz))
  clear hn hf hT hr k1 b1 hz hcst hD hh h1 hzz
  go_enter Tryd.func9, Tryd.ntmps9
  go_wp2_with (fail)
  refine C1.out.mono ?_
  rintro e w2 ⟨P, rfl, m2, hP, k2⟩
  have K2 := Hid.mk k2
  have M2 := Hid.mk m2
  have HP := Hid.mk hP
  clear k2 m2 hP C1
  go_wp2_with (fail)
  refine (C2.out _).mono ?_
  rintro e w3 ⟨rfl, hw3⟩
  obtain rfl := hw3.symm
  clear hw3 C2
  go_wp2_with (fail)
  refine (newWalk_any P W H n D w2 (by omega) (by omega) HN.out.symm).mono ?_
  rintro e w4 ⟨X, G, rfl, a1, a2, a3, a4, k4⟩
  have R4 := Hid.mk (And.intro a1 (And.intro a2 (And.intro (Nat.le_trans K2.out.size a3) (And.intro (Nat.le_trans K2.out.size a4) k4))))
  clear a1 a2 a3 a4 k4
  go_wp2_with (fail)
  refine (newDecoder_any ao cap m l n P X G W D w4 ((HRd.out.keep K2.out).keep R4.out.2.2.2.2) hby hm hl).mono ?_
  rintro e w5 ⟨B, O, g, rfl, b1, b2, b3, b4, b5, b6⟩
  obtain ⟨a1, a2, a3, a4, k4⟩ := R4.out
  have hs4 : w1.heap.size ≤ w4.heap.size := (K2.out.trans k4).size
  have h5 : Dm w1 B P X G O g T d D W n l w5 (rwk T d f 0) 0 := by
    refine ⟨⟨b1, M2.out.keep (k4.trans b6) (by simp), a1.kept b6 (by simp), ⟨_, b6.heap a2 (by simp), by simp, fun i hi => ?_⟩, .inr rfl⟩, b2, K2.out.trans (k4.trans b6), HT.out.kept K1.out (by simp), by omega, HP.out, a3, a4, by omega, by omega⟩
    have : i < 0 := hi
    omega
  have C5 := Hid.mk (read_raw w1 B P X G O g T d D W n l f w5 HD.out (by omega) Hf.out Hh.out.1 Hh.out.2.1 Hh.out.2.2 h5)
  clear b1 b2 b3 b4 b5 b6 h5 a1 a2 a3 a4 k4 hs4
  go_wp2_with (fail)
  refine C5.out.mono ?_
  rintro e w6 ⟨rfl, h6⟩
  have c4 := h6.wm.fact.c4
  have B6 := Hid.mk (h6.keep.heap B1.out (by simp))
  obtain ⟨z0, z1, z2, zf⟩ := cells_three B6.out
  have zf0 := zf 0
  have zf1 := zf 1
  have zf2 := zf 2
  have H6 := Hid.mk h6
  clear h6 zf C5
  go_wp2
  have k7 : Kept [Q] w6 (((w6.setCell ⟨Q, 0, none⟩ (.int .i64 (W : Int))).setCell ⟨Q, 1, none⟩ (.int .i64 (H : Int))).setCell ⟨Q, 2, none⟩ (.slice (some ⟨G, 0, none⟩) n n)) :=
    (((Kept.refl [Q] w6).setCell (p := ⟨Q, 0, none⟩) (by simp) _).setCell (p := ⟨Q, 1, none⟩) (by simp) _).setCell (p := ⟨Q, 2, none⟩) (by simp) _
  have hlo := H6.out.lo
  have hs1 := K1.out.size
  have hQs := HQ.out
  have hsm : Smp w6 G 0 n f := fun i hi => by
    rw [Nat.zero_add]
    exact H6.out.wm.cel i hi
  have hQG : Q < w1.heap.size := lt_of_block B1.out
  refine bodyPost_ret (v := .tuple #[.agg #[.int .i64 (W : Int), .int .i64 (H : Int), .slice (some ⟨G, 0, none⟩) n n], .int .i64 0]) (by simp [results, Tryd.results9, go_sem, z0, z1, z2]) rfl ⟨G, rfl, by omega, hsm.keep k7 (by simp; omega), (K1.out.trans H6.out.keep).step k7 (by simp; omega)⟩
end Go.Proofs.YtahoeodpjdbdkabDoor

namespace Go.Proofs.YtahoeodpjdbdkabDoor
open Go.RowKit

theorem enc_ex {T d : Int} {W H n : Nat} (f : Nat → Int) (hW : 1 ≤ W) (hWH : n = W * H) (h1 : 1 ≤ n) : ∃ j, Enc T d W n f j := by
  have key : ∀ k, (∃ j, Enc T d W n f j) ∨ (∀ i, i ≤ k → (stp T d W (cE T d W f) (wk0 T d) i).t < n) := by
    intro k
    induction k with
    | zero =>
      right
      intro i hi
      obtain rfl : i = 0 := by omega
      exact h1
    | succ k ih =>
      rcases ih with h | h
      · exact .inl h
      · by_cases hc : (stp T d W (cE T d W f) (wk0 T d) (k + 1)).t < n
        · right
          intro i hi
          by_cases e : i = k + 1
          · subst e; exact hc
          · exact h i (by omega)
        · left
          have hk := h k (Nat.le_refl _)
          have hl : (stp T d W (cE T d W f) (wk0 T d) (k + 1)).t ≤ W * H := itr_le hW (by rw [← hWH]; exact hk) _ (cE_le _ _ _ _ _)
          exact ⟨k + 1, fun i hi => h i (by omega), by rw [← hWH] at hl; omega⟩
  rcases key n with h | h
  · exact h
  · have h2 := h n (Nat.le_refl _)
    have h3 := stp_ge (T := T) (d := d) (s := wk0 T d) (cE T d W f) hW n
    omega
theorem enc_one {T d : Int} {W n : Nat} {f : Nat → Int} {i j : Nat} (h : Enc T d W n f i) (h' : Enc T d W n f j) : i = j := by
  rcases Nat.lt_trichotomy i j with e | e | e
  · have := h'.all i e; have := h.fin; omega
  · exact e
  · have := h.all j e; have := h'.fin; omega

theorem ap_lt {x : Nat × Nat} {w v : Nat} (h : x.1 < 2 ^ x.2) (hv : v < 2 ^ w) : (ap x w v).1 < 2 ^ (ap x w v).2 := by
  show x.1 * 2 ^ w + v < 2 ^ (x.2 + w)
  rw [Nat.pow_add]
  have h1 : (x.1 + 1) * 2 ^ w ≤ 2 ^ x.2 * 2 ^ w := Nat.mul_le_mul_right _ h
  rw [Nat.add_mul, Nat.one_mul] at h1
  omega
theorem bit_lt' {T d : Int} (G : Gd T d) {W : Nat} {f : Nat → Int} {s : Wk} {x : Nat × Nat} (h : s.In T) (hW : 1 ≤ W) (hf : ∀ i, 0 ≤ f i ∧ f i ≤ T) (hx : x.1 < 2 ^ x.2) : (bit T d W s (cE T d W f s) x).1 < 2 ^ (bit T d W s (cE T d W f s) x).2 := by
  unfold bit
  split
  · split
    · exact ap_lt hx (rf_lt _ _ _)
    · exact ap_lt (ap_lt hx (rf_lt _ _ _)) (fit_q G h hW hf _ _)
  · exact ap_lt hx (fit_q G h hW hf _ _)
theorem xw_lt {T d : Int} (G : Gd T d) {W : Nat} {f : Nat → Int} (hW : 1 ≤ W) (hf : ∀ i, 0 ≤ f i ∧ f i ≤ T) (j : Nat) : (xw T d W f j).1 < 2 ^ (xw T d W f j).2 := by
  induction j with
  | zero => show 1 < 2 ^ 8; decide
  | succ j ih => exact bit_lt' G (stp_in G _ (wk0_in G) hW j) hW hf ih
theorem rwb_lt {D : Nat} {f : Nat → Int} (hf : ∀ i, (f i).toNat < 2 ^ D) (k : Nat) : (rwb D f k).1 < 2 ^ (rwb D f k).2 := by
  induction k with
  | zero => show 0 < 2 ^ 8; decide
  | succ k ih => exact ap_lt ih (hf k)

/-- The bytes of bits hold them, and noughts behind. -/
theorem byts_hold {x : Nat × Nat} (h : x.1 < 2 ^ x.2) : (byts x).length = nby x ∧ Byts (byts x) ∧ Holds (byts x) x ∧ 8 * (byts x).length - x.2 < 8 ∧ nextN (byts x) x.2 (8 * (byts x).length - x.2) = 0 := by
  have hl : (byts x).length = nby x := big_length _ _
  have hp := num_padded x.1 x.2 h
  have hr := next_rest x.1 x.2 h
  have hz : 8 * nby x - x.2 < 8 ∧ x.2 ≤ 8 * nby x := by unfold nby; omega
  refine ⟨hl, big_lt _ _, ⟨by rw [hl]; omega, ?_⟩, by rw [hl]; omega, by rw [hl]; exact hr⟩
  unfold nextN
  have hp : num (byts x) = x.1 * 2 ^ (8 * nby x - x.2) := hp
  rw [hp, hl, Nat.zero_add, Nat.mul_div_cancel _ (Nat.two_pow_pos _), Nat.mod_eq_of_lt h]

/-- What a block is told by: its bits, and what comes back. -/
def Tell (T d D : Int) (W H n : Nat) (f : Nat → Int) (x : Nat × Nat) (b : Nat → Int) : Prop :=
  ∃ j, Enc T d W n f j ∧ (((nby (xw T d W f j) : Int) < (rsz W H D).1 ∧ x = xw T d W f j ∧ b = (sw T d W f j).b) ∨ (¬ (nby (xw T d W f j) : Int) < (rsz W H D).1 ∧ x = rwb D.toNat f n ∧ b = f))
theorem tell_ex {T d D : Int} {W H n : Nat} (f : Nat → Int) (hW : 1 ≤ W) (hWH : n = W * H) (h1 : 1 ≤ n) : ∃ x b, Tell T d D W H n f x b := by
  obtain ⟨j, hj⟩ := enc_ex (T := T) (d := d) f hW hWH h1
  by_cases h : (nby (xw T d W f j) : Int) < (rsz W H D).1
  · exact ⟨_, _, j, hj, .inl ⟨h, rfl, rfl⟩⟩
  · exact ⟨_, _, j, hj, .inr ⟨h, rfl, rfl⟩⟩

/-- Samples that are the same within the block make the same round. -/
theorem cE_same {T d : Int} {W H n : Nat} {f g : Nat → Int} {s : Wk} (hW : 1 ≤ W) (hWH : n = W * H) (hg : ∀ i, i < n → g i = f i) (ht : s.t < n) :
    itr T d W s (cE T d W g s) = itr T d W s (cE T d W f s) ∧ ∀ x, bit T d W s (cE T d W g s) x = bit T d W s (cE T d W f s) x := by
  have hr := rom_in (H := H) hW (show s.t < W * H by omega)
  by_cases hk : xk T d W s = 0
  · rw [cE_zero hk, cE_zero hk]
    have h1 := rnl_le f (nA T W s.b s.t) d (rom W s.t) s.t
    have h2 := rnl_in f (nA T W s.b s.t) d (rom W s.t) s.t
    have h3 := rnl_end f (nA T W s.b s.t) d (rom W s.t) s.t
    generalize rnl f (nA T W s.b s.t) d s.t (rom W s.t) = m at *
    have hm : rnl g (nA T W s.b s.t) d s.t (rom W s.t) = m := rnl_is _ _ _ _ _ _ h1 (fun i hi => by rw [hg _ (by omega)]; exact h2 i hi) (fun h => by rw [hg _ (by omega)]; exact h3 h)
    rw [hm]
    unfold itr bit
    simp only [if_pos hk]
    by_cases hc : m = rom W s.t
    · simp only [if_pos hc]; exact ⟨trivial, fun _ => trivial⟩
    · rw [hg (s.t + m) (by omega)]; exact ⟨rfl, fun _ => rfl⟩
  · rw [cE_else hk, cE_else hk, hg s.t ht]; exact ⟨rfl, fun _ => rfl⟩
theorem stp_same {T d : Int} {W H n : Nat} {f g : Nat → Int} (hW : 1 ≤ W) (hWH : n = W * H) (hg : ∀ i, i < n → g i = f i) (j : Nat) (hj : ∀ i, i < j → (sw T d W f i).t < n) :
    sw T d W g j = sw T d W f j ∧ xw T d W g j = xw T d W f j := by
  induction j with
  | zero => exact ⟨rfl, rfl⟩
  | succ j ih =>
    obtain ⟨a1, a2⟩ := ih (fun i hi => hj i (by omega))
    have hc := cE_same (T := T) (d := d) (s := sw T d W f j) hW hWH hg (hj j (by omega))
    have e1 : ∀ h : Nat → Int, sw T d W h (j + 1) = itr T d W (sw T d W h j) (cE T d W h (sw T d W h j)) := fun _ => rfl
    have e2 : ∀ h : Nat → Int, xw T d W h (j + 1) = bit T d W (sw T d W h j) (cE T d W h (sw T d W h j)) (xw T d W h j) := fun _ => rfl
    rw [e1 g, e1 f, e2 g, e2 f, a1, a2]
    exact ⟨hc.1, hc.2 _⟩
theorem enc_same {T d : Int} {W H n : Nat} {f g : Nat → Int} (hW : 1 ≤ W) (hWH : n = W * H) (hg : ∀ i, i < n → g i = f i) {j : Nat} (h : Enc T d W n f j) : Enc T d W n g j :=
  ⟨fun i hi => by
    have := (stp_same (T := T) (d := d) hW hWH hg i (fun k hk => h.all k (by omega))).1
    show (sw T d W g i).t < n
    rw [this]; exact h.all i hi, by
    have := (stp_same (T := T) (d := d) hW hWH hg j h.all).1
    show (sw T d W g j).t = n
    rw [this]; exact h.fin⟩
theorem rwb_same {D : Nat} {f g : Nat → Int} (n : Nat) (hg : ∀ i, i < n → g i = f i) : rwb D g n = rwb D f n := by
  induction n with
  | zero => rfl
  | succ n ih => unfold rwb; rw [ih (fun i hi => hg i (by omega)), hg n (by omega)]

/-- What came back, told again. -/
theorem tell_again {T d D : Int} {W H n : Nat} {f g : Nat → Int} {x x' : Nat × Nat} {b b' : Nat → Int} (G : Gd T d) (hW : 1 ≤ W) (hWH : n = W * H) (hf : ∀ i, 0 ≤ f i ∧ f i ≤ T) (h : Tell T d D W H n f x b) (hg : ∀ i, i < n → g i = b i) (h' : Tell T d D W H n g x' b') :
    x' = x ∧ ∀ i, i < n → b' i = b i := by
  obtain ⟨j, hj, h⟩ := h
  obtain ⟨k, hk, h'⟩ := h'
  rcases h with ⟨hc, rfl, rfl⟩ | ⟨hc, rfl, rfl⟩
  · have ag := fun i hi => stp_again (g := g) G (wk0_in G) hW hf j (fun p hp => hg p (by rw [hj.fin] at hp; exact hp)) i hi
    have hE : Enc T d W n g j := ⟨fun i hi => by rw [(ag i (by omega)).1]; exact hj.all i hi, by rw [(ag j (Nat.le_refl _)).1]; exact hj.fin⟩
    obtain rfl := enc_one hE hk
    have e1 : xw T d W g j = xw T d W f j := (ag j (Nat.le_refl _)).2
    have e2 : sw T d W g j = sw T d W f j := (ag j (Nat.le_refl _)).1
    rcases h' with ⟨hc', rfl, rfl⟩ | ⟨hc', rfl, rfl⟩
    · rw [e1, e2]; exact ⟨rfl, fun _ _ => rfl⟩
    · rw [e1] at hc'; exact absurd hc hc'
  · obtain rfl := enc_one (enc_same hW hWH hg hj) hk
    have e1 := (stp_same (T := T) (d := d) hW hWH hg j hj.all).2
    rcases h' with ⟨hc', rfl, rfl⟩ | ⟨hc', rfl, rfl⟩
    · rw [e1] at hc'; exact absurd hc' hc
    · exact ⟨rwb_same n hg, hg⟩
/-- What comes back is near, and may be. -/
theorem tell_near {T d D : Int} {W H n : Nat} {f : Nat → Int} {x : Nat × Nat} {b : Nat → Int} (G : Gd T d) (hW : 1 ≤ W) (hf : ∀ i, 0 ≤ f i ∧ f i ≤ T) (h : Tell T d D W H n f x b) (i : Nat) (hi : i < n) : -d ≤ b i - f i ∧ b i - f i ≤ d ∧ 0 ≤ b i ∧ b i ≤ T := by
  obtain ⟨j, hj, h⟩ := h
  rcases h with ⟨hc, rfl, rfl⟩ | ⟨hc, rfl, rfl⟩
  · have h1 := stp_near G (wk0_in G) hW hf rfl j i (by rw [hj.fin]; exact hi)
    have h2 := (stp_in G (cE T d W f) (wk0_in G) hW j).bk i (by rw [hj.fin]; exact hi)
    exact ⟨h1.1, h1.2, h2.1, h2.2⟩
  · have := hf i
    have := G.lo
    omega
theorem tell_lt {T d D : Int} {W H n : Nat} {f : Nat → Int} {x : Nat × Nat} {b : Nat → Int} (G : Gd T d) (hD : Dp D T) (hW : 1 ≤ W) (hf : ∀ i, 0 ≤ f i ∧ f i ≤ T) (h : Tell T d D W H n f x b) : x.1 < 2 ^ x.2 := by
  obtain ⟨j, hj, h⟩ := h
  rcases h with ⟨hc, rfl, rfl⟩ | ⟨hc, rfl, rfl⟩
  · exact xw_lt G hW hf j
  · exact rwb_lt (fun i => hD.up (hf i).1 (hf i).2) n
end Go.Proofs.YtahoeodpjdbdkabDoor
