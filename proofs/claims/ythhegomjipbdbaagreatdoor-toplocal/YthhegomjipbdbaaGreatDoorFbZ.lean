import Derived.Test.YthhegomjipbdbaaGreatDoorFaZ
namespace Go.Proofs.YthhegomjipbdbaaGreatDoor
open Go.RowKit

set_option maxHeartbeats 8000000 in
set_option maxRecDepth 1000000 in
/-- A block that may be, raw. -/
theorem encode_raw (W H n sb so sc : Nat) (D T d : Int) (f : Nat → Int) (w : World) (hs : Smp w sb so n f) (hT : Tab w) (hz : szd (W : Int) (H : Int) = true) (hn : n = W * H) (hD : Dp D T) (d0 : 0 ≤ d) (d1 : d ≤ 63) (hf : ∀ i, 0 ≤ f i ∧ f i ≤ T)
    (hc : ∀ j, Enc T d W n f j → ¬ (nby (xw T d W f j) : Int) < (rsz W H D).1) :
    Calls Tryz.prog 92 #[.agg #[.int .i64 (W : Int), .int .i64 (H : Int), .slice (some ⟨sb, so, none⟩) n sc], .int .i64 D, .int .i64 d] w fun e w' => ∃ g G c, e = .returned (.tuple #[.slice (some ⟨g, 0, none⟩) (nby (rwb D.toNat f n)) (nby (rwb D.toNat f n)), .slice (some ⟨G, 0, none⟩) n c, .int .i64 0]) ∧ w.heap.size ≤ g ∧ w.heap.size ≤ G ∧ w'.heap[g]? = some (.cells ((byts (rwb D.toNat f n)).map byt).toArray 5 (0, 0)) ∧ Smp w' G 0 n f ∧ Kept [] w w' := by
  have hb := szd_in hz
  have hcst : (W : Int) * H = (n : Int) := by rw [hn]; simp
  rw [hcst] at hb
  have hG := hD.gd d0 d1
  have HC := Hid.mk hc
  have HN := Hid.mk hn
  have Hf := Hid.mk hf
  obtain ⟨w1, hw1, k1, b1⟩ := three_new w (.int .i64 (W : Int)) (.int .i64 (H : Int)) (.slice (some ⟨sb, so, none⟩) n sc) 132
  obtain ⟨Q, hQ⟩ : ∃ Q, w.heap.size = Q := ⟨_, rfl⟩
  have hQw := hQ
  rw [hQ] at b1
  have C1 := Hid.mk (newm_any D T d hD w1 d0 d1)
  have HT := Hid.mk hT
  have HS := Hid.mk hs
  have K1 := Hid.mk k1
  have B1 := Hid.mk b1
  have C8 := Hid.mk (fun W' => rawSize_any (W : Int) (H : Int) D W')
  have er : (rsz (W : Int) (H : Int) D).2 = 0 := by
    unfold rsz
    rw [if_neg (by rcases hD with ⟨h, _⟩ | ⟨h, _⟩ <;> omega), if_pos hz]
  rw [er] at C8
  obtain ⟨R, hR⟩ : ∃ R, (rsz (W : Int) (H : Int) D).1 = R := ⟨_, rfl⟩
  rw [hR] at C8 HC
  have HZ := Hid.mk hz
  have HD := Hid.mk hD
  obtain ⟨z0, z1, z2⟩ := agg3' b1
  clear hc hn hf hT hs k1 b1 er hR hz hcst hD
  go_enter Tryz.func92, Tryz.ntmps92
  go_wp2_with (fail)
  refine C1.out.mono ?_
  rintro e w2 ⟨P, rfl, m2, hP, k2⟩
  have B2 := Hid.mk (k2.heap B1.out (by simp))
  obtain ⟨y0, y1, y2⟩ := agg3' B2.out
  have K2 := Hid.mk k2
  have M2 := Hid.mk m2
  have HP := Hid.mk hP
  have C2 := Hid.mk (mayBe_yes W H n sb so sc D T f w2 (HS.out.keep (K1.out.trans K2.out) (by simp)) HZ.out HN.out HD.out Hf.out)
  clear k2 m2 hP z0 z1 z2 C1
  go_wp2_with (fail)
  refine C2.out.mono ?_
  rintro e w3 ⟨rfl, k3⟩
  have B3 := Hid.mk (k3.heap B2.out (by simp))
  obtain ⟨z0, z1, z2⟩ := agg3' B3.out
  have K3 := Hid.mk (K2.out.trans k3)
  have M3 := Hid.mk (M2.out.keep k3 (by simp))
  have C3 := Hid.mk (fun W' (hk : Kept [] w3 W') => (newWalk_any P W H n D W' (by omega) (by omega) HN.out.symm).mono (R' := fun e w' => ∃ X G, e = .returned (.agg (wc W D P X G n 0 []).toArray) ∧ Hid (CoderAt w' X 0 ∧ w'.heap[G]? = some (.cells (List.replicate n (.int .u16 0)).toArray 93 (0, 0)) ∧ w1.heap.size ≤ X ∧ w1.heap.size ≤ G ∧ Kept [] w3 w') ∧ w'.cell? ⟨Q, 0, none⟩ = some (.int .i64 (W : Int)) ∧ w'.cell? ⟨Q, 1, none⟩ = some (.int .i64 (H : Int)) ∧ w'.cell? ⟨Q, 2, none⟩ = some (.slice (some ⟨sb, so, none⟩) n sc)) (by
    rintro e w' ⟨X, G, rfl, a1, a2, a3, a4, a5⟩
    have hk' := hk.trans a5
    have hsz := (K3.out.trans hk).size
    exact ⟨X, G, rfl, Hid.mk ⟨a1, a2, Nat.le_trans hsz a3, Nat.le_trans hsz a4, hk'⟩, agg3' (hk'.heap B3.out (by simp))⟩))
  have C4 := Hid.mk (fun W' (hk : Kept [] w3 W') X G => (newCoder_any sb so n sc P X G W d D W').mono (R' := fun e w' => ∃ B O, e = .returned (.pointer (some ⟨B, 0, none⟩)) ∧ Hid (w'.heap[B]? = some (.cells (wc W D P X G n 0 (cext sb so n sc d O)).toArray 173 (0, 0)) ∧ WriterAt w' O (.slice none 0 0) 0 0 ∧ w1.heap.size ≤ B ∧ w1.heap.size ≤ O ∧ Kept [] W' w' ∧ Kept [] w3 w') ∧ w'.cell? ⟨Q, 0, none⟩ = some (.int .i64 (W : Int)) ∧ w'.cell? ⟨Q, 1, none⟩ = some (.int .i64 (H : Int)) ∧ w'.cell? ⟨Q, 2, none⟩ = some (.slice (some ⟨sb, so, none⟩) n sc)) (by
    rintro e w' ⟨B, O, rfl, a1, a2, a3, a4, a5⟩
    have hk' := hk.trans a5
    have hsz := (K3.out.trans hk).size
    exact ⟨B, O, rfl, Hid.mk ⟨a1, a2, Nat.le_trans hsz a3, Nat.le_trans hsz a4, a5, hk'⟩, agg3' (hk'.heap B3.out (by simp))⟩))
  clear k3 y0 y1 y2 C2
  go_wp2_with (fail)
  go_region_held_law (fun w' => w'.cell? ⟨Q, 0, none⟩ = some (.int .i64 (W : Int)) ∧ w'.cell? ⟨Q, 1, none⟩ = some (.int .i64 (H : Int)) ∧ w'.cell? ⟨Q, 2, none⟩ = some (.slice (some ⟨sb, so, none⟩) n sc)) (first | exact ⟨z0, z1, z2⟩ | exact ⟨t0, t1, t2⟩ | exact ⟨r0, r1, r2⟩ | go_keep) (first | (go_at_call 110; refine (C3.out _ (by with_reducible exact (Kept.refl _ _).drew)).mono ?_; rintro e w4 ⟨X, G, rfl, R4, t0, t1, t2⟩) | (go_at_call 109; refine (C4.out _ R4.out.2.2.2.2 X G).mono ?_; rintro e w5 ⟨B, O, rfl, R5, r0, r1, r2⟩))
  obtain ⟨a1, a2, a3, a4, a5⟩ := R4.out
  obtain ⟨b1, b2, b3, b4, b5, b6⟩ := R5.out
  have h5 : Cm w1 B P X G O T d D W n sb so sc f w5 (wk0 T d) (0, 0) := by
    refine ⟨⟨b1, M3.out.keep b6 (by simp), a1.kept b5 (by simp), ⟨_, b5.heap a2 (by simp), by simp, fun i hi => ?_⟩, .inl rfl⟩, ⟨_, b2, fun g hg => by simp [Value.ownBlock] at hg⟩, K3.out.trans b6, HS.out.keep K1.out (by simp), HT.out.kept K1.out (by simp), b3, HP.out, a3, a4, b4⟩
    have : i < 0 := hi
    omega
  have C5 := Hid.mk (write_any w1 B P X G O T d D W H n sb so sc f w5 hG HD.out (by omega) (by omega) (by omega) HN.out Hf.out h5 b2)
  clear a1 a2 a3 a4 a5 b1 b2 b3 b4 b5 b6 h5 R4 R5 C3 C4 t0 t1 t2 r0 r1 r2 z0 z1 z2
  go_wp2_with (fail)
  refine C5.out.mono ?_
  rintro e w6 ⟨j, g, hE, h6, hg, rfl, hb6⟩
  have B6 := Hid.mk (h6.keep.heap B1.out (by simp))
  obtain ⟨z0, z1, z2⟩ := agg3' B6.out
  have hlt := HC.out j hE
  have H6 := Hid.mk h6
  have HB6 := Hid.mk hb6
  have HE := Hid.mk hE
  have Hg := Hid.mk hg
  have nb : ((wrt T d W (cE T d W f) (wk0 T d) j).snd + 7) / 8 = nby (xw T d W f j) := rfl
  rw [nb] at HB6 ⊢
  obtain ⟨L, hL⟩ : ∃ L, nby (xw T d W f j) = L := ⟨_, rfl⟩
  rw [hL] at hlt HB6 ⊢
  have HL := Hid.mk hL
  have K6 := Hid.mk (K1.out.trans h6.keep)
  have C9 := Hid.mk (fun W' (hk : Kept [] w6 W') => (rawOf_any sb so n sc D T f W' (HS.out.keep (K6.out.trans hk) (by simp)) HD.out (by omega) Hf.out).mono (R' := fun e w' => ∃ g, e = .returned (.slice (some ⟨g, 0, none⟩) (nby (rwb D.toNat f n)) (nby (rwb D.toNat f n))) ∧ Hid (w.heap.size ≤ g ∧ w'.heap[g]? = some (.cells ((byts (rwb D.toNat f n)).map byt).toArray 5 (0, 0)) ∧ Kept [] W' w' ∧ Kept [] w6 w') ∧ w'.cell? ⟨Q, 2, none⟩ = some (.slice (some ⟨sb, so, none⟩) n sc)) (by
    rintro e w' ⟨g, rfl, a1, a2, a3⟩
    exact ⟨g, rfl, Hid.mk ⟨Nat.le_trans (K6.out.trans hk).size a1, a2, a3, hk.trans a3⟩, (agg3' ((hk.trans a3).heap B6.out (by simp))).2.2⟩))
  have C10 := Hid.mk (fun W' (hk : Kept [] w6 W') => (clone_any sb so n sc f W' (HS.out.keep (K6.out.trans hk) (by simp)) (by omega)).mono (R' := fun e w' => ∃ G c, e = .returned (.slice (some ⟨G, 0, none⟩) n c) ∧ Hid (w.heap.size ≤ G ∧ Smp w' G 0 n f ∧ Kept [] W' w' ∧ Kept [] w6 w') ∧ w'.cell? ⟨Q, 2, none⟩ = some (.slice (some ⟨sb, so, none⟩) n sc)) (by
    rintro e w' ⟨G, c, rfl, a1, a2, a3⟩
    exact ⟨G, c, rfl, Hid.mk ⟨Nat.le_trans (K6.out.trans hk).size a1, a2, a3, hk.trans a3⟩, (agg3' ((hk.trans a3).heap B6.out (by simp))).2.2⟩))
  obtain ⟨LL, hLL⟩ : ∃ LL, nby (rwb D.toNat f n) = LL := ⟨_, rfl⟩
  rw [hLL] at C9
  have HLL := Hid.mk hLL
  clear h6 hb6 hE hg C5 nb hL hLL
  go_wp2_with (fail)
  refine (C8.out _).mono ?_
  rintro e w7 ⟨rfl, hw7⟩
  obtain rfl := hw7.symm
  clear C8 hw7
  go_wp2
  go_region_held_law (fun w' => w'.cell? ⟨Q, 2, none⟩ = some (.slice (some ⟨sb, so, none⟩) n sc)) (first | exact z2 | exact t2 | exact r2 | go_keep) (first | (go_at_call 112; refine (C9.out _ (by first | with_reducible exact (Kept.refl _ _).drew | exact R8.out.2.2.2)).mono ?_; rintro e w9 ⟨g9, rfl, R9, t2⟩) | (go_at_call 113; refine (C10.out _ (by first | with_reducible exact (Kept.refl _ _).drew | exact R9.out.2.2.2)).mono ?_; rintro e w8 ⟨G8, c8, rfl, R8, r2⟩))
  all_goals
    clear C9 C10 t2 r2
    go_wp2
    (try simp only [Exit.inBlock, Exit.then]); refine bodyPost_ret (results_tmp3 rfl _ _ _) rfl ?_
    obtain ⟨a1, a2, a3, a4⟩ := R9.out
    obtain ⟨b1, b2, b3, b4⟩ := R8.out
    refine ⟨g9, G8, c8, ?_, a1, b1, ?_, ?_, ?_⟩
    · rw [HLL.out]; rfl
    · first | exact a2 | exact b3.heap a2 (by simp)
    · first | exact b2 | exact b2.keep a3 (by simp)
    · first | exact K6.out.trans b4 | exact K6.out.trans a4
end Go.Proofs.YthhegomjipbdbaaGreatDoor

namespace Go.Proofs.YthhegomjipbdbaaGreatDoor
open Go.RowKit

end Go.Proofs.YthhegomjipbdbaaGreatDoor

namespace Go.Proofs.YthhegomjipbdbaaGreatDoor
open Go.RowKit

set_option maxHeartbeats 2000000 in
set_option maxRecDepth 100000 in
theorem Encode_raw (W H n sb so sc : Nat) (D T d : Int) (f : Nat → Int) (w : World) (hs : Smp w sb so n f) (hT : Tab w) (hz : szd (W : Int) (H : Int) = true) (hn : n = W * H) (hD : Dp D T) (d0 : 0 ≤ d) (d1 : d ≤ 63) (hf : ∀ i, 0 ≤ f i ∧ f i ≤ T)
    (hc : ∀ j, Enc T d W n f j → ¬ (nby (xw T d W f j) : Int) < (rsz W H D).1) :
    Calls Tryz.prog 69 #[.agg #[.int .i64 (W : Int), .int .i64 (H : Int), .slice (some ⟨sb, so, none⟩) n sc], .int .i64 D, .int .i64 d] w fun e w' => ∃ g, e = .returned (.tuple #[.slice (some ⟨g, 0, none⟩) (nby (rwb D.toNat f n)) (nby (rwb D.toNat f n)), .int .i64 0]) ∧ w.heap.size ≤ g ∧ w'.heap[g]? = some (.cells ((byts (rwb D.toNat f n)).map byt).toArray 5 (0, 0)) ∧ Kept [] w w' := by
  obtain ⟨w1, hw1, k1, b1⟩ := three_new w (.int .i64 (W : Int)) (.int .i64 (H : Int)) (.slice (some ⟨sb, so, none⟩) n sc) 132
  obtain ⟨Q, hQ⟩ : ∃ Q, w.heap.size = Q := ⟨_, rfl⟩
  have hsz := k1.size
  rw [hQ] at b1
  obtain ⟨z0, z1, z2⟩ := agg3' b1
  have C := Hid.mk (encode_raw W H n sb so sc D T d f w1 (hs.keep k1 (by simp)) (hT.kept k1 (by simp)) hz hn hD d0 d1 hf hc)
  have K1 := Hid.mk k1
  have HQ := Hid.mk hQ
  clear hs hT hz hn hD hf hc b1 k1
  go_enter Tryz.func69, Tryz.ntmps69
  go_wp2_with (fail)
  refine C.out.mono ?_
  rintro e w2 ⟨g, G, c, rfl, hg, -, hb, -, k2⟩
  have HB := Hid.mk hb
  have K2 := Hid.mk k2
  have Hg := Hid.mk hg
  clear hb k2 C hg
  obtain ⟨L, hL⟩ : ∃ L, nby (rwb D.toNat f n) = L := ⟨_, rfl⟩
  have HL := Hid.mk hL
  rw [hL]
  clear hL
  go_wp2
  go_ret2
  exact ⟨g, by rw [HL.out]; rfl, by have := Hg.out; have := HQ.out; omega, HB.out, K1.out.trans K2.out⟩


end Go.Proofs.YthhegomjipbdbaaGreatDoor

namespace Go.Proofs.YthhegomjipbdbaaGreatDoor
open Go.RowKit

theorem enc_ex {T d : Int} {W H n : Nat} (f : Nat → Int) (hW : 1 ≤ W) (hWH : n = W * H) (h1 : 1 ≤ n) : ∃ j, Enc T d W n f j := by
  have key : ∀ k, (∃ j, Enc T d W n f j) ∨ (∀ i, i ≤ k → (stp T d W (cE T d W f) (wk0 T d) i).t < n) := by
    intro k
    induction k with
    | zero =>
      right
      intro i hi
      obtain rfl : i = 0 := by omega
      exact h1
    | succ k ih =>
      rcases ih with h | h
      · exact .inl h
      · by_cases hc : (stp T d W (cE T d W f) (wk0 T d) (k + 1)).t < n
        · right
          intro i hi
          by_cases e : i = k + 1
          · subst e; exact hc
          · exact h i (by omega)
        · left
          have hk := h k (Nat.le_refl _)
          have hl : (stp T d W (cE T d W f) (wk0 T d) (k + 1)).t ≤ W * H := itr_le hW (by rw [← hWH]; exact hk) _ (cE_le _ _ _ _ _)
          exact ⟨k + 1, fun i hi => h i (by omega), by rw [← hWH] at hl; omega⟩
  rcases key n with h | h
  · exact h
  · have h2 := h n (Nat.le_refl _)
    have h3 := stp_ge (T := T) (d := d) (s := wk0 T d) (cE T d W f) hW n
    omega
theorem enc_one {T d : Int} {W n : Nat} {f : Nat → Int} {i j : Nat} (h : Enc T d W n f i) (h' : Enc T d W n f j) : i = j := by
  rcases Nat.lt_trichotomy i j with e | e | e
  · have := h'.all i e; have := h.fin; omega
  · exact e
  · have := h.all j e; have := h'.fin; omega

theorem ap_lt {x : Nat × Nat} {w v : Nat} (h : x.1 < 2 ^ x.2) (hv : v < 2 ^ w) : (ap x w v).1 < 2 ^ (ap x w v).2 := by
  show x.1 * 2 ^ w + v < 2 ^ (x.2 + w)
  rw [Nat.pow_add]
  have h1 : (x.1 + 1) * 2 ^ w ≤ 2 ^ x.2 * 2 ^ w := Nat.mul_le_mul_right _ h
  rw [Nat.add_mul, Nat.one_mul] at h1
  omega
theorem bit_lt' {T d : Int} (G : Gd T d) {W : Nat} {f : Nat → Int} {s : Wk} {x : Nat × Nat} (h : s.In T) (hW : 1 ≤ W) (hf : ∀ i, 0 ≤ f i ∧ f i ≤ T) (hx : x.1 < 2 ^ x.2) : (bit T d W s (cE T d W f s) x).1 < 2 ^ (bit T d W s (cE T d W f s) x).2 := by
  unfold bit
  split
  · split
    · exact ap_lt hx (rf_lt _ _ _)
    · exact ap_lt (ap_lt hx (rf_lt _ _ _)) (fit_q G h hW hf _ _)
  · exact ap_lt hx (fit_q G h hW hf _ _)
theorem xw_lt {T d : Int} (G : Gd T d) {W : Nat} {f : Nat → Int} (hW : 1 ≤ W) (hf : ∀ i, 0 ≤ f i ∧ f i ≤ T) (j : Nat) : (xw T d W f j).1 < 2 ^ (xw T d W f j).2 := by
  induction j with
  | zero => show 1 < 2 ^ 8; decide
  | succ j ih => exact bit_lt' G (stp_in G _ (wk0_in G) hW j) hW hf ih
theorem rwb_lt {D : Nat} {f : Nat → Int} (hf : ∀ i, (f i).toNat < 2 ^ D) (k : Nat) : (rwb D f k).1 < 2 ^ (rwb D f k).2 := by
  induction k with
  | zero => show 0 < 2 ^ 8; decide
  | succ k ih => exact ap_lt ih (hf k)

/-- The bytes of bits hold them, and noughts behind. -/
theorem byts_hold {x : Nat × Nat} (h : x.1 < 2 ^ x.2) : (byts x).length = nby x ∧ Byts (byts x) ∧ Holds (byts x) x ∧ 8 * (byts x).length - x.2 < 8 ∧ nextN (byts x) x.2 (8 * (byts x).length - x.2) = 0 := by
  have hl : (byts x).length = nby x := big_length _ _
  have hp := num_padded x.1 x.2 h
  have hr := next_rest x.1 x.2 h
  have hz : 8 * nby x - x.2 < 8 ∧ x.2 ≤ 8 * nby x := by unfold nby; omega
  refine ⟨hl, big_lt _ _, ⟨by rw [hl]; omega, ?_⟩, by rw [hl]; omega, by rw [hl]; exact hr⟩
  unfold nextN
  have hp : num (byts x) = x.1 * 2 ^ (8 * nby x - x.2) := hp
  rw [hp, hl, Nat.zero_add, Nat.mul_div_cancel _ (Nat.two_pow_pos _), Nat.mod_eq_of_lt h]

/-- What a block is told by: its bits, and what comes back. -/
def Tell (T d D : Int) (W H n : Nat) (f : Nat → Int) (x : Nat × Nat) (b : Nat → Int) : Prop :=
  ∃ j, Enc T d W n f j ∧ (((nby (xw T d W f j) : Int) < (rsz W H D).1 ∧ x = xw T d W f j ∧ b = (sw T d W f j).b) ∨ (¬ (nby (xw T d W f j) : Int) < (rsz W H D).1 ∧ x = rwb D.toNat f n ∧ b = f))
theorem tell_ex {T d D : Int} {W H n : Nat} (f : Nat → Int) (hW : 1 ≤ W) (hWH : n = W * H) (h1 : 1 ≤ n) : ∃ x b, Tell T d D W H n f x b := by
  obtain ⟨j, hj⟩ := enc_ex (T := T) (d := d) f hW hWH h1
  by_cases h : (nby (xw T d W f j) : Int) < (rsz W H D).1
  · exact ⟨_, _, j, hj, .inl ⟨h, rfl, rfl⟩⟩
  · exact ⟨_, _, j, hj, .inr ⟨h, rfl, rfl⟩⟩

/-- Samples that are the same within the block make the same round. -/
theorem cE_same {T d : Int} {W H n : Nat} {f g : Nat → Int} {s : Wk} (hW : 1 ≤ W) (hWH : n = W * H) (hg : ∀ i, i < n → g i = f i) (ht : s.t < n) :
    itr T d W s (cE T d W g s) = itr T d W s (cE T d W f s) ∧ ∀ x, bit T d W s (cE T d W g s) x = bit T d W s (cE T d W f s) x := by
  have hr := rom_in (H := H) hW (show s.t < W * H by omega)
  by_cases hk : xk T d W s = 0
  · rw [cE_zero hk, cE_zero hk]
    have h1 := rnl_le f (nA T W s.b s.t) d (rom W s.t) s.t
    have h2 := rnl_in f (nA T W s.b s.t) d (rom W s.t) s.t
    have h3 := rnl_end f (nA T W s.b s.t) d (rom W s.t) s.t
    generalize rnl f (nA T W s.b s.t) d s.t (rom W s.t) = m at *
    have hm : rnl g (nA T W s.b s.t) d s.t (rom W s.t) = m := rnl_is _ _ _ _ _ _ h1 (fun i hi => by rw [hg _ (by omega)]; exact h2 i hi) (fun h => by rw [hg _ (by omega)]; exact h3 h)
    rw [hm]
    unfold itr bit
    simp only [if_pos hk]
    by_cases hc : m = rom W s.t
    · simp only [if_pos hc]; exact ⟨trivial, fun _ => trivial⟩
    · rw [hg (s.t + m) (by omega)]; exact ⟨rfl, fun _ => rfl⟩
  · rw [cE_else hk, cE_else hk, hg s.t ht]; exact ⟨rfl, fun _ => rfl⟩
theorem stp_same {T d : Int} {W H n : Nat} {f g : Nat → Int} (hW : 1 ≤ W) (hWH : n = W * H) (hg : ∀ i, i < n → g i = f i) (j : Nat) (hj : ∀ i, i < j → (sw T d W f i).t < n) :
    sw T d W g j = sw T d W f j ∧ xw T d W g j = xw T d W f j := by
  induction j with
  | zero => exact ⟨rfl, rfl⟩
  | succ j ih =>
    obtain ⟨a1, a2⟩ := ih (fun i hi => hj i (by omega))
    have hc := cE_same (T := T) (d := d) (s := sw T d W f j) hW hWH hg (hj j (by omega))
    have e1 : ∀ h : Nat → Int, sw T d W h (j + 1) = itr T d W (sw T d W h j) (cE T d W h (sw T d W h j)) := fun _ => rfl
    have e2 : ∀ h : Nat → Int, xw T d W h (j + 1) = bit T d W (sw T d W h j) (cE T d W h (sw T d W h j)) (xw T d W h j) := fun _ => rfl
    rw [e1 g, e1 f, e2 g, e2 f, a1, a2]
    exact ⟨hc.1, hc.2 _⟩
theorem enc_same {T d : Int} {W H n : Nat} {f g : Nat → Int} (hW : 1 ≤ W) (hWH : n = W * H) (hg : ∀ i, i < n → g i = f i) {j : Nat} (h : Enc T d W n f j) : Enc T d W n g j :=
  ⟨fun i hi => by
    have := (stp_same (T := T) (d := d) hW hWH hg i (fun k hk => h.all k (by omega))).1
    show (sw T d W g i).t < n
    rw [this]; exact h.all i hi, by
    have := (stp_same (T := T) (d := d) hW hWH hg j h.all).1
    show (sw T d W g j).t = n
    rw [this]; exact h.fin⟩
theorem rwb_same {D : Nat} {f g : Nat → Int} (n : Nat) (hg : ∀ i, i < n → g i = f i) : rwb D g n = rwb D f n := by
  induction n with
  | zero => rfl
  | succ n ih => unfold rwb; rw [ih (fun i hi => hg i (by omega)), hg n (by omega)]

/-- What came back, told again. -/
theorem tell_again {T d D : Int} {W H n : Nat} {f g : Nat → Int} {x x' : Nat × Nat} {b b' : Nat → Int} (G : Gd T d) (hW : 1 ≤ W) (hWH : n = W * H) (hf : ∀ i, 0 ≤ f i ∧ f i ≤ T) (h : Tell T d D W H n f x b) (hg : ∀ i, i < n → g i = b i) (h' : Tell T d D W H n g x' b') :
    x' = x ∧ ∀ i, i < n → b' i = b i := by
  obtain ⟨j, hj, h⟩ := h
  obtain ⟨k, hk, h'⟩ := h'
  rcases h with ⟨hc, rfl, rfl⟩ | ⟨hc, rfl, rfl⟩
  · have ag := fun i hi => stp_again (g := g) G (wk0_in G) hW hf j (fun p hp => hg p (by rw [hj.fin] at hp; exact hp)) i hi
    have hE : Enc T d W n g j := ⟨fun i hi => by rw [(ag i (by omega)).1]; exact hj.all i hi, by rw [(ag j (Nat.le_refl _)).1]; exact hj.fin⟩
    obtain rfl := enc_one hE hk
    have e1 : xw T d W g j = xw T d W f j := (ag j (Nat.le_refl _)).2
    have e2 : sw T d W g j = sw T d W f j := (ag j (Nat.le_refl _)).1
    rcases h' with ⟨hc', rfl, rfl⟩ | ⟨hc', rfl, rfl⟩
    · rw [e1, e2]; exact ⟨rfl, fun _ _ => rfl⟩
    · rw [e1] at hc'; exact absurd hc hc'
  · obtain rfl := enc_one (enc_same hW hWH hg hj) hk
    have e1 := (stp_same (T := T) (d := d) hW hWH hg j hj.all).2
    rcases h' with ⟨hc', rfl, rfl⟩ | ⟨hc', rfl, rfl⟩
    · rw [e1] at hc'; exact absurd hc' hc
    · exact ⟨rwb_same n hg, hg⟩
/-- What comes back is near, and may be. -/
theorem tell_near {T d D : Int} {W H n : Nat} {f : Nat → Int} {x : Nat × Nat} {b : Nat → Int} (G : Gd T d) (hW : 1 ≤ W) (hf : ∀ i, 0 ≤ f i ∧ f i ≤ T) (h : Tell T d D W H n f x b) (i : Nat) (hi : i < n) : -d ≤ b i - f i ∧ b i - f i ≤ d ∧ 0 ≤ b i ∧ b i ≤ T := by
  obtain ⟨j, hj, h⟩ := h
  rcases h with ⟨hc, rfl, rfl⟩ | ⟨hc, rfl, rfl⟩
  · have h1 := stp_near G (wk0_in G) hW hf rfl j i (by rw [hj.fin]; exact hi)
    have h2 := (stp_in G (cE T d W f) (wk0_in G) hW j).bk i (by rw [hj.fin]; exact hi)
    exact ⟨h1.1, h1.2, h2.1, h2.2⟩
  · have := hf i
    have := G.lo
    omega
theorem tell_lt {T d D : Int} {W H n : Nat} {f : Nat → Int} {x : Nat × Nat} {b : Nat → Int} (G : Gd T d) (hD : Dp D T) (hW : 1 ≤ W) (hf : ∀ i, 0 ≤ f i ∧ f i ≤ T) (h : Tell T d D W H n f x b) : x.1 < 2 ^ x.2 := by
  obtain ⟨j, hj, h⟩ := h
  rcases h with ⟨hc, rfl, rfl⟩ | ⟨hc, rfl, rfl⟩
  · exact xw_lt G hW hf j
  · exact rwb_lt (fun i => hD.up (hf i).1 (hf i).2) n
end Go.Proofs.YthhegomjipbdbaaGreatDoor

namespace Go.Proofs.YthhegomjipbdbaaGreatDoor
open Go.RowKit

/-- What is asked of a block that may be coded. -/
structure Blk (W H n : Nat) (D T d : Int) (f : Nat → Int) : Prop where
  sz : szd (W : Int) (H : Int) = true
  n_ : n = W * H
  dp : Dp D T
  d0 : 0 ≤ d
  d1 : d ≤ 63
  f_ : ∀ i, 0 ≤ f i ∧ f i ≤ T
theorem Blk.w {W H n : Nat} {D T d : Int} {f : Nat → Int} (h : Blk W H n D T d f) : 1 ≤ W ∧ W ≤ 4096 ∧ 1 ≤ H ∧ H ≤ 4096 ∧ 1 ≤ n ∧ n ≤ 4194304 := by
  have hb := szd_in h.sz
  have hc : (W : Int) * H = (n : Int) := by rw [h.n_]; simp
  rw [hc] at hb
  have h1 : 1 ≤ n := by rw [h.n_]; exact Nat.mul_pos (by omega) (by omega)
  omega
theorem Blk.gd {W H n : Nat} {D T d : Int} {f : Nat → Int} (h : Blk W H n D T d f) : Gd T d := h.dp.gd h.d0 h.d1

/-- Encode's inside, by what is told. -/
theorem encode_any {W H n sb so sc : Nat} {D T d : Int} {f : Nat → Int} {x : Nat × Nat} {b : Nat → Int} (w : World) (B : Blk W H n D T d f) (hs : Smp w sb so n f) (hT : Tab w) (ht : Tell T d D W H n f x b) :
    Calls Tryz.prog 92 #[.agg #[.int .i64 (W : Int), .int .i64 (H : Int), .slice (some ⟨sb, so, none⟩) n sc], .int .i64 D, .int .i64 d] w fun e w' => ∃ g G c, e = .returned (.tuple #[.slice (some ⟨g, 0, none⟩) (nby x) (nby x), .slice (some ⟨G, 0, none⟩) n c, .int .i64 0]) ∧ w.heap.size ≤ g ∧ w.heap.size ≤ G ∧ w'.heap[g]? = some (.cells ((byts x).map byt).toArray 5 (0, 0)) ∧ Smp w' G 0 n b ∧ Kept [] w w' := by
  obtain ⟨j, hj, ⟨hc, rfl, rfl⟩ | ⟨hc, rfl, rfl⟩⟩ := ht
  · refine (encode_mid W H n sb so sc D T d f w hs hT B.sz B.n_ B.dp B.d0 B.d1 B.f_ (fun i hi => by rw [enc_one hi hj]; exact hc)).mono ?_
    rintro e w' ⟨i, g, G, hi, rfl, h1, h2, h3, h4, h5⟩
    obtain rfl := enc_one hi hj
    exact ⟨g, G, n, rfl, h1, h2, h3, h4, h5⟩
  · exact encode_raw W H n sb so sc D T d _ w hs hT B.sz B.n_ B.dp B.d0 B.d1 B.f_ (fun i hi => by rw [enc_one hi hj]; exact hc)

set_option maxHeartbeats 2000000 in
set_option maxRecDepth 100000 in
theorem Encode_any {W H n sb so sc : Nat} {D T d : Int} {f : Nat → Int} {x : Nat × Nat} {b : Nat → Int} (w : World) (B : Blk W H n D T d f) (hs : Smp w sb so n f) (hT : Tab w) (ht : Tell T d D W H n f x b) :
    Calls Tryz.prog 69 #[.agg #[.int .i64 (W : Int), .int .i64 (H : Int), .slice (some ⟨sb, so, none⟩) n sc], .int .i64 D, .int .i64 d] w fun e w' => ∃ g, e = .returned (.tuple #[.slice (some ⟨g, 0, none⟩) (nby x) (nby x), .int .i64 0]) ∧ w.heap.size ≤ g ∧ w'.heap[g]? = some (.cells ((byts x).map byt).toArray 5 (0, 0)) ∧ Kept [] w w' := by
  obtain ⟨w1, hw1, k1, b1⟩ := three_new w (.int .i64 (W : Int)) (.int .i64 (H : Int)) (.slice (some ⟨sb, so, none⟩) n sc) 132
  obtain ⟨Q, hQ⟩ : ∃ Q, w.heap.size = Q := ⟨_, rfl⟩
  have hsz := k1.size
  rw [hQ] at b1
  obtain ⟨z0, z1, z2⟩ := agg3' b1
  have C := Hid.mk (encode_any (sc := sc) w1 B (hs.keep k1 (by simp)) (hT.kept k1 (by simp)) ht)
  have K1 := Hid.mk k1
  have HQ := Hid.mk hQ
  clear hs hT ht b1 k1 B
  obtain ⟨L, hL⟩ : ∃ L, nby x = L := ⟨_, rfl⟩
  rw [hL] at C ⊢
  clear hL
  go_enter Tryz.func69, Tryz.ntmps69
  go_wp2_with (fail)
  refine C.out.mono ?_
  rintro e w2 ⟨g, G, c, rfl, hg, -, hb, -, k2⟩
  have HB := Hid.mk hb
  have K2 := Hid.mk k2
  have Hg := Hid.mk hg
  clear hb k2 C hg
  go_wp2
  go_ret2
  exact ⟨g, rfl, by have := Hg.out; have := HQ.out; omega, HB.out, K1.out.trans K2.out⟩

end Go.Proofs.YthhegomjipbdbaaGreatDoor
