import Derived.Test.YtahoeodpjdbdkaaDoorFa
namespace Go.Proofs.YtahoeodpjdbdkaaDoor
open Go.RowKit

set_option maxHeartbeats 8000000 in
set_option maxRecDepth 1000000 in
/-- A block that may be, raw. -/
theorem encode_raw (W H n sb so sc : Nat) (D T d : Int) (f : Nat → Int) (w : World) (hs : Smp w sb so n f) (hT : Tab w) (hz : szd (W : Int) (H : Int) = true) (hn : n = W * H) (hD : Dp D T) (d0 : 0 ≤ d) (d1 : d ≤ 63) (hf : ∀ i, 0 ≤ f i ∧ f i ≤ T)
    (hc : ∀ j, Enc T d W n f j → ¬ (nby (xw T d W f j) : Int) < (rsz W H D).1) :
    Calls Tryd.prog 18 #[.agg #[.int .i64 (W : Int), .int .i64 (H : Int), .slice (some ⟨sb, so, none⟩) n sc], .int .i64 D, .int .i64 d] w fun e w' => ∃ g G c, e = .returned (.tuple #[.slice (some ⟨g, 0, none⟩) (nby (rwb D.toNat f n)) (nby (rwb D.toNat f n)), .slice (some ⟨G, 0, none⟩) n c, .int .i64 0]) ∧ w.heap.size ≤ g ∧ w.heap.size ≤ G ∧ w'.heap[g]? = some (.cells ((byts (rwb D.toNat f n)).map byt).toArray 5 (0, 0)) ∧ Smp w' G 0 n f ∧ Kept [] w w' := by
  have hb := szd_in hz
  have hcst : (W : Int) * H = (n : Int) := by rw [hn]; simp
  rw [hcst] at hb
  have hG := hD.gd d0 d1
  have HC := Hid.mk hc
  have HN := Hid.mk hn
  have Hf := Hid.mk hf
  obtain ⟨w1, hw1, k1, b1⟩ := three_new w (.int .i64 (W : Int)) (.int .i64 (H : Int)) (.slice (some ⟨sb, so, none⟩) n sc) 29
  obtain ⟨Q, hQ⟩ : ∃ Q, w.heap.size = Q := ⟨_, rfl⟩
  have hQw := hQ
  rw [hQ] at b1
  have C1 := Hid.mk (newm_any D T d hD w1 d0 d1)
  have HT := Hid.mk hT
  have HS := Hid.mk hs
  have K1 := Hid.mk k1
  have B1 := Hid.mk b1
  have C8 := Hid.mk (fun W' => rawSize_any (W : Int) (H : Int) D W')
  have er : (rsz (W : Int) (H : Int) D).2 = 0 := by
    unfold rsz
    rw [if_neg (by rcases hD with ⟨h, _⟩ | ⟨h, _⟩ <;> omega), if_pos hz]
  rw [er] at C8
  obtain ⟨R, hR⟩ : ∃ R, (rsz (W : Int) (H : Int) D).1 = R := ⟨_, rfl⟩
  rw [hR] at C8 HC
  have HZ := Hid.mk hz
  have HD := Hid.mk hD
  obtain ⟨z0, z1, z2⟩ := agg3' b1
  clear hc hn hf hT hs k1 b1 er hR hz hcst hD
  go_enter Tryd.func18, Tryd.ntmps18
  go_wp2_with (fail)
  refine C1.out.mono ?_
  rintro e w2 ⟨P, rfl, m2, hP, k2⟩
  have B2 := Hid.mk (k2.heap B1.out (by simp))
  obtain ⟨y0, y1, y2⟩ := agg3' B2.out
  have K2 := Hid.mk k2
  have M2 := Hid.mk m2
  have HP := Hid.mk hP
  have C2 := Hid.mk (mayBe_yes W H n sb so sc D T f w2 (HS.out.keep (K1.out.trans K2.out) (by simp)) HZ.out HN.out HD.out Hf.out)
  clear k2 m2 hP z0 z1 z2 C1
  go_wp2_with (fail)
  refine C2.out.mono ?_
  rintro e w3 ⟨rfl, k3⟩
  have B3 := Hid.mk (k3.heap B2.out (by simp))
  obtain ⟨z0, z1, z2⟩ := agg3' B3.out
  have K3 := Hid.mk (K2.out.trans k3)
  have M3 := Hid.mk (M2.out.keep k3 (by simp))
  have C3 := Hid.mk (fun W' (hk : Kept [] w3 W') => (newWalk_any P W H n D W' (by omega) (by omega) HN.out.symm).mono (R' := fun e w' => ∃ X G, e = .returned (.agg (wc W D P X G n 0 []).toArray) ∧ Hid (CoderAt w' X 0 ∧ w'.heap[G]? = some (.cells (List.replicate n (.int .u16 0)).toArray 41 (0, 0)) ∧ w1.heap.size ≤ X ∧ w1.heap.size ≤ G ∧ Kept [] w3 w') ∧ w'.cell? ⟨Q, 0, none⟩ = some (.int .i64 (W : Int)) ∧ w'.cell? ⟨Q, 1, none⟩ = some (.int .i64 (H : Int)) ∧ w'.cell? ⟨Q, 2, none⟩ = some (.slice (some ⟨sb, so, none⟩) n sc)) (by
    rintro e w' ⟨X, G, rfl, a1, a2, a3, a4, a5⟩
    have hk' := hk.trans a5
    have hsz := (K3.out.trans hk).size
    exact ⟨X, G, rfl, Hid.mk ⟨a1, a2, Nat.le_trans hsz a3, Nat.le_trans hsz a4, hk'⟩, agg3' (hk'.heap B3.out (by simp))⟩))
  have C4 := Hid.mk (fun W' (hk : Kept [] w3 W') X G => (newCoder_any sb so n sc P X G W d D W').mono (R' := fun e w' => ∃ B O, e = .returned (.pointer (some ⟨B, 0, none⟩)) ∧ Hid (w'.heap[B]? = some (.cells (wc W D P X G n 0 (cext sb so n sc d O)).toArray 65 (0, 0)) ∧ WriterAt w' O (.slice none 0 0) 0 0 ∧ w1.heap.size ≤ B ∧ w1.heap.size ≤ O ∧ Kept [] W' w' ∧ Kept [] w3 w') ∧ w'.cell? ⟨Q, 0, none⟩ = some (.int .i64 (W : Int)) ∧ w'.cell? ⟨Q, 1, none⟩ = some (.int .i64 (H : Int)) ∧ w'.cell? ⟨Q, 2, none⟩ = some (.slice (some ⟨sb, so, none⟩) n sc)) (by
    rintro e w' ⟨B, O, rfl, a1, a2, a3, a4, a5⟩
    have hk' := hk.trans a5
    have hsz := (K3.out.trans hk).size
    exact ⟨B, O, rfl, Hid.mk ⟨a1, a2, Nat.le_trans hsz a3, Nat.le_trans hsz a4, a5, hk'⟩, agg3' (hk'.heap B3.out (by simp))⟩))
  clear k3 y0 y1 y2 C2
  go_wp2_with (fail)
  go_region_held_law (fun w' => w'.cell? ⟨Q, 0, none⟩ = some (.int .i64 (W : Int)) ∧ w'.cell? ⟨Q, 1, none⟩ = some (.int .i64 (H : Int)) ∧ w'.cell? ⟨Q, 2, none⟩ = some (.slice (some ⟨sb, so, none⟩) n sc)) (first | exact ⟨z0, z1, z2⟩ | exact ⟨t0, t1, t2⟩ | exact ⟨r0, r1, r2⟩ | go_keep) (first | (go_at_call 21; refine (C3.out _ (by with_reducible exact (Kept.refl _ _).drew)).mono ?_; rintro e w4 ⟨X, G, rfl, R4, t0, t1, t2⟩) | (go_at_call 25; refine (C4.out _ R4.out.2.2.2.2 X G).mono ?_; rintro e w5 ⟨B, O, rfl, R5, r0, r1, r2⟩))
  obtain ⟨a1, a2, a3, a4, a5⟩ := R4.out
  obtain ⟨b1, b2, b3, b4, b5, b6⟩ := R5.out
  have h5 : Cm w1 B P X G O T d D W n sb so sc f w5 (wk0 T d) (0, 0) := by
    refine ⟨⟨b1, M3.out.keep b6 (by simp), a1.kept b5 (by simp), ⟨_, b5.heap a2 (by simp), by simp, fun i hi => ?_⟩, .inl rfl⟩, ⟨_, b2, fun g hg => by simp [Value.ownBlock] at hg⟩, K3.out.trans b6, HS.out.keep K1.out (by simp), HT.out.kept K1.out (by simp), b3, HP.out, a3, a4, b4⟩
    have : i < 0 := hi
    omega
  have C5 := Hid.mk (write_any w1 B P X G O T d D W H n sb so sc f w5 hG HD.out (by omega) (by omega) (by omega) HN.out Hf.out h5 b2)
  clear a1 a2 a3 a4 a5 b1 b2 b3 b4 b5 b6 h5 R4 R5 C3 C4 t0 t1 t2 r0 r1 r2 z0 z1 z2
  go_wp2_with (fail)
  refine C5.out.mono ?_
  rintro e w6 ⟨j, g, hE, h6, hg, rfl, hb6⟩
  have B6 := Hid.mk (h6.keep.heap B1.out (by simp))
  obtain ⟨z0, z1, z2⟩ := agg3' B6.out
  have hlt := HC.out j hE
  have H6 := Hid.mk h6
  have HB6 := Hid.mk hb6
  have HE := Hid.mk hE
  have Hg := Hid.mk hg
  have nb : ((wrt T d W (cE T d W f) (wk0 T d) j).snd + 7) / 8 = nby (xw T d W f j) := rfl
  rw [nb] at HB6 ⊢
  obtain ⟨L, hL⟩ : ∃ L, nby (xw T d W f j) = L := ⟨_, rfl⟩
  rw [hL] at hlt HB6 ⊢
  have HL := Hid.mk hL
  have K6 := Hid.mk (K1.out.trans h6.keep)
  have C9 := Hid.mk (fun W' (hk : Kept [] w6 W') => (rawOf_any sb so n sc D T f W' (HS.out.keep (K6.out.trans hk) (by simp)) HD.out (by omega) Hf.out).mono (R' := fun e w' => ∃ g, e = .returned (.slice (some ⟨g, 0, none⟩) (nby (rwb D.toNat f n)) (nby (rwb D.toNat f n))) ∧ Hid (w.heap.size ≤ g ∧ w'.heap[g]? = some (.cells ((byts (rwb D.toNat f n)).map byt).toArray 5 (0, 0)) ∧ Kept [] W' w' ∧ Kept [] w6 w') ∧ w'.cell? ⟨Q, 2, none⟩ = some (.slice (some ⟨sb, so, none⟩) n sc)) (by
    rintro e w' ⟨g, rfl, a1, a2, a3⟩
    exact ⟨g, rfl, Hid.mk ⟨Nat.le_trans (K6.out.trans hk).size a1, a2, a3, hk.trans a3⟩, (agg3' ((hk.trans a3).heap B6.out (by simp))).2.2⟩))
  have C10 := Hid.mk (fun W' (hk : Kept [] w6 W') => (clone_any sb so n sc f W' (HS.out.keep (K6.out.trans hk) (by simp)) (by omega)).mono (R' := fun e w' => ∃ G c, e = .returned (.slice (some ⟨G, 0, none⟩) n c) ∧ Hid (w.heap.size ≤ G ∧ Smp w' G 0 n f ∧ Kept [] W' w' ∧ Kept [] w6 w') ∧ w'.cell? ⟨Q, 2, none⟩ = some (.slice (some ⟨sb, so, none⟩) n sc)) (by
    rintro e w' ⟨G, c, rfl, a1, a2, a3⟩
    exact ⟨G, c, rfl, Hid.mk ⟨Nat.le_trans (K6.out.trans hk).size a1, a2, a3, hk.trans a3⟩, (agg3' ((hk.trans a3).heap B6.out (by simp))).2.2⟩))
  obtain ⟨LL, hLL⟩ : ∃ LL, nby (rwb D.toNat f n) = LL := ⟨_, rfl⟩
  rw [hLL] at C9
  have HLL := Hid.mk hLL
  clear h6 hb6 hE hg C5 nb hL hLL
  go_wp2_with (fail)
  refine (C8.out _).mono ?_
  rintro e w7 ⟨rfl, hw7⟩
  obtain rfl := hw7.symm
  clear C8 hw7
  go_wp2
  go_region_held_law (fun w' => w'.cell? ⟨Q, 2, none⟩ = some (.slice (some ⟨sb, so, none⟩) n sc)) (first | exact z2 | exact t2 | exact r2 | go_keep) (first | (go_at_call 27; refine (C9.out _ (by first | with_reducible exact (Kept.refl _ _).drew | exact R8.out.2.2.2)).mono ?_; rintro e w9 ⟨g9, rfl, R9, t2⟩) | (go_at_call 28; refine (C10.out _ (by first | with_reducible exact (Kept.refl _ _).drew | exact R9.out.2.2.2)).mono ?_; rintro e w8 ⟨G8, c8, rfl, R8, r2⟩))
  all_goals
    clear C9 C10 t2 r2
    go_wp2
    (try simp only [Exit.inBlock, Exit.then]); refine bodyPost_ret (results_tmp3 rfl _ _ _) rfl ?_
    obtain ⟨a1, a2, a3, a4⟩ := R9.out
    obtain ⟨b1, b2, b3, b4⟩ := R8.out
    refine ⟨g9, G8, c8, ?_, a1, b1, ?_, ?_, ?_⟩
    · rw [HLL.out]; rfl
    · first | exact a2 | exact b3.heap a2 (by simp)
    · first | exact b2 | exact b2.keep a3 (by simp)
    · first | exact K6.out.trans b4 | exact K6.out.trans a4
end Go.Proofs.YtahoeodpjdbdkaaDoor
