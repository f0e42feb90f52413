import Derived.Test.YtahoeodpjdbdkabDoorFqZ
namespace Go.Proofs.YtahoeodpjdbdkabDoor
open Go.RowKit

set_option maxHeartbeats 2000000 in
set_option maxRecDepth 100000 in
/-- A depth or a tolerance that is none. -/
theorem newm_bad (D d : Int) (w : World) (h : ¬ ((D = 10 ∨ D = 12) ∧ 0 ≤ d ∧ d ≤ 63)) : Calls Tryd.prog 16 #[.int .i64 D, .int .i64 d] w fun e w' => ∃ c, e = .returned (.tuple #[.pointer none, .int .i64 c]) ∧ c ≠ 0 ∧ Kept [] w w' := by
  by_cases h3 : D = 10 ∨ D = 12
  · by_cases h5 : d < 0
    · clear h
      rcases h3 with rfl | rfl
      all_goals
        go_enter Tryd.func16, Tryd.ntmps16
        go_wp2
        go_ret2
        exact ⟨_, rfl, by decide, Kept.refl _ _⟩
    · have h6 : 63 < d := by omega
      clear h
      rcases h3 with rfl | rfl
      all_goals
        go_enter Tryd.func16, Tryd.ntmps16
        go_wp2
        go_ret2
        exact ⟨_, rfl, by decide, Kept.refl _ _⟩
  · have d1 : (D != 10) = true := by simp; omega
    have d2 : (D != 12) = true := by simp; omega
    clear h h3
    go_enter Tryd.func16, Tryd.ntmps16
    go_wp2
    go_ret2
    exact ⟨_, rfl, by decide, Kept.refl _ _⟩

theorem mxf_at (f : Nat → Int) (k : Nat) : ∃ i, i ≤ k ∧ mxf f k = f i := by
  induction k with
  | zero => exact ⟨0, by omega, rfl⟩
  | succ k ih =>
    obtain ⟨i, hi, e⟩ := ih
    unfold mxf
    by_cases h : mxf f k ≤ f (k + 1)
    · exact ⟨k + 1, by omega, by omega⟩
    · exact ⟨i, by omega, by omega⟩

/-- A block may be of a depth. -/
def MayB (W H D : Int) (n : Nat) (f : Nat → Int) : Prop := szd W H = true ∧ (n : Int) = W * H ∧ ∀ i, i < n → f i < 2 ^ D.toNat

set_option maxHeartbeats 2000000 in
set_option maxRecDepth 100000 in
/-- A block that may not be. -/
theorem mayBe_no (W H D T : Int) (ao : Option Addr) (n c : Nat) (f : Nat → Int) (w : World) (hs : In16 w ao n f) (hD : Dp D T) (hno : ¬ MayB W H D n f) :
    Calls Tryd.prog 22 #[.agg #[.int .i64 W, .int .i64 H, .slice ao n c], .int .i64 D] w fun e w' => e = .returned (.bool false) ∧ Kept [] w w' := by
  obtain ⟨w1, hw1, k1, b1⟩ := three_new w (.int .i64 W) (.int .i64 H) (.slice ao n c) 24
  obtain ⟨Q, hQ⟩ : ∃ Q, w.heap.size = Q := ⟨_, rfl⟩
  rw [hQ] at b1
  obtain ⟨z0, z1, z2⟩ := agg3' b1
  have C1 := Hid.mk (fun W' => sized_any W H W')
  have K1 := Hid.mk k1
  by_cases hz : szd W H = true
  · rw [hz] at C1
    have hb := szd_in hz
    obtain ⟨m, hm⟩ : ∃ m, W * H = m := ⟨_, rfl⟩
    have p1 : 1 ≤ W * H := by have : 1 * 1 ≤ W * H := Int.mul_le_mul (by omega) (by omega) (by omega) (by omega); omega
    have hx : wrap64 (W * H) = m := (w64_in (by omega) (by omega)).trans hm
    by_cases h2 : (n : Int) = m
    · obtain ⟨sb, so, rfl, hsm⟩ : ∃ sb so, ao = some ⟨sb, so, none⟩ ∧ Smp w sb so n f := by
        rcases hs.1 with h | h
        · omega
        · exact h
      have e2 : ((n : Int) != m) = false := by simp [h2]
      have C2 := Hid.mk (max_any sb so n c f w1 (hsm.keep k1 (by simp)) (by omega) (by omega))
      have hbig : T < mxf f (n - 1) := by
        refine Int.not_le.1 fun hle => hno ⟨hz, h2.trans hm.symm, fun i hi => ?_⟩
        have := mxf_ge f (n - 1) i (by omega)
        rcases hD with ⟨rfl, rfl⟩ | ⟨rfl, rfl⟩
        · rw [show (2 : Int) ^ Int.toNat 10 = 1024 from rfl]; omega
        · rw [show (2 : Int) ^ Int.toNat 12 = 4096 from rfl]; omega
      have hm0 : 0 ≤ mxf f (n - 1) ∧ mxf f (n - 1) ≤ 65535 := by
        obtain ⟨i, _, e⟩ := mxf_at f (n - 1)
        rw [e]; exact hs.2 i
      have hm2 := hi_some hD hbig
      have hd := hD.mid
      generalize mxf f (n - 1) = v at *
      clear hs hsm hb hm p1 hno hz b1 k1 hbig hD
      go_enter Tryd.func22, Tryd.ntmps22
      go_wp2_with (first | (go_at_call 17; refine (C1.out _).mono ?_; rintro e w' ⟨rfl, hw⟩; obtain rfl := hw.symm) | (go_at_call 40; refine C2.out.mono ?_; rintro e w' ⟨rfl, hw⟩; obtain rfl := hw.symm))
      go_ret
      exact ⟨ret_bool (by first | exact hm2 | rfl), K1.out⟩
    · have e2 : ((n : Int) != m) = true := by simp; exact h2
      clear hs hb hm p1 hno hz b1 k1 hD h2
      go_enter Tryd.func22, Tryd.ntmps22
      go_wp2_with (go_at_call 17; refine (C1.out _).mono ?_; rintro e w' ⟨rfl, hw⟩; obtain rfl := hw.symm)
      go_ret
      exact ⟨rfl, K1.out⟩
  · have hz : szd W H = false := by simpa using hz
    rw [hz] at C1
    clear hs hno hz b1 k1 hD
    go_enter Tryd.func22, Tryd.ntmps22
    go_wp2_with (go_at_call 17; refine (C1.out _).mono ?_; rintro e w' ⟨rfl, hw⟩; obtain rfl := hw.symm)
    go_ret
    exact ⟨rfl, K1.out⟩

theorem In16.keep {w w' : World} {ao : Option Addr} {n : Nat} {f : Nat → Int} (h : In16 w ao n f) (k : Kept [] w w') : In16 w' ao n f :=
  ⟨by
    rcases h.1 with h | ⟨sb, so, h1, h2⟩
    · exact .inl h
    · exact .inr ⟨sb, so, h1, h2.keep k (by simp)⟩, h.2⟩

set_option maxHeartbeats 4000000 in
set_option maxRecDepth 100000 in
/-- What may not be coded, is not. -/
theorem encode_no (W H D d : Int) (ao : Option Addr) (n c : Nat) (f : Nat → Int) (w : World) (hs : In16 w ao n f) (hno : ¬ MayC W H D d n f) :
    Calls Tryd.prog 15 #[.agg #[.int .i64 W, .int .i64 H, .slice ao n c], .int .i64 D, .int .i64 d] w fun e w' => ∃ x, e = .returned (.tuple #[.slice none 0 0, .slice none 0 0, .int .i64 x]) ∧ x ≠ 0 ∧ Kept [] w w' := by
  obtain ⟨w1, hw1, k1, b1⟩ := three_new w (.int .i64 W) (.int .i64 H) (.slice ao n c) 24
  obtain ⟨Q, hQ⟩ : ∃ Q, w.heap.size = Q := ⟨_, rfl⟩
  rw [hQ] at b1
  obtain ⟨z0, z1, z2⟩ := agg3' b1
  have K1 := Hid.mk k1
  have B1 := Hid.mk b1
  by_cases hg : (D = 10 ∨ D = 12) ∧ 0 ≤ d ∧ d ≤ 63
  · obtain ⟨T, hD⟩ : ∃ T, Dp D T := by
      rcases hg.1 with rfl | rfl
      · exact ⟨1023, .inl ⟨rfl, rfl⟩⟩
      · exact ⟨4095, .inr ⟨rfl, rfl⟩⟩
    have hb : ¬ MayB W H D n f := fun h => hno ⟨h.1, h.2.1, hg.1, hg.2.1, hg.2.2, h.2.2⟩
    have C1 := Hid.mk (newm_any D T d hD w1 hg.2.1 hg.2.2)
    have HS := Hid.mk hs
    have HB := Hid.mk hb
    have HD := Hid.mk hD
    clear hs hno hg hb hD k1 b1
    go_enter Tryd.func15, Tryd.ntmps15
    go_wp2_with (fail)
    refine C1.out.mono ?_
    rintro e w2 ⟨P, rfl, m2, hP, k2⟩
    have B2 := Hid.mk (k2.heap B1.out (by simp))
    have K2 := Hid.mk (K1.out.trans k2)
    clear m2 hP k2 C1 z0 z1 z2
    obtain ⟨z0, z1, z2⟩ := agg3' B2.out
    have C2 := Hid.mk (mayBe_no W H D T ao n c f w2 (HS.out.keep K2.out) HD.out HB.out)
    go_wp2_with (fail)
    refine C2.out.mono ?_
    rintro e w3 ⟨rfl, k3⟩
    have K3 := Hid.mk (K2.out.trans k3)
    clear k3 C2
    go_wp2
    (try simp only [Exit.inBlock, Exit.then]); refine bodyPost_ret (results_tmp3 rfl _ _ _) rfl ?_
    exact ⟨_, rfl, by decide, K3.out⟩
  · have C1 := Hid.mk (newm_bad D d w1 hg)
    clear hs hno hg k1 b1
    go_enter Tryd.func15, Tryd.ntmps15
    go_wp2_with (fail)
    refine C1.out.mono ?_
    rintro e w2 ⟨x, rfl, hx, k2⟩
    have K2 := Hid.mk (K1.out.trans k2)
    clear k2 C1
    have hx' : (x != 0) = true := by simp; exact hx
    go_wp2
    (try simp only [Exit.inBlock, Exit.then]); refine bodyPost_ret (results_tmp3 rfl _ _ _) rfl ?_
    exact ⟨x, rfl, hx, K2.out⟩

set_option maxHeartbeats 2000000 in
set_option maxRecDepth 100000 in
theorem Encode_no (W H D d : Int) (ao : Option Addr) (n c : Nat) (f : Nat → Int) (w : World) (hs : In16 w ao n f) (hno : ¬ MayC W H D d n f) :
    Calls Tryd.prog 8 #[.agg #[.int .i64 W, .int .i64 H, .slice ao n c], .int .i64 D, .int .i64 d] w fun e w' => ∃ x, e = .returned (.tuple #[.slice none 0 0, .int .i64 x]) ∧ x ≠ 0 ∧ Kept [] w w' := by
  obtain ⟨w1, hw1, k1, b1⟩ := three_new w (.int .i64 W) (.int .i64 H) (.slice ao n c) 24
  obtain ⟨Q, hQ⟩ : ∃ Q, w.heap.size = Q := ⟨_, rfl⟩
  rw [hQ] at b1
  obtain ⟨z0, z1, z2⟩ := agg3' b1
  have K1 := Hid.mk k1
  have C := Hid.mk (encode_no W H D d ao n c f w1 (hs.keep k1) hno)
  clear hs hno k1 b1
  go_enter Tryd.func8, Tryd.ntmps8
  go_wp2_with (fail)
  refine C.out.mono ?_
  rintro e w2 ⟨x, rfl, hx, k2⟩
  have K2 := Hid.mk (K1.out.trans k2)
  clear k2 C
  go_wp2
  go_ret2
  exact ⟨x, rfl, hx, K2.out⟩
end Go.Proofs.YtahoeodpjdbdkabDoor

namespace Go.Proofs.YtahoeodpjdbdkabDoor
open Go.RowKit

/-- How far two lists of samples are apart at most. -/
def apf (a b : Nat → Int) : Nat → Int
  | 0 => 0
  | k + 1 => max (max (apf a b k) (a k - b k)) (-(a k - b k))
theorem apf_le (a b : Nat → Int) (d : Int) (h0 : 0 ≤ d) (k : Nat) (h : ∀ i, i < k → a i - b i ≤ d ∧ -(a i - b i) ≤ d) : 0 ≤ apf a b k ∧ apf a b k ≤ d := by
  induction k with
  | zero => exact ⟨Int.le_refl _, h0⟩
  | succ k ih => have := ih (fun i hi => h i (by omega)); have := h k (by omega); unfold apf; omega

set_option maxHeartbeats 2000000 in
set_option maxRecDepth 100000 in
theorem apart_any (sa so ca sb s2 cb n : Nat) (f g : Nat → Int) (w : World) (ha : Smp w sa so n f) (hb : Smp w sb s2 n g) (hn : n ≤ 4194304) (hf : ∀ i, i < n → 0 ≤ f i ∧ f i ≤ 65535) (hg : ∀ i, i < n → 0 ≤ g i ∧ g i ≤ 65535) :
    Calls Tryd.prog 13 #[.slice (some ⟨sa, so, none⟩) n ca, .slice (some ⟨sb, s2, none⟩) n cb] w fun e w' => e = .returned (.int .i64 (apf f g n)) ∧ Kept [] w w' := by
  have HA := Hid.mk ha
  have HB := Hid.mk hb
  have HF := Hid.mk hf
  have HG := Hid.mk hg
  clear ha hb hf hg
  go_enter Tryd.func13, Tryd.ntmps13
  go_wp2
  go_loopw [5, 6] (fun m i wr => ∃ k : Nat, k ≤ n ∧ i = .int .i64 (k : Int) ∧ m = .int .i64 (apf f g k) ∧ Kept [] w wr) (fun _ i _ => n - (intOf i).toNat)
  case atStart => exact ⟨0, by omega, rfl, rfl, Kept.refl _ _⟩
  case round =>
    obtain ⟨k, hk, rfl, rfl, hkw⟩ := hrel
    have HK := Hid.mk hkw
    by_cases hlt : k < n
    · have a := (HA.out.keep hkw (by simp)) k hlt
      have b := (HB.out.keep hkw (by simp)) k hlt
      have fa := HF.out k hlt
      have fb := HG.out k hlt
      obtain ⟨u, hu⟩ : ∃ u, f k = u := ⟨_, rfl⟩
      obtain ⟨v, hv⟩ : ∃ v, g k = v := ⟨_, rfl⟩
      obtain ⟨m, hm⟩ : ∃ m, apf f g k = m := ⟨_, rfl⟩
      rw [hu] at a fa
      rw [hv] at b fb
      rw [hm]
      have HE : Hid (apf f g (k + 1) = max (max m (u - v)) (-(u - v))) := Hid.mk (by show max (max (apf f g k) (f k - g k)) (-(f k - g k)) = _; rw [hm, hu, hv])
      obtain ⟨t, ht⟩ : ∃ t, u - v = t := ⟨_, rfl⟩
      rw [ht] at HE
      have wu : IntKind.i64.wrap u = u := wrap_i (by omega) (by omega)
      have wv : IntKind.i64.wrap v = v := wrap_i (by omega) (by omega)
      have wt : IntKind.i64.wrap (u - v) = t := (wrap_i (by omega) (by omega)).trans ht
      have wt2 : wrap64 (u - v) = t := (w64_in (by omega) (by omega)).trans ht
      have wn : IntKind.i64.wrap (-t) = -t := wrap_i (by omega) (by omega)
      have wn2 : wrap64 (-t) = -t := w64_in (by omega) (by omega)
      have ix : (k : Int) < n := by omega
      clear hkw hu hv hm ht
      go_wp2
      go_quiet (fail)
      go_wp2
      go_roundw
      case rel => exact ⟨k + 1, by omega, by go_num, by rw [HE.out]; congr 1; (repeat' split) <;> omega, HK.out.drewN _⟩
      case measure => simp [intOf]; omega
    · obtain rfl : n = k := by omega
      have ix : ¬ (n : Int) < (n : Int) := by omega
      clear hkw
      go_wp2
      go_ret
      exact ⟨rfl, HK.out⟩

theorem first_byte {l : List Nat} (hl : Byts l) (h : 8 ≤ 8 * l.length) : ∃ t, l = nextN l 0 8 :: t := by
  match l, hl, h with
  | c :: t, hl, _ =>
    refine ⟨t, ?_⟩
    have h1 : num (c :: t) = c * 256 ^ t.length + num t := by
      have := num_append [c] t
      simpa [num] using this
    have h2 : num t < 256 ^ t.length := num_lt t (fun b hb => hl b (List.mem_cons_of_mem _ hb))
    have h3 : c < 256 := hl c (List.mem_cons_self ..)
    have e : nextN (c :: t) 0 8 = c := by
      unfold nextN
      rw [h1, show 8 * (c :: t).length - (0 + 8) = 8 * t.length by simp [Nat.mul_succ], Nat.pow_mul, show (2 : Nat) ^ 8 = 256 from rfl, Nat.add_comm, Nat.add_mul_div_right _ _ (Nat.pow_pos (by decide)), Nat.div_eq_of_lt h2, Nat.zero_add, Nat.mod_eq_of_lt h3]
    rw [e]

/-- The first byte, and how many there are. -/
theorem tell_first {W H n : Nat} {D T d : Int} {f b : Nat → Int} {x : Nat × Nat} (B : Blk W H n D T d f) (h : Tell T d D W H n f x b) :
    ∃ c t, byts x = c :: t ∧ ((c = 1 ∧ (nby x : Int) < (rsz W H D).1) ∨ (c = 0 ∧ (nby x : Int) = (rsz W H D).1 ∧ b = f)) := by
  have hw := B.w
  obtain ⟨_, hB, hh, _⟩ := byts_hold (tell_lt B.gd B.dp hw.1 B.f_ h)
  obtain ⟨j, hj, ⟨hc, rfl, rfl⟩ | ⟨hc, rfl, rfl⟩⟩ := h
  · have h0 : Holds _ (1, 8) := holds_wrt B.gd hw.1 B.f_ 0 j (by rw [Nat.zero_add]; exact hh)
    obtain ⟨t, ht⟩ := first_byte hB h0.1
    exact ⟨_, t, ht, .inl ⟨h0.2, hc⟩⟩
  · have h0 : Holds _ (0, 8) := holds_rwb (fun i => B.dp.up (B.f_ i).1 (B.f_ i).2) 0 n (by rw [Nat.zero_add]; exact hh)
    obtain ⟨t, ht⟩ := first_byte hB h0.1
    refine ⟨_, t, ht, .inr ⟨h0.2, ?_, rfl⟩⟩
    have hD : 0 ≤ D ∧ ¬ (D ≠ 10 ∧ D ≠ 12) := by rcases B.dp with ⟨rfl, _⟩ | ⟨rfl, _⟩ <;> decide
    have e1 : nby (rwb D.toNat b n) = (8 + D.toNat * n + 7) / 8 := by unfold nby; rw [rwb_len]
    have e2 : (rsz (W : Int) (H : Int) D).1 = 1 + (D * W * H + 7) / 8 := by unfold rsz; rw [if_neg hD.2, if_pos B.sz]
    have e3 : D * W * H = ((D.toNat * n : Nat) : Int) := by rw [B.n_, Int.natCast_mul, Int.natCast_mul, show ((D.toNat : Nat) : Int) = D by omega, Int.mul_assoc]
    rw [e1, e2, e3]
    generalize D.toNat * n = q
    omega
end Go.Proofs.YtahoeodpjdbdkabDoor
