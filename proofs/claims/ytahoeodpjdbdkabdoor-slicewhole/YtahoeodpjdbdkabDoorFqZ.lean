import Derived.Test.YtahoeodpjdbdkabDoorFeZ
namespace Go.Proofs.YtahoeodpjdbdkabDoor
open Go.RowKit

/-- What is asked of a block that may be coded. -/
structure Blk (W H n : Nat) (D T d : Int) (f : Nat → Int) : Prop where
  sz : szd (W : Int) (H : Int) = true
  n_ : n = W * H
  dp : Dp D T
  d0 : 0 ≤ d
  d1 : d ≤ 63
  f_ : ∀ i, 0 ≤ f i ∧ f i ≤ T
theorem Blk.w {W H n : Nat} {D T d : Int} {f : Nat → Int} (h : Blk W H n D T d f) : 1 ≤ W ∧ W ≤ 4096 ∧ 1 ≤ H ∧ H ≤ 4096 ∧ 1 ≤ n ∧ n ≤ 4194304 := by
  have hb := szd_in h.sz
  have hc : (W : Int) * H = (n : Int) := by rw [h.n_]; simp
  rw [hc] at hb
  have h1 : 1 ≤ n := by rw [h.n_]; exact Nat.mul_pos (by omega) (by omega)
  omega
theorem Blk.gd {W H n : Nat} {D T d : Int} {f : Nat → Int} (h : Blk W H n D T d f) : Gd T d := h.dp.gd h.d0 h.d1

/-- Encode's inside, by what is told. -/
theorem encode_any {W H n sb so sc : Nat} {D T d : Int} {f : Nat → Int} {x : Nat × Nat} {b : Nat → Int} (w : World) (B : Blk W H n D T d f) (hs : Smp w sb so n f) (hT : Tab w) (ht : Tell T d D W H n f x b) :
    Calls Tryd.prog 15 #[.agg #[.int .i64 (W : Int), .int .i64 (H : Int), .slice (some ⟨sb, so, none⟩) n sc], .int .i64 D, .int .i64 d] w fun e w' => ∃ g G c, e = .returned (.tuple #[.slice (some ⟨g, 0, none⟩) (nby x) (nby x), .slice (some ⟨G, 0, none⟩) n c, .int .i64 0]) ∧ w.heap.size ≤ g ∧ w.heap.size ≤ G ∧ w'.heap[g]? = some (.cells ((byts x).map byt).toArray 5 (0, 0)) ∧ Smp w' G 0 n b ∧ Kept [] w w' := by
  obtain ⟨j, hj, ⟨hc, rfl, rfl⟩ | ⟨hc, rfl, rfl⟩⟩ := ht
  · refine (encode_mid W H n sb so sc D T d f w hs hT B.sz B.n_ B.dp B.d0 B.d1 B.f_ (fun i hi => by rw [enc_one hi hj]; exact hc)).mono ?_
    rintro e w' ⟨i, g, G, hi, rfl, h1, h2, h3, h4, h5⟩
    obtain rfl := enc_one hi hj
    exact ⟨g, G, n, rfl, h1, h2, h3, h4, h5⟩
  · exact encode_raw W H n sb so sc D T d _ w hs hT B.sz B.n_ B.dp B.d0 B.d1 B.f_ (fun i hi => by rw [enc_one hi hj]; exact hc)

set_option maxHeartbeats 2000000 in
set_option maxRecDepth 100000 in
theorem Encode_any {W H n sb so sc : Nat} {D T d : Int} {f : Nat → Int} {x : Nat × Nat} {b : Nat → Int} (w : World) (B : Blk W H n D T d f) (hs : Smp w sb so n f) (hT : Tab w) (ht : Tell T d D W H n f x b) :
    Calls Tryd.prog 8 #[.agg #[.int .i64 (W : Int), .int .i64 (H : Int), .slice (some ⟨sb, so, none⟩) n sc], .int .i64 D, .int .i64 d] w fun e w' => ∃ g, e = .returned (.tuple #[.slice (some ⟨g, 0, none⟩) (nby x) (nby x), .int .i64 0]) ∧ w.heap.size ≤ g ∧ w'.heap[g]? = some (.cells ((byts x).map byt).toArray 5 (0, 0)) ∧ Kept [] w w' := by
  obtain ⟨w1, hw1, k1, b1⟩ := three_new w (.int .i64 (W : Int)) (.int .i64 (H : Int)) (.slice (some ⟨sb, so, none⟩) n sc) 24
  obtain ⟨Q, hQ⟩ : ∃ Q, w.heap.size = Q := ⟨_, rfl⟩
  have hsz := k1.size
  rw [hQ] at b1
  obtain ⟨z0, z1, z2⟩ := agg3' b1
  have C := Hid.mk (encode_any (sc := sc) w1 B (hs.keep k1 (by simp)) (hT.kept k1 (by simp)) ht)
  have K1 := Hid.mk k1
  have HQ := Hid.mk hQ
  clear hs hT ht b1 k1 B
  obtain ⟨L, hL⟩ : ∃ L, nby x = L := ⟨_, rfl⟩
  rw [hL] at C ⊢
  clear hL
  go_enter Tryd.func8, Tryd.ntmps8
  go_wp2_with (fail)
  refine C.out.mono ?_
  rintro e w2 ⟨g, G, c, rfl, hg, -, hb, -, k2⟩
  have HB := Hid.mk hb
  have K2 := Hid.mk k2
  have Hg := Hid.mk hg
  clear hb k2 C hg
  go_wp2
  go_ret2
  exact ⟨g, rfl, by have := Hg.out; have := HQ.out; omega, HB.out, K1.out.trans K2.out⟩

/-- Decode of what was told. -/
theorem Decode_any {W H n : Nat} {ao : Option Addr} {cap : Nat} {D T d : Int} {f : Nat → Int} {x : Nat × Nat} {b : Nat → Int} (w : World) (B : Blk W H n D T d f) (hT : Tab w) (ht : Tell T d D W H n f x b) (hr : Reads w ao (byts x)) :
    Calls Tryd.prog 9 #[.slice ao (nby x) cap, .int .i64 (W : Int), .int .i64 (H : Int), .int .i64 D, .int .i64 d] w fun e w' => ∃ G, e = .returned (.tuple #[.agg #[.int .i64 (W : Int), .int .i64 (H : Int), .slice (some ⟨G, 0, none⟩) n n], .int .i64 0]) ∧ w.heap.size ≤ G ∧ Smp w' G 0 n b ∧ Kept [] w w' := by
  have hw := B.w
  obtain ⟨h1, h2, h3, h4, h5⟩ := byts_hold (tell_lt B.gd B.dp hw.1 B.f_ ht)
  have hx : nby x ≤ 281474976710656 := by
    obtain ⟨j, hj, ⟨hc, rfl, rfl⟩ | ⟨hc, rfl, rfl⟩⟩ := ht
    · have h9 := wrt_len B.gd (cE T d W f) (wk0 T d) hw.1 j
      rw [hj.fin] at h9
      have h9 : (xw T d W f j).2 ≤ 8 + 54 * n := h9
      unfold nby; omega
    · unfold nby
      rw [rwb_len]
      have : D.toNat * n ≤ 12 * 4194304 := Nat.mul_le_mul (by have := B.dp.mid; omega) (by omega)
      omega
  obtain ⟨j, hj, ⟨hc, rfl, rfl⟩ | ⟨hc, rfl, rfl⟩⟩ := ht
  · exact Decode_coded W H n ao cap _ _ D T d f w hr h2 h1 hx hT B.sz B.n_ B.dp B.d0 B.d1 B.f_ j hj h3 h4 h5
  · rw [rwb_len] at h4 h5
    exact Decode_raw W H n ao cap _ _ D T d _ w hr h2 h1 hx hT B.sz B.n_ B.dp B.d0 B.d1 B.f_ h3 h4 h5
end Go.Proofs.YtahoeodpjdbdkabDoor

namespace Go.Proofs.YtahoeodpjdbdkabDoor
open Go.RowKit

set_option maxHeartbeats 2000000 in
set_option maxRecDepth 100000 in
/-- Lists of samples that are the same. -/
theorem same_yes (sa so ca sb s2 cb n : Nat) (f : Nat → Int) (w : World) (ha : Smp w sa so n f) (hb : Smp w sb s2 n f) (hn : n ≤ 4194304) :
    Calls Tryd.prog 21 #[.slice (some ⟨sa, so, none⟩) n ca, .slice (some ⟨sb, s2, none⟩) n cb] w fun e w' => e = .returned (.bool true) ∧ Kept [] w w' := by
  have HA := Hid.mk ha
  have HB := Hid.mk hb
  clear ha hb
  go_enter Tryd.func21, Tryd.ntmps21
  go_wp2
  go_loopw [5] (fun i wr => ∃ k : Nat, k ≤ n ∧ i = .int .i64 (k : Int) ∧ Kept [] w wr) (fun i _ => n - (intOf i).toNat)
  case atStart => exact ⟨0, by omega, rfl, Kept.refl _ _⟩
  case round =>
    obtain ⟨k, hk, rfl, hkw⟩ := hrel
    have HK := Hid.mk hkw
    by_cases hlt : k < n
    · have a := (HA.out.keep hkw (by simp)) k hlt
      have b := (HB.out.keep hkw (by simp)) k hlt
      generalize f k = v at *
      have ix : (k : Int) < n := by omega
      clear hkw
      go_wp2
      go_quiet (fail)
      go_wp2
      go_roundw
      case rel => exact ⟨k + 1, by omega, by go_num, HK.out.drewN _⟩
      case measure => simp [intOf]; omega
    · obtain rfl : n = k := by omega
      have ix : ¬ (n : Int) < (n : Int) := by omega
      clear hkw
      go_wp2
      go_ret
      exact ⟨rfl, HK.out⟩

set_option maxHeartbeats 2000000 in
set_option maxRecDepth 100000 in
theorem sameB_yes (W H : Int) (sa so ca sb s2 cb n : Nat) (f : Nat → Int) (w : World) (ha : Smp w sa so n f) (hb : Smp w sb s2 n f) (hn : n ≤ 4194304) :
    Calls Tryd.prog 11 #[.agg #[.int .i64 W, .int .i64 H, .slice (some ⟨sa, so, none⟩) n ca], .agg #[.int .i64 W, .int .i64 H, .slice (some ⟨sb, s2, none⟩) n cb]] w fun e w' => e = .returned (.bool true) ∧ Kept [] w w' := by
  obtain ⟨w1, hw1, k1, b1⟩ := three_new w (.int .i64 W) (.int .i64 H) (.slice (some ⟨sa, so, none⟩) n ca) 24
  obtain ⟨w2, hw2, k2, b2⟩ := three_new w1 (.int .i64 W) (.int .i64 H) (.slice (some ⟨sb, s2, none⟩) n cb) 24
  obtain ⟨Q, hQ⟩ : ∃ Q, w.heap.size = Q := ⟨_, rfl⟩
  obtain ⟨R, hR⟩ : ∃ R, w1.heap.size = R := ⟨_, rfl⟩
  rw [hQ] at b1
  rw [hR] at b2
  have b1' := k2.heap b1 (by simp)
  obtain ⟨z0, z1, z2⟩ := agg3' b1'
  obtain ⟨y0, y1, y2⟩ := agg3' b2
  have C := Hid.mk (same_yes sa so ca sb s2 cb n f w2 (ha.keep (k1.trans k2) (by simp)) (hb.keep (k1.trans k2) (by simp)) hn)
  have K2 := Hid.mk (k1.trans k2)
  have HB := Hid.mk (And.intro b1' b2)
  clear ha hb b1 k1 k2 b2 b1'
  go_enter Tryd.func11, Tryd.ntmps11
  go_wp2_with (fail)
  refine C.out.mono ?_
  rintro e w3 ⟨rfl, k3⟩
  obtain ⟨u0, u1, u2⟩ := agg3' (k3.heap HB.out.1 (by simp))
  obtain ⟨v0, v1, v2⟩ := agg3' (k3.heap HB.out.2 (by simp))
  clear z0 z1 z2 y0 y1 y2 C
  go_wp2
  go_ret
  exact ⟨rfl, K2.out.trans k3⟩
end Go.Proofs.YtahoeodpjdbdkabDoor

namespace Go.Proofs.YtahoeodpjdbdkabDoor
open Go.RowKit

/-- May it be coded? -/
def MayC (W H D d : Int) (n : Nat) (f : Nat → Int) : Prop := szd W H = true ∧ (n : Int) = W * H ∧ (D = 10 ∨ D = 12) ∧ 0 ≤ d ∧ d ≤ 63 ∧ ∀ i, i < n → f i < 2 ^ D.toNat

theorem five_new (w : World) (a b c d e : Value) (t : Nat) : ∃ w1, w.alloc (.cells #[a, b, c, d, e] t (0, 0)) = w1 ∧ Kept [] w w1 ∧ w1.heap[w.heap.size]? = some (.cells #[a, b, c, d, e] t (0, 0)) :=
  ⟨_, rfl, alloc_kept _ _, heap_alloc_new _ _⟩
theorem five_cells {w : World} {Q t : Nat} {a b c d e : Value} (h : w.heap[Q]? = some (.cells #[a, b, c, d, e] t (0, 0))) : w.cell? ⟨Q, 0, none⟩ = some a ∧ w.cell? ⟨Q, 1, none⟩ = some b ∧ w.cell? ⟨Q, 2, none⟩ = some c ∧ w.cell? ⟨Q, 3, none⟩ = some d ∧ w.cell? ⟨Q, 4, none⟩ = some e := by
  refine ⟨?_, ?_, ?_, ?_, ?_⟩ <;> simp [World.cell?, h]

/-- Samples that came in: none, or some that are read. -/
def In16 (w : World) (ao : Option Addr) (n : Nat) (f : Nat → Int) : Prop := (n = 0 ∨ ∃ sb so, ao = some ⟨sb, so, none⟩ ∧ Smp w sb so n f) ∧ ∀ i, 0 ≤ f i ∧ f i ≤ 65535

def MayPost (W H D d : Int) (n : Nat) (f : Nat → Int) (w : World) (e : Ending) (w' : World) : Prop := ∃ b : Bool, e = .returned (.bool b) ∧ (b = true ↔ MayC W H D d n f) ∧ Kept [] w w'

set_option maxHeartbeats 4000000 in
set_option maxRecDepth 100000 in
theorem may_any (W H D d : Int) (ao : Option Addr) (n c : Nat) (f : Nat → Int) (w : World) (hs : In16 w ao n f) :
    Calls Tryd.prog 7 #[.agg #[.int .i64 W, .int .i64 H, .slice ao n c, .int .i64 D, .int .i64 d]] w fun e w' => MayPost W H D d n f w e w' := by
  obtain ⟨w1, hw1, k1, b1⟩ := five_new w (.int .i64 W) (.int .i64 H) (.slice ao n c) (.int .i64 D) (.int .i64 d) 26
  obtain ⟨Q, hQ⟩ : ∃ Q, w.heap.size = Q := ⟨_, rfl⟩
  rw [hQ] at b1
  obtain ⟨z0, z1, z2, z3, z4⟩ := five_cells b1
  have K1 := Hid.mk k1
  have C := Hid.mk (fun W' => sizedD_any W H W')
  by_cases hz : szd W H = true
  · rw [hz] at C
    have hb := szd_in hz
    have p1 : 0 ≤ W * H := Int.mul_nonneg (by omega) (by omega)
    obtain ⟨m, hm⟩ : ∃ m, W * H = m := ⟨_, rfl⟩
    have hx : wrap64 (W * H) = m := (w64_in (by omega) (by omega)).trans hm
    by_cases h2 : (n : Int) = m
    · have e2 : ((n : Int) != m) = false := by simp [h2]
      by_cases h3 : D = 10 ∨ D = 12
      · by_cases h4 : 0 ≤ d ∧ d ≤ 63
        · have HM : Hid (MayC W H D d n f ↔ ∀ i, i < n → f i < 2 ^ D.toNat) := Hid.mk ⟨fun h => h.2.2.2.2.2, fun h => ⟨hz, by rw [hm]; exact h2, h3, h4.1, h4.2, h⟩⟩
          have e4 : ¬ d < 0 := by omega
          have e5 : ¬ 63 < d := by omega
          obtain ⟨sb, so, rfl, hsm⟩ : ∃ sb so, ao = some ⟨sb, so, none⟩ ∧ Smp w sb so n f := by
            rcases hs.1 with h | h
            · have q1 : 1 * 1 ≤ W * H := Int.mul_le_mul (by omega) (by omega) (by omega) (by omega)
              omega
            · exact h
          have HS := Hid.mk hsm
          have HF := Hid.mk hs.2
          have HB1 := Hid.mk b1
          have hnn : n ≤ 4194304 := by omega
          clear hs hsm hm p1 hb hz h2 b1 k1 h4
          rcases h3 with rfl | rfl
          · rw [show (2 : Int) ^ Int.toNat 10 = 1024 from rfl] at HM
            go_enter Tryd.func7, Tryd.ntmps7
            go_wp2_with (go_at_call 14; refine (C.out _).mono ?_; rintro e w2 ⟨rfl, hw2⟩; obtain rfl := hw2.symm)
            go_loopw [4] (fun i wr => ∃ k : Nat, k ≤ n ∧ i = .int .i64 (k : Int) ∧ Hid (∀ j, j < k → f j < 1024) ∧ Kept [] w1 wr) (fun i _ => n - (intOf i).toNat)
            case atStart => exact ⟨0, by omega, rfl, Hid.mk (by omega), Kept.refl _ _⟩
            case round =>
              obtain ⟨k, hk, rfl, hall, hkw⟩ := hrel
              obtain ⟨y0, y1, y2, y3, y4⟩ := five_cells (hkw.heap HB1.out (by simp))
              have hsm := (HS.out.keep (K1.out.trans hkw) (by simp))
              have HK := Hid.mk hkw
              by_cases hlt : k < n
              · have a := hsm k hlt
                have fv := HF.out k
                obtain ⟨v, hv⟩ : ∃ v, f k = v := ⟨_, rfl⟩
                rw [hv] at a fv
                have HV := Hid.mk hv
                have wv : IntKind.i64.wrap v = v := wrap_i (by omega) (by omega)
                have ix : (k : Int) < n := by omega
                clear hkw hsm hv z0 z1 z2 z3 z4
                by_cases hc : 1024 ≤ v
                · go_wp2
                  go_quiet (fail)
                  go_wp2
                  go_ret
                  refine ⟨false, rfl, ⟨fun h => (nomatch h), fun h => ?_⟩, K1.out.trans (HK.out.drewN _)⟩
                  have := HM.out.1 h k hlt
                  rw [HV.out] at this
                  omega
                · go_wp2
                  go_quiet (fail)
                  go_wp2
                  go_roundw
                  case rel =>
                    refine ⟨k + 1, by omega, by go_num, Hid.mk (fun j hj => ?_), HK.out.drewN _⟩
                    by_cases e : j = k
                    · subst e; rw [HV.out]; omega
                    · exact hall.out j (by omega)
                  case measure => simp [intOf]; omega
              · obtain rfl : n = k := by omega
                have ix : ¬ (n : Int) < (n : Int) := by omega
                clear hkw hsm z0 z1 z2 z3 z4
                go_wp2
                go_ret
                exact ⟨true, rfl, ⟨fun _ => HM.out.2 hall.out, fun _ => rfl⟩, K1.out.trans HK.out⟩
          · rw [show (2 : Int) ^ Int.toNat 12 = 4096 from rfl] at HM
            go_enter Tryd.func7, Tryd.ntmps7
            go_wp2_with (go_at_call 14; refine (C.out _).mono ?_; rintro e w2 ⟨rfl, hw2⟩; obtain rfl := hw2.symm)
            go_loopw [4] (fun i wr => ∃ k : Nat, k ≤ n ∧ i = .int .i64 (k : Int) ∧ Hid (∀ j, j < k → f j < 4096) ∧ Kept [] w1 wr) (fun i _ => n - (intOf i).toNat)
            case atStart => exact ⟨0, by omega, rfl, Hid.mk (by omega), Kept.refl _ _⟩
            case round =>
              obtain ⟨k, hk, rfl, hall, hkw⟩ := hrel
              obtain ⟨y0, y1, y2, y3, y4⟩ := five_cells (hkw.heap HB1.out (by simp))
              have hsm := (HS.out.keep (K1.out.trans hkw) (by simp))
              have HK := Hid.mk hkw
              by_cases hlt : k < n
              · have a := hsm k hlt
                have fv := HF.out k
                obtain ⟨v, hv⟩ : ∃ v, f k = v := ⟨_, rfl⟩
                rw [hv] at a fv
                have HV := Hid.mk hv
                have wv : IntKind.i64.wrap v = v := wrap_i (by omega) (by omega)
                have ix : (k : Int) < n := by omega
                clear hkw hsm hv z0 z1 z2 z3 z4
                by_cases hc : 4096 ≤ v
                · go_wp2
                  go_quiet (fail)
                  go_wp2
                  go_ret
                  refine ⟨false, rfl, ⟨fun h => (nomatch h), fun h => ?_⟩, K1.out.trans (HK.out.drewN _)⟩
                  have := HM.out.1 h k hlt
                  rw [HV.out] at this
                  omega
                · go_wp2
                  go_quiet (fail)
                  go_wp2
                  go_roundw
                  case rel =>
                    refine ⟨k + 1, by omega, by go_num, Hid.mk (fun j hj => ?_), HK.out.drewN _⟩
                    by_cases e : j = k
                    · subst e; rw [HV.out]; omega
                    · exact hall.out j (by omega)
                  case measure => simp [intOf]; omega
              · obtain rfl : n = k := by omega
                have ix : ¬ (n : Int) < (n : Int) := by omega
                clear hkw hsm z0 z1 z2 z3 z4
                go_wp2
                go_ret
                exact ⟨true, rfl, ⟨fun _ => HM.out.2 hall.out, fun _ => rfl⟩, K1.out.trans HK.out⟩
        · have HN : Hid (¬ MayC W H D d n f) := Hid.mk (fun h => h4 ⟨h.2.2.2.1, h.2.2.2.2.1⟩)
          clear hs hm p1 hb hz b1 k1
          by_cases h5 : d < 0
          · rcases h3 with rfl | rfl
            all_goals
              go_enter Tryd.func7, Tryd.ntmps7
              go_wp2_with (go_at_call 14; refine (C.out _).mono ?_; rintro e w2 ⟨rfl, hw2⟩; obtain rfl := hw2.symm)
              go_ret
              exact ⟨false, rfl, ⟨fun h => (nomatch h), fun h => absurd h HN.out⟩, K1.out⟩
          · have h6 : 63 < d := by omega
            rcases h3 with rfl | rfl
            all_goals
              go_enter Tryd.func7, Tryd.ntmps7
              go_wp2_with (go_at_call 14; refine (C.out _).mono ?_; rintro e w2 ⟨rfl, hw2⟩; obtain rfl := hw2.symm)
              go_ret
              exact ⟨false, rfl, ⟨fun h => (nomatch h), fun h => absurd h HN.out⟩, K1.out⟩
      · have HN : Hid (¬ MayC W H D d n f) := Hid.mk (fun h => h3 h.2.2.1)
        have d1 : (D != 10) = true := by simp; omega
        have d2 : (D != 12) = true := by simp; omega
        clear hs hm p1 hb hz b1 k1 h3
        go_enter Tryd.func7, Tryd.ntmps7
        go_wp2_with (go_at_call 14; refine (C.out _).mono ?_; rintro e w2 ⟨rfl, hw2⟩; obtain rfl := hw2.symm)
        go_ret
        exact ⟨false, rfl, ⟨fun h => (nomatch h), fun h => absurd h HN.out⟩, K1.out⟩
    · have HN : Hid (¬ MayC W H D d n f) := Hid.mk (fun h => h2 (h.2.1.trans hm))
      have e2 : ((n : Int) != m) = true := by simp; exact h2
      clear hs hm p1 hb hz b1 k1 h2
      go_enter Tryd.func7, Tryd.ntmps7
      go_wp2_with (go_at_call 14; refine (C.out _).mono ?_; rintro e w2 ⟨rfl, hw2⟩; obtain rfl := hw2.symm)
      go_ret
      exact ⟨false, rfl, ⟨fun h => (nomatch h), fun h => absurd h HN.out⟩, K1.out⟩
  · have HN : Hid (¬ MayC W H D d n f) := Hid.mk (fun h => hz h.1)
    have hz : szd W H = false := by simpa using hz
    rw [hz] at C
    clear hs b1 k1 hz
    go_enter Tryd.func7, Tryd.ntmps7
    go_wp2_with (go_at_call 14; refine (C.out _).mono ?_; rintro e w2 ⟨rfl, hw2⟩; obtain rfl := hw2.symm)
    go_ret
    exact ⟨false, rfl, ⟨fun h => (nomatch h), fun h => absurd h HN.out⟩, K1.out⟩
end Go.Proofs.YtahoeodpjdbdkabDoor
