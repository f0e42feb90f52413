import Derived.Test.YthhcihcgefeblaaDoorOf
namespace Go.Proofs.YthhcihcgefeblaaDoor
open Go.RowKit

/-- How many bits a raw number's form has, and the form. -/
def cw (V K W : Int) : Nat := gw (vv V W).toNat (kk K).toNat (wd W).toNat
def cf (V K W : Int) : Nat := gf (vv V W).toNat (kk K).toNat

theorem cf_lt (V K W : Int) : cf V K W < 2 ^ cw V K W := gf_lt _ _ _ (vv_hi V W)
theorem cw_le (V K W : Int) : 1 ≤ cw V K W ∧ cw V K W ≤ 40 := gw_le _ _ _ (by have := kk_hi K; omega) (by have := wd_hi W; omega)

theorem num_item (V K W : Int) (v0 : -9223372036854775808 ≤ V) (v1 : V ≤ 9223372036854775807) (k0 : -9223372036854775808 ≤ K) (k1 : K ≤ 9223372036854775807) (w0 : -9223372036854775808 ≤ W) (w1 : W ≤ 9223372036854775807) :
    ∃ v k d c : Int, (∀ w, Calls Tryd.prog 19 #[.agg #[.int .i64 V, .int .i64 K, .int .i64 W]] w fun e w' => e = .returned (.tuple #[.int .i64 v, .int .i64 k, .int .i64 d]) ∧ Kept [] w w') ∧
      0 ≤ k ∧ k ≤ 15 ∧ 1 ≤ d ∧ d ≤ 16 ∧ 0 ≤ v ∧ v.toNat < 2 ^ d.toNat ∧ 1 ≤ c ∧ c ≤ 40 ∧ c = (cw V K W : Int) ∧ gw v.toNat k.toNat d.toNat = cw V K W ∧ gf v.toNat k.toNat = cf V K W := by
  have h := cw_le V K W
  exact ⟨vv V W, kk K, wd W, (cw V K W : Int), fun w => of_any V K W w v0 v1 k0 k1 w0 w1, kk_lo K, kk_hi K, wd_lo W, wd_hi W, vv_lo V W, vv_hi V W, by omega, by omega, rfl, rfl, rfl⟩

/-- Numbers that came in. -/
def Nums (w : World) (b off len : Nat) (V K W : Nat → Int) : Prop :=
  ∀ i, i < len → w.cell? ⟨b, off + i * 3, none⟩ = some (.int .i64 (V i)) ∧ w.cell? ⟨b, off + i * 3 + 1, none⟩ = some (.int .i64 (K i)) ∧ w.cell? ⟨b, off + i * 3 + 2, none⟩ = some (.int .i64 (W i))

theorem Nums.at {w w' : World} {b off len : Nat} {V K W : Nat → Int} (h : Nums w b off len V K W) (hk : Kept [] w w') (i : Nat) (hi : i < len) :
    w'.cell? ⟨b, off + i * 3, none⟩ = some (.int .i64 (V i)) ∧ w'.cell? ⟨b, off + i * 3 + 1, none⟩ = some (.int .i64 (K i)) ∧ w'.cell? ⟨b, off + i * 3 + 2, none⟩ = some (.int .i64 (W i)) := by
  obtain ⟨h1, h2, h3⟩ := h i hi
  have hb := hk.block b (World.block_lt_of_cell? w _ h1) (by simp)
  exact ⟨(World.cell?_of_block (a := ⟨b, off + i * 3, none⟩) hb).trans h1, (World.cell?_of_block (a := ⟨b, off + i * 3 + 1, none⟩) hb).trans h2, (World.cell?_of_block (a := ⟨b, off + i * 3 + 2, none⟩) hb).trans h3⟩

set_option maxHeartbeats 4000000 in
set_option maxRecDepth 1000000 in
theorem back_any (ao : Option Addr) (len cap : Nat) (V K W : Nat → Int) (w : World) (hlen : len * 24 ≤ 140737488351232) (hT : Tab w)
    (hN : 0 < len → ∃ b off, ao = some ⟨b, off, none⟩ ∧ Nums w b off len V K W)
    (bV : ∀ i, i < len → -9223372036854775808 ≤ V i ∧ V i ≤ 9223372036854775807) (bK : ∀ i, i < len → -9223372036854775808 ≤ K i ∧ K i ≤ 9223372036854775807) (bW : ∀ i, i < len → -9223372036854775808 ≤ W i ∧ W i ≤ 9223372036854775807) :
    Calls Tryd.prog 5 #[.slice ao len cap] w fun e w' => e = .returned (.bool true) ∧ Kept [] w w' := by
  have HT := Hid.mk hT
  have HN := Hid.mk hN
  have HbV := Hid.mk bV
  have HbK := Hid.mk bK
  have HbW := Hid.mk bW
  clear hT hN bV bK bW
  go_enter Tryd.func5, Tryd.ntmps5
  go_wp2_with (go_at_call 9; refine (awake_any _ HT.out).mono ?_; rintro e w1 ⟨rfl, hk1⟩; have HS := Hid.mk (SepL.start hk1); clear hk1)
  refine (sep_newWriter HS.out).mono ?_
  rintro e w2 ⟨B, rfl, hs2⟩
  have HS2 : Hid (SepL w w2 [wtr B (.slice none 0 0) 0 0]) := hs2
  clear hs2 HS
  go_wp2_with fail
  go_loopw [5, 6] (fun s i wr => ∃ (j : Nat) (U : Value), j ≤ len ∧ i = .int .i64 j ∧ s = .int .i64 (AL (fun i => cw (V i) (K i) (W i)) j : Int) ∧ SepL w wr [wtr B U (AN (fun i => cf (V i) (K i) (W i)) (fun i => cw (V i) (K i) (W i)) j) (AL (fun i => cw (V i) (K i) (W i)) j)]) (fun _ i _ => len - (intOf i).toNat)
  case atStart => exact ⟨0, _, Nat.zero_le _, rfl, rfl, HS2.out⟩
  case round =>
    obtain ⟨j, U, hj, rfl, rfl, hs⟩ := hrel
    have hal := AL_le (fun i => cw (V i) (K i) (W i)) 40 j (fun i _ => (cw_le _ _ _).2)
    have HS := Hid.mk hs
    clear hs HS2
    by_cases hlt : j < len
    · obtain ⟨b, off, rfl, hc⟩ := HN.out (by omega)
      obtain ⟨c1, c2, c3⟩ := hc.at HS.out.old j hlt
      obtain ⟨v, k, d, c, hof, k0, k1, d0, d1, v0, hv, hc1, hc2, hcw, hgw, hgf⟩ := num_item (V j) (K j) (W j) (HbV.out j hlt).1 (HbV.out j hlt).2 (HbK.out j hlt).1 (HbK.out j hlt).2 (HbW.out j hlt).1 (HbW.out j hlt).2
      have Hof := Hid.mk hof
      have Hcost := Hid.mk (fun w => cost_any v k d c w k0 k1 d0 d1 v0 hv (by rw [hcw, hgw]))
      have Hv := Hid.mk hv
      have Hcw := Hid.mk hcw
      have Hgw := Hid.mk hgw
      have Hgf := Hid.mk hgf
      obtain ⟨m, hm⟩ : ∃ m, m = AL (fun i => cw (V i) (K i) (W i)) j := ⟨_, rfl⟩
      obtain ⟨N, hN⟩ : ∃ N, N = AN (fun i => cf (V i) (K i) (W i)) (fun i => cw (V i) (K i) (W i)) j := ⟨_, rfl⟩
      rw [← hm, ← hN] at HS
      rw [← hm] at hal
      have Hm := Hid.mk hm
      have HNN := Hid.mk hN
      rw [← hm]
      clear hof hv hcw hgw hgf hc hm hN
      go_wp2_with fail
      refine (Hof.out _).mono ?_
      rintro e w3 ⟨rfl, hk3⟩
      have HS3 := Hid.mk (HS.out.keep hk3)
      clear hk3 HS
      go_wp2_with (go_at_call 20; refine (Hcost.out _).mono ?_; rintro e w4 ⟨rfl, rfl⟩)
      refine (sep_gput HS3.out 0 (by simp) v k d rfl k0 k1 d0 d1 v0 Hv.out (by omega)).mono ?_
      rintro e w5 ⟨rfl, U5, hs5⟩
      rw [Hgw.out, Hgf.out] at hs5
      have HS5 : Hid (SepL w w5 [wtr B U5 (N * 2 ^ cw (V j) (K j) (W j) + cf (V j) (K j) (W j)) (m + cw (V j) (K j) (W j))]) := hs5
      clear hs5 HS3
      have Hlen : Hid (((m + cw (V j) (K j) (W j) : Nat) : Int) = (m : Int) + c) := by have := Hcw.out; rw [Hid, this]; omega
      have hc40 : m + cw (V j) (K j) (W j) ≤ 40 * j + 40 := by have := Hcw.out; omega
      go_wp2_with (go_at_call 22; refine (sep_len HS5.out 0 (by simp) rfl (by omega)).mono ?_; rw [Hlen.out]; rintro e w6 ⟨rfl, hs6⟩; have HS6 := Hid.mk hs6; clear hs6)
      go_roundw
      case rel =>
        refine ⟨j + 1, U5, by omega, by go_num, ?_, ?_⟩
        · have e1 := Hcw.out
          have e2 := Hm.out
          simp only [AL]
          congr 1
          rw [← e2, e1]
          omega
        · have h := HS6.out
          rw [Hm.out, HNN.out] at h
          exact h
      case measure => simp [intOf]; omega
    · obtain rfl : j = len := by omega
      have hw : ∀ i, i < j → cf (V i) (K i) (W i) < 2 ^ cw (V i) (K i) (W i) := fun i _ => cf_lt _ _ _
      have Hnx := Hid.mk (fun i (hi : i < j) => next_back (fun i => cf (V i) (K i) (W i)) (fun i => cw (V i) (K i) (W i)) j i hi hw)
      have Hrest := Hid.mk (next_rest _ _ (AN_lt (fun i => cf (V i) (K i) (W i)) (fun i => cw (V i) (K i) (W i)) j hw))
      have Hmono := Hid.mk (fun i (hi : i ≤ j) => AL_mono (fun i => cw (V i) (K i) (W i)) i j hi)
      obtain ⟨T, hT⟩ : ∃ T, T = AL (fun i => cw (V i) (K i) (W i)) j := ⟨_, rfl⟩
      obtain ⟨Z, hZ⟩ : ∃ Z, Z = AN (fun i => cf (V i) (K i) (W i)) (fun i => cw (V i) (K i) (W i)) j := ⟨_, rfl⟩
      rw [← hT, ← hZ] at HS
      rw [← hT] at hal
      rw [← hT, ← hZ] at Hnx Hrest
      rw [← hT] at Hmono
      rw [← hT]
      have Hdef := Hid.mk hT
      clear hw hT hZ
      go_wp2_with fail
      refine (sep_bytes HS.out 0 (by simp) rfl (by omega)).mono ?_
      rintro e w5 ⟨g5, rfl, hg5, hs5⟩
      have hrd := heap_reads hg5
      have hby : Byts (big ((T + 7) / 8) (Z * 2 ^ (8 * ((T + 7) / 8) - T))) := big_lt _ _
      have hbl := big_length ((T + 7) / 8) (Z * 2 ^ (8 * ((T + 7) / 8) - T))
      generalize big ((T + 7) / 8) (Z * 2 ^ (8 * ((T + 7) / 8) - T)) = Lb at hrd hby hbl Hnx Hrest
      obtain ⟨m, hm⟩ : ∃ m, m = (T + 7) / 8 := ⟨_, rfl⟩
      rw [← hm] at hbl Hrest
      have Hrd := Hid.mk hrd
      have Hbl := Hid.mk hbl
      have HS5 := Hid.mk hs5
      have hm1 : 8 * m ≤ T + 7 := by omega
      have hm2 : T ≤ 8 * m := by omega
      rw [← hm]
      clear hg5 hrd hbl hm hs5 HS
      go_wp2_with fail
      refine (sep_newReader HS5.out _ _ m Lb Hrd.out hby Hbl.out (by omega)).mono ?_
      rintro e w6 ⟨R, g, rfl, hs6⟩
      have HS6 : Hid (SepL w w6 [wtr B U Z T, rdr R g Lb 0]) := hs6
      clear hs6 HS5 Hrd
      go_wp2_with fail
      go_loopw [14] (fun i wx => ∃ q : Nat, q ≤ j ∧ i = .int .i64 q ∧ SepL w wx [wtr B U Z T, rdr R g Lb (AL (fun i => cw (V i) (K i) (W i)) q)]) (fun i _ => j - (intOf i).toNat)
      case atStart => exact ⟨0, Nat.zero_le _, rfl, HS6.out⟩
      case round =>
        obtain ⟨q, hq, rfl, hsx⟩ := hrel
        have HSx := Hid.mk hsx
        clear hsx HS6
        by_cases hlt2 : q < j
        · obtain ⟨b, off, rfl, hc⟩ := HN.out (by omega)
          obtain ⟨c1, c2, c3⟩ := hc.at HSx.out.old q hlt2
          obtain ⟨v, k, d, c, hof, k0, k1, d0, d1, v0, hv, hc1, hc2, hcw, hgw, hgf⟩ := num_item (V q) (K q) (W q) (HbV.out q hlt2).1 (HbV.out q hlt2).2 (HbK.out q hlt2).1 (HbK.out q hlt2).2 (HbW.out q hlt2).1 (HbW.out q hlt2).2
          have Hof := Hid.mk hof
          have Hv := Hid.mk hv
          have Hgw := Hid.mk hgw
          have Hgf := Hid.mk hgf
          clear hof hv hcw hgw hgf hc hc1 hc2
          go_wp2_with fail
          refine (Hof.out _).mono ?_
          rintro e w7 ⟨rfl, hk7⟩
          have HS7 := Hid.mk (HSx.out.keep hk7)
          clear hk7 HSx
          go_wp2_with fail
          refine (sep_gget HS7.out 1 (by simp) k d rfl k0 k1 d0 d1).mono ?_
          rintro e w8 ⟨Y, E, t', rfl, hres, hs8⟩
          have hfit := Hmono.out (q + 1) hlt2
          simp only [AL] at hfit
          obtain ⟨rfl, rfl, rfl⟩ := numRes_form (v := v.toNat) hres Hv.out (by rw [Hgw.out, Hbl.out]; omega) (by rw [Hgw.out, Hgf.out]; exact Hnx.out q hlt2)
          rw [Hgw.out] at hs8
          have hvv : ((v.toNat : Nat) : Int) = v := by omega
          rw [hvv]
          have HS8 : Hid (SepL w w8 [wtr B U Z T, rdr R g Lb (AL (fun i => cw (V i) (K i) (W i)) (q + 1))]) := hs8
          clear hs8 hres HS7 hfit
          go_wp2_with fail
          go_roundw
          case rel => exact ⟨q + 1, by omega, by go_num, HS8.out⟩
          case measure => simp [intOf]; omega
        · obtain rfl : q = j := by omega
          rw [← Hdef.out] at HSx
          go_wp2_with (go_at_call 26; refine (sep_rest HSx.out 1 (by simp) rfl (by rw [Hbl.out]; omega) (by rw [Hbl.out]; exact Hrest.out)).mono ?_; rintro e w8 ⟨rfl, hs8⟩)
          go_ret
          exact ⟨rfl, hs8.old⟩
end Go.Proofs.YthhcihcgefeblaaDoor
