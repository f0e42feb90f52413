import Derived.Test.YthhcihcgefeblaaDoorOf
namespace Go.Proofs.YthhcihcgefeblaaDoor
open Go.RowKit

theorem Tryd.info3 : (Tryd.prog.info? 3).map (fun i => (i.zero, i.size, i.bytes)) = some (some (.int .i64 0), 1, 8) := by kernel_rfl

/-- No run has more than 22 stretches. -/
theorem cnt_22 (r n : Nat) (hn : n ≤ 4096) : cnt r n ≤ 22 := by
  rcases Nat.lt_or_ge 22 (cnt r n) with h | h
  · have h1 := S_mono r 23 (cnt r n) h
    have h2 := cnt_lo r n
    have h3 : S r 23 = S r 22 + 2 ^ J (ri r 22) := rfl
    have h4 := S_mono r 1 22 (by decide)
    have h5 := S_ge r 1
    have h6 : ri r 22 = 22 := by unfold ri; omega
    have h7 : 2 ^ J 22 = 4096 := by decide
    rw [h6, h7] at h3
    omega
  · exact h

theorem rw_35 (r n room : Nat) (hn : n ≤ 4096) : rw_ r n room ≤ 35 := by
  have h1 := cnt_22 r n hn
  have h2 := J_le (rm r n)
  unfold rw_
  split
  · omega
  · split <;> omega

/-- The rates, run by run. -/
def RR (n m : Nat → Nat) : Nat → Nat
  | 0 => 0
  | i + 1 => rr (RR n m i) (n i) (m i)
theorem RR_le (n m : Nat → Nat) (i : Nat) : RR n m i ≤ 22 := by
  cases i with
  | zero => simp [RR]
  | succ i => exact rr_le _ _ _

/-- A row of ints of one's own. -/
def rowR (v : Value) (n : Nat) (xs : List Value) : Rsc where
  P := fun w => w.ownsRow 0 3 1 v n xs
  F := v.ownBlock.toList
  lt := fun h hx => ownsRow_lt h (mem_own.1 hx)
  keep := fun h hk hF => hk.row h (fun g hg => hF g (mem_own.2 hg))

theorem own_F {w : World} {v v' : Value} (h : v'.ownBlock = v.ownBlock ∨ v'.ownBlock = some w.heap.size) : ∀ x ∈ v'.ownBlock.toList, x ∈ v.ownBlock.toList ∨ w.heap.size ≤ x := by
  intro x hx
  rw [mem_own] at hx ⊢
  rcases h with h | h
  · left; rw [← h]; exact hx
  · right; rw [h] at hx; simp at hx; omega

/-- Runs that came in. -/
def Rns (w : World) (b off len : Nat) (N R : Nat → Int) : Prop :=
  ∀ i, i < len → w.cell? ⟨b, off + i * 2, none⟩ = some (.int .i64 (N i)) ∧ w.cell? ⟨b, off + i * 2 + 1, none⟩ = some (.int .i64 (R i))

theorem Rns.at {w w' : World} {b off len : Nat} {N R : Nat → Int} (h : Rns w b off len N R) (hk : Kept [] w w') (i : Nat) (hi : i < len) :
    w'.cell? ⟨b, off + i * 2, none⟩ = some (.int .i64 (N i)) ∧ w'.cell? ⟨b, off + i * 2 + 1, none⟩ = some (.int .i64 (R i)) := by
  obtain ⟨h1, h2⟩ := h i hi
  have hb := hk.block b (World.block_lt_of_cell? w _ h1) (by simp)
  exact ⟨(World.cell?_of_block (a := ⟨b, off + i * 2, none⟩) hb).trans h1, (World.cell?_of_block (a := ⟨b, off + i * 2 + 1, none⟩) hb).trans h2⟩

/-- A run's samples and room, as numbers. -/
def sn (N R : Nat → Int) (i : Nat) : Nat := (nn (N i) (R i)).toNat
def sr (R : Nat → Int) (i : Nat) : Nat := (rmm (R i)).toNat
def rc (N R : Nat → Int) (i : Nat) : Nat := rw_ (RR (sn N R) (sr R) i) (sn N R i) (sr R i)
def rfm (N R : Nat → Int) (i : Nat) : Nat := rf (RR (sn N R) (sr R) i) (sn N R i) (sr R i)
def rts (N R : Nat → Int) (j : Nat) : List Value := (List.range j).map fun i => Value.int .i64 (RR (sn N R) (sr R) (i + 1) : Int)

theorem rts_succ (N R : Nat → Int) (j : Nat) : rts N R (j + 1) = rts N R j ++ [.int .i64 (RR (sn N R) (sr R) (j + 1) : Int)] := by simp [rts, List.range_succ]
theorem sn_le (N R : Nat → Int) (i : Nat) : sn N R i ≤ sr R i ∧ sr R i ≤ 4096 := by
  have := nn_hi (N i) (R i); have := rmm_hi (R i); have := nn_lo (N i) (R i)
  unfold sn sr; omega
theorem rc_le (N R : Nat → Int) (i : Nat) : rc N R i ≤ 35 := rw_35 _ _ _ (by have := sn_le N R i; omega)
theorem rfm_lt (N R : Nat → Int) (i : Nat) : rfm N R i < 2 ^ rc N R i := rf_lt _ _ _

theorem run_item (N R : Int) (n0 : -9223372036854775808 ≤ N ∧ N ≤ 9223372036854775807) (r0 : -9223372036854775808 ≤ R ∧ R ≤ 9223372036854775807) :
    ∃ n m : Int, (∀ w, Calls Tryd.prog 29 #[.agg #[.int .i64 N, .int .i64 R]] w fun e w' => e = .returned (.tuple #[.int .i64 n, .int .i64 m]) ∧ Kept [] w w') ∧ 1 ≤ m ∧ m ≤ 4096 ∧ 0 ≤ n ∧ n ≤ m ∧ n = nn N R ∧ m = rmm R :=
  ⟨nn N R, rmm R, fun w => run_of_any N R w n0.1 n0.2 r0.1 r0.2, rmm_lo R, rmm_hi R, nn_lo N R, nn_hi N R, rfl, rfl⟩

set_option maxHeartbeats 4000000 in
set_option maxRecDepth 1000000 in
theorem runs_any (ao : Option Addr) (len cap : Nat) (N R : Nat → Int) (w : World) (hlen : len * 16 ≤ 140737488351232) (hT : Tab w)
    (hN : 0 < len → ∃ b off, ao = some ⟨b, off, none⟩ ∧ Rns w b off len N R)
    (bN : ∀ i, i < len → -9223372036854775808 ≤ N i ∧ N i ≤ 9223372036854775807) (bR : ∀ i, i < len → -9223372036854775808 ≤ R i ∧ R i ≤ 9223372036854775807) :
    Calls Tryd.prog 7 #[.slice ao len cap] w fun e w' => e = .returned (.bool true) ∧ Kept [] w w' := by
  have HT := Hid.mk hT
  have HN := Hid.mk hN
  have HbN := Hid.mk bN
  have HbR := Hid.mk bR
  clear hT hN bN bR
  obtain ⟨i0, hi, hz0, hz1, hz2⟩ := info_parts Tryd.info3
  go_enter Tryd.func7, Tryd.ntmps7
  go_wp2_with (go_at_call 9; refine (awake_any _ HT.out).mono ?_; rintro e w1 ⟨rfl, hk1⟩; have HS := Hid.mk (SepL.start hk1); clear hk1)
  refine (sep_newWriter HS.out).mono ?_
  rintro e w2 ⟨B, rfl, hs2⟩
  have HS2 := Hid.mk hs2
  clear hs2 HS
  go_wp2_with fail
  refine (sep_newRuns HS2.out).mono ?_
  rintro e w3 ⟨X, rfl, hs3⟩
  have HS3 := Hid.mk hs3
  clear hs3 HS2
  go_wp2_with fail
  refine (sep_newRuns HS3.out).mono ?_
  rintro e w4 ⟨Y, rfl, hs4⟩
  have HS4 : Hid (SepL w w4 [wtr B (.slice none 0 0) 0 0, cdr X 0, cdr Y 0, rowR (.slice none 0 0) 0 []]) := hs4.push (r := rowR (.slice none 0 0) 0 []) (Kept.refl _ _) (World.ownsRow_nil _ 0 3 1) (by simp [rowR, Value.ownBlock])
  clear hs4 HS3
  go_wp2_with fail
  go_loopw [7, 8] (fun rv i wr => ∃ (j : Nat) (U : Value), j ≤ len ∧ i = .int .i64 j ∧ SepL w wr [wtr B U (AN (rfm N R) (rc N R) j) (AL (rc N R) j), cdr X (RR (sn N R) (sr R) j), cdr Y 0, rowR rv j (rts N R j)]) (fun _ i _ => len - (intOf i).toNat)
  case atStart => exact ⟨0, _, Nat.zero_le _, rfl, HS4.out⟩
  case round =>
    obtain ⟨j, U, hj, rfl, hs⟩ := hrel
    have hal := AL_le (rc N R) 35 j (fun i _ => rc_le N R i)
    have HS := Hid.mk hs
    clear hs HS4
    by_cases hlt : j < len
    · obtain ⟨b, off, rfl, hc⟩ := HN.out (by omega)
      obtain ⟨c1, c2⟩ := hc.at HS.out.old j hlt
      obtain ⟨n, m, hof, m0, m1, n0, n1, hn, hm⟩ := run_item (N j) (R j) (HbN.out j hlt) (HbR.out j hlt)
      have Hof := Hid.mk hof
      have Hn : Hid (n.toNat = sn N R j) := by rw [hn]; rfl
      have Hm : Hid (m.toNat = sr R j) := by rw [hm]; rfl
      obtain ⟨L, hL⟩ : ∃ L, L = AL (rc N R) j := ⟨_, rfl⟩
      obtain ⟨Q, hQ⟩ : ∃ Q, Q = AN (rfm N R) (rc N R) j := ⟨_, rfl⟩
      rw [← hL, ← hQ] at HS
      rw [← hL] at hal
      have HL := Hid.mk hL
      have HQ := Hid.mk hQ
      clear hof hn hm hc hL hQ
      go_wp2_with fail
      refine (Hof.out _).mono ?_
      rintro e w5 ⟨rfl, hk5⟩
      have HS5 := Hid.mk (HS.out.keep hk5)
      clear hk5 HS
      go_wp2_with fail
      refine (sep_rput HS5.out 0 1 (by simp) (by simp) n m rfl rfl HT.out m0 m1 n0 n1 (by omega)).mono ?_
      rintro e w6 ⟨rfl, U6, hs6⟩
      rw [Hn.out, Hm.out] at hs6
      have HS6 : Hid (SepL w w6 [wtr B U6 (Q * 2 ^ rc N R j + rfm N R j) (L + rc N R j), cdr X (RR (sn N R) (sr R) (j + 1)), cdr Y 0, rowR u7 j (rts N R j)]) := hs6
      clear hs6 HS5
      have hrow := HS6.out.P 3 (by simp)
      have hrow2 : w6.ownsRow 0 3 1 u7 j (rts N R j) := hrow
      have Hrow := Hid.mk hrow2
      clear hrow hrow2
      go_wp2_with (first
        | (go_at_call 31; refine (sep_rate HS6.out 1 (by simp) rfl).mono ?_; rintro e w7 ⟨rfl, rfl⟩)
        | (at_builtin; refine wpList_append_own_at _ rfl _ _ 66 rfl 0 3 i0 (.int .i64 0) 1 8 Tryd.underlying66 hi hz0 hz1 hz2 rfl (by decide) _ _ _ rfl (Hrow.out.alloc _) ⟨w7.heap.size, 0, none⟩ 1 1 [.int .i64 (RR (sn N R) (sr R) (j + 1) : Int)] rfl rfl ?c1 ?c2 ?c3 ?c4 ?c5 ?_))
      case c1 =>
        intro i u hu
        match i, hu with
        | 0, hu => simp at hu; subst hu; simp [Addr.add]
      case c2 => intro u hu; simp at hu; subst hu; rfl
      case c3 => unfold maxLen; omega
      case c4 => omega
      case c5 => omega
      intro v' w8 hown' hgrow _ hat
      have hs8 : SepL w w8 [wtr B U6 (Q * 2 ^ rc N R j + rfm N R j) (L + rc N R j), cdr X (RR (sn N R) (sr R) (j + 1)), cdr Y 0, rowR v' (j + 1) (rts N R (j + 1))] := by
        rw [rts_succ]
        have hk8 := Kept.of_grown hgrow
        refine (HS6.out.keep ((Kept.refl _ _).alloc _)).step (r := rowR v' (j + 1) _) 3 (by simp) hk8 (fun x hx => .inl hx) hown' (own_F (by simpa using hat))
      have HS8 := Hid.mk hs8
      clear hs8 hown' hgrow hat HS6 Hrow
      go_wp2
      go_roundw
      case rel =>
        refine ⟨j + 1, U6, by omega, by go_num, ?_⟩
        have h := HS8.out
        rw [HL.out, HQ.out] at h
        exact h
      case measure => simp [intOf]; omega
    · obtain rfl : j = len := by omega
      have hw : ∀ i, i < j → rfm N R i < 2 ^ rc N R i := fun i _ => rfm_lt N R i
      have Hnx := Hid.mk (fun i (hi : i < j) => next_back (rfm N R) (rc N R) j i hi hw)
      have Hrest := Hid.mk (next_rest _ _ (AN_lt (rfm N R) (rc N R) j hw))
      have Hmono := Hid.mk (fun i (hi : i ≤ j) => AL_mono (rc N R) i j hi)
      obtain ⟨T, hT⟩ : ∃ T, T = AL (rc N R) j := ⟨_, rfl⟩
      obtain ⟨Z, hZ⟩ : ∃ Z, Z = AN (rfm N R) (rc N R) j := ⟨_, rfl⟩
      rw [← hT, ← hZ] at HS
      rw [← hT] at hal
      rw [← hT, ← hZ] at Hnx Hrest
      rw [← hT] at Hmono
      have Hdef := Hid.mk hT
      have hrow := HS.out.P 3 (by simp)
      have hrow2 : wr.ownsRow 0 3 1 u7 j (rts N R j) := hrow
      obtain ⟨ra, rcap, rfl⟩ := row_form hrow2
      clear hw hT hZ hi hz0 hz1 hz2 i0 hrow hrow2
      go_wp2_with fail
      refine (sep_bytes HS.out 0 (by simp) rfl (by omega)).mono ?_
      rintro e w5 ⟨g5, rfl, hg5, hs5⟩
      have hrd := heap_reads hg5
      have hby : Byts (big ((T + 7) / 8) (Z * 2 ^ (8 * ((T + 7) / 8) - T))) := big_lt _ _
      have hbl := big_length ((T + 7) / 8) (Z * 2 ^ (8 * ((T + 7) / 8) - T))
      generalize big ((T + 7) / 8) (Z * 2 ^ (8 * ((T + 7) / 8) - T)) = Lb at hrd hby hbl Hnx Hrest
      obtain ⟨m, hm⟩ : ∃ m, m = (T + 7) / 8 := ⟨_, rfl⟩
      rw [← hm] at hbl Hrest
      have Hrd := Hid.mk hrd
      have Hbl := Hid.mk hbl
      have HS5 := Hid.mk hs5
      have hm1 : 8 * m ≤ T + 7 := by omega
      have hm2 : T ≤ 8 * m := by omega
      rw [← hm]
      clear hg5 hrd hbl hm hs5 HS
      go_wp2_with fail
      refine (sep_newReader HS5.out _ _ m Lb Hrd.out hby Hbl.out (by omega)).mono ?_
      rintro e w6 ⟨D, g, rfl, hs6⟩
      have HS6 : Hid (SepL w w6 [wtr B U Z T, cdr X (RR (sn N R) (sr R) j), cdr Y 0, rowR (.slice ra j rcap) j (rts N R j), rdr D g Lb 0]) := hs6
      clear hs6 HS5 Hrd
      go_wp2_with fail
      go_loopw [13] (fun i wx => ∃ q : Nat, q ≤ j ∧ i = .int .i64 q ∧ SepL w wx [wtr B U Z T, cdr X (RR (sn N R) (sr R) j), cdr Y (RR (sn N R) (sr R) q), rowR (.slice ra j rcap) j (rts N R j), rdr D g Lb (AL (rc N R) q)]) (fun i _ => j - (intOf i).toNat)
      case atStart => exact ⟨0, Nat.zero_le _, rfl, HS6.out⟩
      case round =>
        obtain ⟨q, hq, rfl, hsx⟩ := hrel
        have HSx := Hid.mk hsx
        clear hsx HS6
        by_cases hlt2 : q < j
        · obtain ⟨b, off, rfl, hc⟩ := HN.out (by omega)
          obtain ⟨c1, c2⟩ := hc.at HSx.out.old q hlt2
          obtain ⟨n, m, hof, m0, m1, n0, n1, hn, hm⟩ := run_item (N q) (R q) (HbN.out q hlt2) (HbR.out q hlt2)
          have Hof := Hid.mk hof
          have Hn : Hid (n.toNat = sn N R q) := by rw [hn]; rfl
          have Hm : Hid (m.toNat = sr R q) := by rw [hm]; rfl
          clear hof hn hm hc
          go_wp2_with fail
          refine (Hof.out _).mono ?_
          rintro e w7 ⟨rfl, hk7⟩
          have HS7 := Hid.mk (HSx.out.keep hk7)
          clear hk7 HSx
          go_wp2_with fail
          refine (sep_rget HS7.out 4 2 (by simp) (by simp) m rfl rfl HT.out m0 m1).mono ?_
          rintro e w8 ⟨Y8, E, t', r', rfl, hres, hs8⟩
          have hfit := Hmono.out (q + 1) hlt2
          simp only [AL] at hfit
          rw [Hm.out] at hres
          obtain ⟨rfl, rfl, rfl, rfl⟩ := runRes_form (n := sn N R q) hres (sn_le N R q).1 (by rw [Hbl.out]; exact Nat.le_trans hfit hm2) (Hnx.out q hlt2)
          have hvv : ((sn N R q : Nat) : Int) = n := by have := Hn.out; omega
          rw [hvv]
          have hs8' : SepL w w8 [wtr B U Z T, cdr X (RR (sn N R) (sr R) j), cdr Y (RR (sn N R) (sr R) (q + 1)), rowR (.slice ra j rcap) j (rts N R j), rdr D g Lb (AL (rc N R) (q + 1))] := hs8
          have hrow : w8.ownsRow 0 3 1 (.slice ra j rcap) j (rts N R j) := hs8'.P 3 (by simp)
          obtain ⟨ad, rfl, hcell⟩ := row_src hrow (by omega)
          have hcq := hcell q (.int .i64 (RR (sn N R) (sr R) (q + 1) : Int)) (by simp [rts, hlt2])
          have hrr := RR_le (sn N R) (sr R) (q + 1)
          have HS8 := Hid.mk hs8'
          clear hs8 hs8' hres HS7 hfit hrow hcell
          obtain ⟨rq, hrq⟩ : ∃ rq, rq = RR (sn N R) (sr R) (q + 1) := ⟨_, rfl⟩
          rw [← hrq] at hcq hrr HS8
          have Hrq := Hid.mk hrq
          clear hrq
          go_wp2_with fail
          go_cut [117] (fun s wc => s = .bool false ∧ ∃ x, wc = w8.drewN x)
          case first =>
            go_quiet ((go_at_call 31; refine Calls.quiet_of_same (sep_rate (HS8.out.drewN _) 2 (by simp) rfl)))
            go_wp2
            all_goals go_meet
            all_goals exact ⟨congrArg Value.bool (by rw [Bool.or_eq_false_iff]; exact ⟨decide_eq_false (by omega), decide_eq_false (by omega)⟩), _, rfl⟩
          case rest =>
            obtain ⟨rfl, x9, rfl⟩ := hcut
            go_wp2
            go_roundw
            case rel =>
              refine ⟨q + 1, by omega, by go_num, ?_⟩
              have h := HS8.out.drewN x9
              rw [Hrq.out] at h
              exact h
            case measure => simp [intOf]; omega
        · obtain rfl : q = j := by omega
          rw [← Hdef.out] at HSx
          go_wp2_with (go_at_call 26; refine (sep_rest HSx.out 4 (by simp) rfl (by rw [Hbl.out]; omega) (by rw [Hbl.out]; exact Hrest.out)).mono ?_; rintro e w8 ⟨rfl, hs8⟩)
          go_ret
          exact ⟨rfl, hs8.old⟩
end Go.Proofs.YthhcihcgefeblaaDoor
