import Derived.Test.YtjnmnkheichflabTh
namespace Go.Proofs.Ytjnmnkheichflab
open Go.RowKit

set_option maxHeartbeats 8000000 in
set_option maxRecDepth 1000000 in
theorem there_any (ao : Option Addr) (ca m : Nat) (raw : List Nat) (size at' : Int) (w : World) (hr : Reads w ao raw) (hb : Byts raw) (hm : raw.length = m) (hl : m ≤ 140737488351232) (hs : -9223372036854775808 ≤ size ∧ size ≤ 9223372036854775807) (ha : -9223372036854775808 ≤ at' ∧ at' ≤ 9223372036854775807) :
    Calls Try.prog 5 #[.slice ao m ca, .int .i64 size, .int .i64 at'] w fun e w' => e = .returned (.bool true) ∧ Kept [] w w' := by
  obtain ⟨i0, hi, hz0, hz1, hz2⟩ := info_parts Try.info5
  have p1 := pick_lo size 256 (by decide)
  have p2 := pick_hi size 256 (by decide)
  have q1 := pick_lo at' 300 (by decide)
  have q2 := pick_hi at' 300 (by decide)
  have C1 := Hid.mk (fun w => pick_any size 256 w hs.1 hs.2 (by decide))
  have C2 := Hid.mk (fun w => pick_any at' 300 w ha.1 ha.2 (by decide))
  obtain ⟨P, eP⟩ : ∃ P, P = pick size 256 := ⟨_, rfl⟩
  obtain ⟨Q, eQ⟩ : ∃ Q, Q = pick at' 300 := ⟨_, rfl⟩
  rw [← eP] at p1 p2 C1
  rw [← eQ] at q1 q2 C2
  clear eP eQ
  obtain ⟨n, hn⟩ : ∃ n : Nat, 1 + P = (n : Int) := ⟨(1 + P).toNat, by omega⟩
  obtain ⟨wd, hwd⟩ : ∃ wd : Nat, 1 + Q = (wd : Int) := ⟨(1 + Q).toNat, by omega⟩
  have n0 : 0 < n := by omega
  have n1 : n ≤ 256 := by omega
  have w1' : wd ≤ 300 := by omega
  have lA : Hid (Lo (sqf raw n)) := Hid.mk (sqf_lo hb n)
  have lX : Hid (Lo (wdf raw wd)) := Hid.mk (wdf_lo hb wd)
  have k0 := pick_lo at' (n : Int) (by omega)
  have k1 := pick_hi at' (n : Int) (by omega)
  have C3 := Hid.mk (fun w => pick_any at' (n : Int) w ha.1 ha.2 (by omega))
  obtain ⟨kk, ekk⟩ : ∃ kk : Nat, pick at' (n : Int) = (kk : Int) := ⟨(pick at' (n : Int)).toNat, by omega⟩
  rw [ekk] at k0 k1 C3
  clear ekk k0
  have Hr := Hid.mk hr
  have Hb := Hid.mk hb
  have Hm := Hid.mk hm
  clear hr hb hm hs
  go_enter Try.func5, Try.ntmps5
  go_wp2_with (first
    | (go_at_call 7; refine (alive_any _).mono ?_; rintro e w1 ⟨rfl, hq1⟩; have hk1 := Qt.kept hq1 []; clear hq1)
    | (go_at_call_of 18 size; refine (C1.out _).mono ?_; rintro e w' ⟨rfl, hw⟩; obtain rfl := hw.symm))
  refine (square_any ao ca m n raw w1 (Hr.out.keep hk1) Hb.out Hm.out (by omega) n1).mono ?_
  rintro e w2 ⟨V1, b1, rfl, hg1, hk2⟩
  obtain ⟨gm, cm, rfl, hm1, hm2⟩ := hg1.mt n0
  have HK2 := Hid.mk (hk1.trans hk2)
  have M := Hid.mk hm1
  have SM : Hid (w.heap.size ≤ gm) := Hid.mk (Nat.le_trans hk1.size hm2)
  have SB : Hid (∀ i, i < n → w.heap.size ≤ b1 i) := Hid.mk (fun i hi => Nat.le_trans hk1.size (hg1.lo i hi))
  clear hg1 hk2 hk1 hm1 hm2
  go_wp2_with (first
    | (go_at_call_of 18 at'; refine (C2.out _).mono ?_; rintro e w' ⟨rfl, hw⟩; obtain rfl := hw.symm))
  refine (wide_any ao ca m n wd raw w2 (Hr.out.keep HK2.out) Hb.out Hm.out (by omega) n1 w1').mono ?_
  rintro e w3 ⟨V2, b2, rfl, hg2, hk3⟩
  obtain ⟨gx, cx, rfl, hm1, hgx⟩ := hg2.mt n0
  have SX : Hid (gm < gx ∧ ∀ i, i < n → gm < b2 i) := Hid.mk ⟨Nat.lt_of_lt_of_le (M.out.glt n0) hgx, fun i hi => Nat.lt_of_lt_of_le (M.out.glt n0) (hg2.lo i hi)⟩
  have HK3 := Hid.mk (HK2.out.trans hk3)
  replace M := Hid.mk (M.out.keep0 hk3)
  have MX := Hid.mk hm1
  clear hg2 hk3 hm1 HK2 hgx
  go_wp2_with (fail)
  refine (times_k _ _ _ _ n n wd _ _ w3 M.out.reads MX.out.reads lA.out lX.out n1 n1 n0 (by omega)).mono ?_
  rintro e w4 ⟨gv, rfl, hv, hk4⟩
  have HK4 := Hid.mk (HK3.out.trans hk4)
  replace M := Hid.mk (M.out.keep0 hk4)
  replace MX := Hid.mk (MX.out.keep0 hk4)
  have HV := Hid.mk hv
  clear hv hk4 HK3
  have lV : Hid (Lo (tm (mf (sqf raw n) n n) (mf (wdf raw wd) n wd))) := Hid.mk (fun i j => tm_lt _ _ i j)
  obtain ⟨l, el⟩ : ∃ l, l = (kk + 1) % n := ⟨_, rfl⟩
  have hln : l < n := by rw [el]; exact Nat.mod_lt _ n0
  have hmod : ((kk : Int) + 1).tmod (n : Int) = (l : Int) := by
    rw [Int.tmod_eq_emod_of_nonneg (by omega), el]
    simp
  have hkn : kk < n := by omega
  clear el
  have fin : Hid (∀ w', Kept [] w w' → Mt w' gm n b1 n (sqf raw n) → Mt w' gx n b2 wd (wdf raw wd) → ∀ l, l < n → kk ≠ l → ∀ bo cap w2, w2 = w'.setCell ⟨gm, l, none⟩ (.slice bo n cap) → Reads w' bo (rg (sqf raw n kk) n) → (∀ g off, bo = some ⟨g, off, none⟩ → g ≠ gm) →
      Calls Try.prog 9 #[.slice (some ⟨gm, 0, none⟩) n cm, .slice (some ⟨gx, 0, none⟩) n cx] w2 fun e w' => e = .returned (.tuple #[.slice none 0 0, .int .i64 43]) ∧ Kept [] w2 w') := Hid.mk (by
    intro w' _ hM hX l hl hne bo cap w2 hw2 hrd hbo
    have hk : Kept [gm] w' w2 := by rw [hw2]; exact (Kept.refl [gm] w').setCell (p := ⟨gm, l, none⟩) (.inl (by simp)) _
    refine solve_none _ _ _ _ n wd (rowTo (sqf raw n) kk l) (wdf raw wd) w2 ?_ ?_ (rowTo_lo lA.out kk l) lX.out n1 n0 (by omega) (rowTo_none lA.out (by omega) hl hne)
    · refine .inr ⟨gm, 0, rfl, fun i hi => ?_⟩
      rw [mf_length] at hi
      rw [mf_getD _ _ _ _ hi, rg_length, Nat.zero_add]
      by_cases e : i = l
      · subst e
        refine ⟨bo, cap, ?_, ?_⟩
        · rw [hw2]; exact World.cell?_setCell_same _ _ _ (hM.out i hi)
        · rw [show rowTo (sqf raw n) kk i i = sqf raw n kk from if_pos rfl]
          exact hrd.stay hk (fun _ g off e hm => by simp at hm; exact hbo g off e hm)
      · refine ⟨some ⟨b1 i, 0, none⟩, n, ?_, ?_⟩
        · rw [hw2, World.cell?_setCell_other _ _ _ _ (fun h => e (congrArg Addr.off h).symm)]; exact hM.out i hi
        · rw [show rowTo (sqf raw n) kk l i = sqf raw n i from if_neg e]
          exact ((hM.row i hi).keep hk (by simpa using hM.ne i hi)).reads
    · exact (hX.keep hk (fun _ => by have := SX.out.1; simp; omega) (fun i hi => by have := SX.out.2 i hi; simp; omega)).reads)
  rcases hgt : gt n (fn (mf (sqf raw n) n n)) (fn (mf (tm (mf (sqf raw n) n n) (mf (wdf raw wd) n wd)) n wd)) n with _ | ⟨X, Y⟩
  · have S1 := Hid.mk (solve_none (some ⟨gm, 0, none⟩) (some ⟨gv, 0, none⟩) cm n n wd _ _ w4 M.out.reads HV.out lA.out lV.out n1 n0 (by omega) hgt)
    clear hgt
    go_wp2_with (fail)
    refine S1.out.mono ?_
    rintro e w5 ⟨rfl, hk5⟩
    have HK5 := Hid.mk (HK4.out.trans hk5)
    replace M := Hid.mk (M.out.keep0 hk5)
    replace MX := Hid.mk (MX.out.keep0 hk5)
    clear hk5 S1 HV HK4
    by_cases hlk : l = kk
    · subst hlk
      go_wp2_with (first
        | (go_at_call_of 18 at'; refine (C3.out _).mono ?_; rintro e w' ⟨rfl, hw⟩; obtain rfl := hw.symm))
      go_ret
      exact ⟨rfl, HK5.out⟩
    · have hlk2 : ((l : Int) == (kk : Int)) = false := by simp; omega
      have e1 := M.out.out kk hkn
      have e2 := M.out.out l hln
      have f2 := M.out.fz l hln
      have s1 : gm < w5.heap.size := M.out.glt n0
      have s2 : ¬ gm = w5.heap.size := by omega
      have s3 : ¬ w5.heap.size = gm := by omega
      have i1 : (kk : Int) < (n : Int) := by omega
      have i2 : (l : Int) < (n : Int) := by omega
      go_wp2_with (first | (go_at_call_of 18 at'; refine (C3.out _).mono ?_; rintro e w' ⟨rfl, hw⟩; obtain rfl := hw.symm) | (at_builtin; refine wpList_append_own_at _ rfl _ _ 31 rfl 0 5 i0 (.int .u8 0) 1 1 Try.underlying31 hi hz0 hz1 hz2 rfl (by decide) _ 0 [] rfl (World.ownsRow_made w5 #[] 0 (Nat.zero_le _) (Nat.zero_le _) (by rfl)) ⟨b1 kk, 0, none⟩ n n ((rg (sqf raw n kk) n).map byt) rfl ?c0 ?c1 ?c2 ?c3 ?c4 ?c5 ?_))
      case c0 => rw [List.length_map, rg_length]; omega
      case c1 =>
        intro j u hu
        have hj : j < n := by
          have := (List.getElem?_eq_some_iff.1 hu).1
          rw [List.length_map, rg_length] at this; exact this
        rw [List.getElem?_map, rg_at _ _ _ hj] at hu
        have hrow := (M.out.row kk hkn).keep ((Kept.refl [] w5).alloc (.cells #[] 5)) (by simp)
        have hadd : (⟨b1 kk, 0, none⟩ : Addr).add j = ⟨b1 kk, j, none⟩ := by unfold Addr.add; split <;> simp_all
        rw [hadd, hrow.at (by rw [rg_length]; exact hj), rg_getD _ _ _ hj]
        simpa [byt] using hu
      case c2 => exact bytes_one _
      case c3 => unfold maxLen; omega
      case c4 => omega
      case c5 => exact Nat.zero_le _
      intro V6 w6 ho6 hg6 _ hob
      have hk6 : Kept [] w5 w6 := ((Kept.refl [] w5).alloc _).step (Kept.of_grown hg6) (fun x hx => by simp [Value.ownBlock] at hx; subst hx; exact .inr (Nat.le_refl _))
      obtain ⟨g, cap, hV⟩ : ∃ g cap, V6 = .slice (some ⟨g, 0, none⟩) n cap := by
        rcases ho6.2 with ⟨_, h0⟩ | ⟨g, cap, cur, h, _⟩
        · omega
        · exact ⟨g, cap, h⟩
      subst hV
      have hgne : g ≠ gm := by
        have hs : w5.heap.size ≤ g := by
          rcases hob with h | h
          · simp [Value.ownBlock] at h; omega
          · simp [Value.ownBlock] at h; omega
        omega
      have hrd : Reads w6 (some ⟨g, 0, none⟩) (rg (sqf raw n kk) n) := reads_row ho6
      have S2 := Hid.mk (fin.out w6 (HK5.out.trans hk6) (M.out.keep0 hk6) (MX.out.keep0 hk6) l hln (fun e => hlk e.symm) (some ⟨g, 0, none⟩) cap _ rfl hrd (fun g2 off e => by cases e; exact hgne))
      have HK6 := Hid.mk ((HK5.out.trans hk6).setCell (p := ⟨gm, l, none⟩) (.inr SM.out) (.slice (some ⟨g, 0, none⟩) n cap))
      have e3 := (M.out.keep0 hk6).out l hln
      have f3 := (M.out.keep0 hk6).fz l hln
      clear ho6 hg6 hk6 hob hrd hgne M MX HK5 e1 e2 f2 s1 s2 s3 fin
      go_wp2_with (fail)
      refine S2.out.mono ?_
      rintro e w7 ⟨rfl, hk7⟩
      have HK7 := Hid.mk (HK6.out.trans hk7)
      clear hk7 S2 HK6
      go_wp2
      go_ret
      exact ⟨rfl, HK7.out⟩
  · have hy := there_one lA.out lX.out hgt
    have S1 := Hid.mk (solve_some (some ⟨gm, 0, none⟩) (some ⟨gv, 0, none⟩) cm n n wd _ _ X Y w4 M.out.reads HV.out lA.out lV.out n1 n0 (by omega) hgt)
    rw [hy] at S1
    obtain ⟨Y2, hgt2⟩ := gt_any (fn (mf (wdf raw wd) n wd)) n hgt
    have hb2 := there_back lA.out lX.out hgt2
    have lY : Hid (Lo Y2) := Hid.mk (gt_lo2 lA.out lX.out hgt2)
    have HG2 := Hid.mk hgt2
    have HB2 := Hid.mk hb2
    clear hgt hgt2 hb2 hy
    go_wp2_with (fail)
    refine S1.out.mono ?_
    rintro e wa ⟨gy, rfl, hya, hka⟩
    have HKa := Hid.mk (HK4.out.trans hka)
    replace M := Hid.mk (M.out.keep0 hka)
    replace MX := Hid.mk (MX.out.keep0 hka)
    have HY := Hid.mk hya
    clear hka hya S1 HV HK4
    go_wp2_with (fail)
    refine (same_any _ _ _ _ n _ wa HY.out MX.out.reads (mf_length _ _ _) (by omega)).mono ?_
    rintro e wb ⟨rfl, hqb⟩
    have hkb := Qt.kept hqb []
    have HKb := Hid.mk (HKa.out.trans hkb)
    replace M := Hid.mk (M.out.keep0 hkb)
    replace MX := Hid.mk (MX.out.keep0 hkb)
    clear hkb hqb HKa HY
    go_wp2_with (fail)
    refine (solve_some _ _ _ _ n wd _ _ X Y2 wb M.out.reads MX.out.reads lA.out lX.out n1 n0 (by omega) HG2.out).mono ?_
    rintro e wc ⟨gz, rfl, hzc, hkc⟩
    have HKc := Hid.mk (HKb.out.trans hkc)
    replace M := Hid.mk (M.out.keep0 hkc)
    replace MX := Hid.mk (MX.out.keep0 hkc)
    have HZ := Hid.mk hzc
    clear hkc hzc HKb
    go_wp2_with (fail)
    refine (times_k _ _ _ _ n n wd _ _ wc M.out.reads HZ.out lA.out lY.out n1 n1 n0 (by omega)).mono ?_
    rw [HB2.out]
    rintro e wd' ⟨gu, rfl, hud, hkd⟩
    have HKd := Hid.mk (HKc.out.trans hkd)
    replace M := Hid.mk (M.out.keep0 hkd)
    replace MX := Hid.mk (MX.out.keep0 hkd)
    have HU := Hid.mk hud
    clear hkd hud HKc HZ
    go_wp2_with (fail)
    refine (same_any _ _ _ _ n _ wd' HU.out MX.out.reads (mf_length _ _ _) (by omega)).mono ?_
    rintro e w5 ⟨rfl, hqe⟩
    have hke := Qt.kept hqe []
    have HK5 := Hid.mk (HKd.out.trans hke)
    replace M := Hid.mk (M.out.keep0 hke)
    replace MX := Hid.mk (MX.out.keep0 hke)
    clear hke hqe HKd HU
    by_cases hlk : l = kk
    · subst hlk
      go_wp2_with (first
        | (go_at_call_of 18 at'; refine (C3.out _).mono ?_; rintro e w' ⟨rfl, hw⟩; obtain rfl := hw.symm))
      go_ret
      exact ⟨rfl, HK5.out⟩
    · have hlk2 : ((l : Int) == (kk : Int)) = false := by simp; omega
      have e1 := M.out.out kk hkn
      have e2 := M.out.out l hln
      have f2 := M.out.fz l hln
      have s1 : gm < w5.heap.size := M.out.glt n0
      have s2 : ¬ gm = w5.heap.size := by omega
      have s3 : ¬ w5.heap.size = gm := by omega
      have i1 : (kk : Int) < (n : Int) := by omega
      have i2 : (l : Int) < (n : Int) := by omega
      go_wp2_with (first | (go_at_call_of 18 at'; refine (C3.out _).mono ?_; rintro e w' ⟨rfl, hw⟩; obtain rfl := hw.symm) | (at_builtin; refine wpList_append_own_at _ rfl _ _ 31 rfl 0 5 i0 (.int .u8 0) 1 1 Try.underlying31 hi hz0 hz1 hz2 rfl (by decide) _ 0 [] rfl (World.ownsRow_made w5 #[] 0 (Nat.zero_le _) (Nat.zero_le _) (by rfl)) ⟨b1 kk, 0, none⟩ n n ((rg (sqf raw n kk) n).map byt) rfl ?c0 ?c1 ?c2 ?c3 ?c4 ?c5 ?_))
      case c0 => rw [List.length_map, rg_length]; omega
      case c1 =>
        intro j u hu
        have hj : j < n := by
          have := (List.getElem?_eq_some_iff.1 hu).1
          rw [List.length_map, rg_length] at this; exact this
        rw [List.getElem?_map, rg_at _ _ _ hj] at hu
        have hrow := (M.out.row kk hkn).keep ((Kept.refl [] w5).alloc (.cells #[] 5)) (by simp)
        have hadd : (⟨b1 kk, 0, none⟩ : Addr).add j = ⟨b1 kk, j, none⟩ := by unfold Addr.add; split <;> simp_all
        rw [hadd, hrow.at (by rw [rg_length]; exact hj), rg_getD _ _ _ hj]
        simpa [byt] using hu
      case c2 => exact bytes_one _
      case c3 => unfold maxLen; omega
      case c4 => omega
      case c5 => exact Nat.zero_le _
      intro V6 w6 ho6 hg6 _ hob
      have hk6 : Kept [] w5 w6 := ((Kept.refl [] w5).alloc _).step (Kept.of_grown hg6) (fun x hx => by simp [Value.ownBlock] at hx; subst hx; exact .inr (Nat.le_refl _))
      obtain ⟨g, cap, hV⟩ : ∃ g cap, V6 = .slice (some ⟨g, 0, none⟩) n cap := by
        rcases ho6.2 with ⟨_, h0⟩ | ⟨g, cap, cur, h, _⟩
        · omega
        · exact ⟨g, cap, h⟩
      subst hV
      have hgne : g ≠ gm := by
        have hs : w5.heap.size ≤ g := by
          rcases hob with h | h
          · simp [Value.ownBlock] at h; omega
          · simp [Value.ownBlock] at h; omega
        omega
      have hrd : Reads w6 (some ⟨g, 0, none⟩) (rg (sqf raw n kk) n) := reads_row ho6
      have S2 := Hid.mk (fin.out w6 (HK5.out.trans hk6) (M.out.keep0 hk6) (MX.out.keep0 hk6) l hln (fun e => hlk e.symm) (some ⟨g, 0, none⟩) cap _ rfl hrd (fun g2 off e => by cases e; exact hgne))
      have HK6 := Hid.mk ((HK5.out.trans hk6).setCell (p := ⟨gm, l, none⟩) (.inr SM.out) (.slice (some ⟨g, 0, none⟩) n cap))
      have e3 := (M.out.keep0 hk6).out l hln
      have f3 := (M.out.keep0 hk6).fz l hln
      clear ho6 hg6 hk6 hob hrd hgne M MX HK5 e1 e2 f2 s1 s2 s3 fin
      go_wp2_with (fail)
      refine S2.out.mono ?_
      rintro e w7 ⟨rfl, hk7⟩
      have HK7 := Hid.mk (HK6.out.trans hk7)
      clear hk7 S2 HK6
      go_wp2
      go_ret
      exact ⟨rfl, HK7.out⟩
end Go.Proofs.Ytjnmnkheichflab
