import Derived.Test.YthhcihcgefeblabDoorTk
import Derived.Laws.IdiomStrings
namespace Go.Proofs.YthhcihcgefeblabDoor
open Go.RowKit

/-- Numbers that came in. -/
def Nums (w : World) (b off len : Nat) (V K W : Nat → Int) : Prop :=
  ∀ i, i < len → w.cell? ⟨b, off + i * 3, none⟩ = some (.int .i64 (V i)) ∧ w.cell? ⟨b, off + i * 3 + 1, none⟩ = some (.int .i64 (K i)) ∧ w.cell? ⟨b, off + i * 3 + 2, none⟩ = some (.int .i64 (W i))

theorem Nums.at {w w' : World} {b off len : Nat} {V K W : Nat → Int} (h : Nums w b off len V K W) (hk : Kept [] w w') (i : Nat) (hi : i < len) :
    w'.cell? ⟨b, off + i * 3, none⟩ = some (.int .i64 (V i)) ∧ w'.cell? ⟨b, off + i * 3 + 1, none⟩ = some (.int .i64 (K i)) ∧ w'.cell? ⟨b, off + i * 3 + 2, none⟩ = some (.int .i64 (W i)) := by
  obtain ⟨h1, h2, h3⟩ := h i hi
  have hb := hk.block b (World.block_lt_of_cell? w _ h1) (by simp)
  exact ⟨(World.cell?_of_block (a := ⟨b, off + i * 3, none⟩) hb).trans h1, (World.cell?_of_block (a := ⟨b, off + i * 3 + 1, none⟩) hb).trans h2, (World.cell?_of_block (a := ⟨b, off + i * 3 + 2, none⟩) hb).trans h3⟩

/-- The bytes of a text. -/
def tby (T : ByteArray) : List Nat := T.data.toList.map UInt8.toNat

theorem tby_length (T : ByteArray) : (tby T).length = T.size := by unfold tby; rw [List.length_map, Array.length_toList]; rfl
theorem tby_byts (T : ByteArray) : Byts (tby T) := by
  intro b hb
  simp only [tby, List.mem_map] at hb
  obtain ⟨x, _, rfl⟩ := hb
  have := x.toNat_lt
  omega

/-- '[]byte' of a text: new memory that has its bytes. -/
theorem bytes_run (w : World) (T : ByteArray) : ∃ g cap w', Sem.run Tryd.prog (convert 9 26 (.string T)) w = .ok (.slice (some ⟨g, 0, none⟩) T.size cap) w' ∧ Reads w' (some ⟨g, 0, none⟩) (tby T) ∧ Kept [] w w' := by
  refine ⟨_, _, _, run_bytes_of_string w 9 26 5 T Tryd.underlying9 Tryd.underlying26 Tryd.underlying5, .inr ⟨_, 0, rfl, fun i hi => ?_⟩, (((Kept.refl _ _).drew).alloc _)⟩
  rw [tby_length] at hi
  have hi2 : i < T.data.size := hi
  have hh := heap_alloc_new w.drew (.cells (bytesRow T (grownCap w T.size 0 5)) 5 ((bytesRow T (grownCap w T.size 0 5)).size, (bytesRow T (grownCap w T.size 0 5)).size + 1))
  have hc : (bytesRow T (grownCap w T.size 0 5))[i]? = some (byt ((tby T).getD i 0)) := by
    unfold bytesRow
    rw [Array.getElem?_append_left (by simpa using hi2)]
    simp [byt, tby]
    exact ⟨T.data[i], by rw [Array.getElem?_eq_getElem hi2], by rw [Array.getElem?_eq_getElem hi2]; rfl⟩
  show (World.alloc _ _).cell? _ = _
  unfold World.cell?
  have e0 : w.drew.heap.size = w.heap.size := rfl
  rw [e0] at hh
  simp only [hh, Nat.zero_add]
  simpa using hc

set_option maxHeartbeats 4000000 in
set_option maxRecDepth 1000000 in
theorem again_any (T : ByteArray) (ao : Option Addr) (len cap : Nat) (V K W : Nat → Int) (w : World) (hT : Tab w) (hlen : len ≤ 140737488351232) (hTs : T.size ≤ 140737488351232)
    (hN : 0 < len → ∃ b off, ao = some ⟨b, off, none⟩ ∧ Nums w b off len V K W)
    (bV : ∀ i, i < len → -9223372036854775808 ≤ V i ∧ V i ≤ 9223372036854775807) (bK : ∀ i, i < len → -9223372036854775808 ≤ K i ∧ K i ≤ 9223372036854775807) (bW : ∀ i, i < len → -9223372036854775808 ≤ W i ∧ W i ≤ 9223372036854775807) :
    Calls Tryd.prog 3 #[.string T, .slice ao len cap] w fun e w' => e = .returned (.bool true) ∧ Kept [] w w' := by
  have HT := Hid.mk hT
  have HN := Hid.mk hN
  have HbV := Hid.mk bV
  have HbK := Hid.mk bK
  have HbW := Hid.mk bW
  clear hT hN bV bK bW
  go_enter Tryd.func3, Tryd.ntmps3
  go_wp2_with (go_at_call 4; refine (awake_any _ HT.out).mono ?_; rintro e w1 ⟨rfl, hk1⟩; have HS := Hid.mk (SepL.start hk1); clear hk1)
  obtain ⟨g2, cap2, w2, hrun2, hrd2, hk2⟩ := bytes_run w1 T
  rw [hrun2]
  have Hrd2 := Hid.mk hrd2
  have HS2 := Hid.mk (HS.out.keep hk2)
  clear hrun2 hrd2 hk2 HS
  go_wp2_with fail
  refine (sep_newReader HS2.out _ _ T.size (tby T) Hrd2.out (tby_byts T) (tby_length T) (by omega)).mono ?_
  rintro e w3 ⟨R, g, rfl, hs3⟩
  have HS3 : Hid (SepL w w3 [rdr R g (tby T) 0]) := hs3
  clear hs3 HS2 Hrd2
  go_wp2_with fail
  obtain ⟨g4, cap4, w4, hrun4, hrd4, hk4⟩ := bytes_run w3 T
  rw [hrun4]
  have Hrd4 := Hid.mk hrd4
  have HS4 := Hid.mk (HS3.out.keep hk4)
  clear hrun4 hrd4 hk4 HS3
  go_wp2_with fail
  refine (sep_newReader HS4.out _ _ T.size (tby T) Hrd4.out (tby_byts T) (tby_length T) (by omega)).mono ?_
  rintro e w5 ⟨A, ga, rfl, hs5⟩
  have HS5 := Hid.mk hs5
  clear hs5 HS4 Hrd4
  go_wp2_with fail
  refine (sep_newRuns HS5.out).mono ?_
  rintro e w6 ⟨X, rfl, hs6⟩
  have HS6 := Hid.mk hs6
  clear hs6 HS5
  go_wp2_with fail
  refine (sep_newRuns HS6.out).mono ?_
  rintro e w7 ⟨Y, rfl, hs7⟩
  have HS7 : Hid (SepL w w7 [rdr R g (tby T) 0, rdr A ga (tby T) 0, cdr X 0, cdr Y 0]) := hs7
  clear hs7 HS6
  have hbl : (tby T).length ≤ 281474976710656 := by rw [tby_length]; omega
  generalize tby T = bs at HS7 hbl
  go_wp2_with fail
  go_loopw [10] (fun i wr => ∃ (j t r : Nat), j ≤ len ∧ i = .int .i64 j ∧ SepL w wr [rdr R g bs t, rdr A ga bs t, cdr X r, cdr Y r]) (fun i _ => len - (intOf i).toNat)
  case atStart => exact ⟨0, 0, 0, Nat.zero_le _, rfl, HS7.out⟩
  case round =>
    obtain ⟨j, t, r, hj, rfl, hs⟩ := hrel
    have HSj := Hid.mk hs
    have htl : t ≤ 8 * bs.length := (hs.P 0 (by simp)).2.2.2.1
    clear hs HS7
    by_cases hlt : j < len
    · obtain ⟨b, off, rfl, hc⟩ := HN.out (by omega)
      obtain ⟨was, hwas⟩ : ∃ was : Int, 8 * (bs.length : Int) - (t : Int) = was := ⟨_, rfl⟩
      have was0 : 0 ≤ was := by omega
      have was1 : was ≤ 8 * 281474976710656 := by omega
      have Hwas := Hid.mk hwas
      clear hwas
      go_wp2_with fail
      refine (sep_newWriter HSj.out).mono ?_
      rintro e w8 ⟨B, rfl, hs8⟩
      have HS8 : Hid (SepL w w8 [rdr R g bs t, rdr A ga bs t, cdr X r, cdr Y r, wtr B (.slice none 0 0) 0 0]) := hs8
      clear hs8 HSj
      go_wp2_with fail
      refine (sep_left HS8.out 0 (by simp) rfl).mono ?_
      rw [Hwas.out]
      rintro e w9 ⟨rfl, hs9⟩
      obtain ⟨c1, c2, c3⟩ := hc.at hs9.old j hlt
      have HS9 := Hid.mk hs9
      clear hs9 HS8 hc
      by_cases hpar : (j : Int) % 2 = 0
      · have k0 := (HbK.out j hlt).1
        have k1 := (HbK.out j hlt).2
        have x0 := (HbW.out j hlt).1
        have x1 := (HbW.out j hlt).2
        have p0 := pick_lo (W j) 16 (by decide)
        have p1 := pick_hi (W j) 16 (by decide)
        have q0 := pick_lo (K j) 16 (by decide)
        have q1 := pick_hi (K j) 16 (by decide)
        have Hp := Hid.mk (fun w => pick_any (W j) 16 w x0 x1 (by decide))
        have Hq := Hid.mk (fun w => pick_any (K j) 16 w k0 k1 (by decide))
        generalize pick (W j) 16 = p at *
        generalize pick (K j) 16 = k at *
        go_wp2_with fail
        refine (Hp.out _).mono ?_
        rintro e w10 ⟨rfl, rfl⟩
        go_wp2_with fail
        refine (Hq.out _).mono ?_
        rintro e w11 ⟨rfl, rfl⟩
        go_wp2_with fail
        refine (sep_gget HS9.out 0 (by simp) k (1 + p) rfl (by omega) (by omega) (by omega) (by omega)).mono ?_
        rintro e w12 ⟨Z, E, t', rfl, hres, hs12⟩
        have HS12 : Hid (SepL w w12 [rdr R g bs t', rdr A ga bs t, cdr X r, cdr Y r, wtr B (.slice none 0 0) 0 0]) := hs12
        clear hs12 HS9 c1 c2 c3
        rcases numRes_ok hres with ⟨rfl, v, rfl, hv, ht', hle, hb⟩ | ⟨hE, rfl⟩
        · obtain ⟨c, hcc⟩ : ∃ c, c = gw v k.toNat (1 + p).toNat := ⟨_, rfl⟩
          obtain ⟨N, hNN⟩ : ∃ N, N = gf v k.toNat := ⟨_, rfl⟩
          have hc40 := gw_le v k.toNat (1 + p).toNat (by omega) (by omega)
          have HNc : Hid (N < 2 ^ c) := by rw [hcc, hNN]; exact gf_lt _ _ _ hv
          rw [← hcc] at ht' hb hc40
          rw [← hNN] at hb
          have Hv := Hid.mk hv
          have Ht' := Hid.mk ht'
          have Hb := Hid.mk hb
          have Hcc := Hid.mk hcc
          have HNN := Hid.mk hNN
          have hc1 := hc40.2
          clear hres hv ht' hb hc40 hcc hNN
          go_wp2_with fail
          refine (sep_gput HS12.out 4 (by simp) (v : Int) k (1 + p) rfl (by omega) (by omega) (by omega) (by omega) (by omega) (by rw [Int.toNat_natCast]; exact Hv.out) (by decide)).mono ?_
          rintro e w13 ⟨rfl, U, hs13⟩
          rw [Int.toNat_natCast, Nat.zero_mul, Nat.zero_add, Nat.zero_add, ← Hcc.out, ← HNN.out] at hs13
          have HS13 : Hid (SepL w w13 [rdr R g bs t', rdr A ga bs t, cdr X r, cdr Y r, wtr B U N c]) := hs13
          clear hs13 HS12
          go_wp2_with fail
          refine (sep_rate HS13.out 2 (by simp) rfl).mono ?_
          rintro e w14 ⟨rfl, rfl⟩
          go_wp2_with fail
          refine (sep_rate HS13.out 3 (by simp) rfl).mono ?_
          rintro e w15 ⟨rfl, rfl⟩
          go_wp2_with fail
          refine (taken_any w _ (cdr X r) (cdr Y r) R g A ga B U bs t t' N c was HS13.out Ht'.out hle hbl Hwas.out.symm (by omega) HNc.out Hb.out).mono ?_
          rintro e w16 ⟨rfl, hs16⟩
          have HS16 := Hid.mk hs16
          clear hs16 HS13
          go_wp2_with fail
          go_roundw
          case rel => exact ⟨j + 1, t', r, by omega, by go_num, SepL.front (l := [rdr R g bs t', rdr A ga bs t', cdr X r, cdr Y r]) HS16.out⟩
          case measure => simp [intOf]; omega
        · clear hres
          obtain ⟨r', hr'⟩ : ∃ r', r' = r := ⟨_, rfl⟩
          rw [← hr'] at HS12
          clear hr'
          rcases hE with rfl | rfl
          · go_wp2_with fail
            refine (sep_rate HS12.out 2 (by simp) rfl).mono ?_
            rintro e w14 ⟨rfl, rfl⟩
            go_wp2_with fail
            refine (sep_rate HS12.out 3 (by simp) rfl).mono ?_
            rintro e w15 ⟨rfl, rfl⟩
            go_wp2_with fail
            refine (sep_left HS12.out 0 (by simp) rfl).mono ?_
            rw [Hwas.out]
            rintro e w16 ⟨rfl, hs16⟩
            have HS16 := Hid.mk hs16
            clear hs16 HS12
            obtain ⟨m, hm⟩ : ∃ m : Int, min 1 was = m := ⟨_, rfl⟩
            have m0 : 0 ≤ m := by omega
            have m1 : m ≤ 1 := by omega
            have Hg : Hid (GetRes bs t' m.toNat (nextN bs t' m.toNat : Int) 0 (t' + m.toNat)) := .inl ⟨by have := Hwas.out; omega, rfl, rfl, rfl⟩
            generalize nextN bs t' m.toNat = bt at Hg
            go_wp2_with fail
            refine (sep_get HS16.out 0 (by simp) m (bt : Int) 0 rfl (by omega) (by omega) Hg.out).mono ?_
            rintro e w17 ⟨rfl, hs17⟩
            have HS17 : Hid (SepL w w17 [rdr R g bs (t' + m.toNat), rdr A ga bs t', cdr X r', cdr Y r', wtr B (.slice none 0 0) 0 0]) := hs17
            clear hs17 HS16
            go_wp2_with fail
            refine (sep_get HS17.out 1 (by simp) m (bt : Int) 0 rfl (by omega) (by omega) Hg.out).mono ?_
            rintro e w18 ⟨rfl, hs18⟩
            have HS18 : Hid (SepL w w18 [rdr R g bs (t' + m.toNat), rdr A ga bs (t' + m.toNat), cdr X r', cdr Y r', wtr B (.slice none 0 0) 0 0]) := hs18
            clear hs18 HS17
            go_wp2_with fail
            go_roundw
            case rel => exact ⟨j + 1, t' + m.toNat, r', by omega, by go_num, SepL.front (l := [rdr R g bs (t' + m.toNat), rdr A ga bs (t' + m.toNat), cdr X r', cdr Y r']) HS18.out⟩
            case measure => simp [intOf]; omega
          · go_wp2_with fail
            refine (sep_rate HS12.out 2 (by simp) rfl).mono ?_
            rintro e w14 ⟨rfl, rfl⟩
            go_wp2_with fail
            refine (sep_rate HS12.out 3 (by simp) rfl).mono ?_
            rintro e w15 ⟨rfl, rfl⟩
            go_wp2_with fail
            refine (sep_left HS12.out 0 (by simp) rfl).mono ?_
            rw [Hwas.out]
            rintro e w16 ⟨rfl, hs16⟩
            have HS16 := Hid.mk hs16
            clear hs16 HS12
            obtain ⟨m, hm⟩ : ∃ m : Int, min 1 was = m := ⟨_, rfl⟩
            have m0 : 0 ≤ m := by omega
            have m1 : m ≤ 1 := by omega
            have Hg : Hid (GetRes bs t' m.toNat (nextN bs t' m.toNat : Int) 0 (t' + m.toNat)) := .inl ⟨by have := Hwas.out; omega, rfl, rfl, rfl⟩
            generalize nextN bs t' m.toNat = bt at Hg
            go_wp2_with fail
            refine (sep_get HS16.out 0 (by simp) m (bt : Int) 0 rfl (by omega) (by omega) Hg.out).mono ?_
            rintro e w17 ⟨rfl, hs17⟩
            have HS17 : Hid (SepL w w17 [rdr R g bs (t' + m.toNat), rdr A ga bs t', cdr X r', cdr Y r', wtr B (.slice none 0 0) 0 0]) := hs17
            clear hs17 HS16
            go_wp2_with fail
            refine (sep_get HS17.out 1 (by simp) m (bt : Int) 0 rfl (by omega) (by omega) Hg.out).mono ?_
            rintro e w18 ⟨rfl, hs18⟩
            have HS18 : Hid (SepL w w18 [rdr R g bs (t' + m.toNat), rdr A ga bs (t' + m.toNat), cdr X r', cdr Y r', wtr B (.slice none 0 0) 0 0]) := hs18
            clear hs18 HS17
            go_wp2_with fail
            go_roundw
            case rel => exact ⟨j + 1, t' + m.toNat, r', by omega, by go_num, SepL.front (l := [rdr R g bs (t' + m.toNat), rdr A ga bs (t' + m.toNat), cdr X r', cdr Y r']) HS18.out⟩
            case measure => simp [intOf]; omega
      · have v0 := (HbV.out j hlt).1
        have v1 := (HbV.out j hlt).2
        have p0 := pick_lo (V j) 4096 (by decide)
        have p1 := pick_hi (V j) 4096 (by decide)
        have Hp := Hid.mk (fun w => pick_any (V j) 4096 w v0 v1 (by decide))
        generalize pick (V j) 4096 = p at *
        go_wp2_with fail
        refine (Hp.out _).mono ?_
        rintro e w10 ⟨rfl, rfl⟩
        go_wp2_with fail
        refine (sep_rget HS9.out 0 2 (by simp) (by simp) (1 + p) rfl rfl HT.out (by omega) (by omega)).mono ?_
        rintro e w12 ⟨Z, E, t', r', rfl, hres, hs12⟩
        have HS12 : Hid (SepL w w12 [rdr R g bs t', rdr A ga bs t, cdr X r', cdr Y r, wtr B (.slice none 0 0) 0 0]) := hs12
        clear hs12 HS9 c1 c2 c3
        rcases runRes_ok hres with ⟨rfl, n, rfl, hn, ht', hle, hr', hb⟩ | ⟨hE, rfl, rfl⟩
        · obtain ⟨c, hcc⟩ : ∃ c, c = rw_ r n (1 + p).toNat := ⟨_, rfl⟩
          obtain ⟨N, hNN⟩ : ∃ N, N = rf r n (1 + p).toNat := ⟨_, rfl⟩
          have hc1 := rw_le r n (1 + p).toNat hn (by omega)
          have HNc : Hid (N < 2 ^ c) := by rw [hcc, hNN]; exact rf_lt _ _ _
          rw [← hcc] at ht' hb hc1
          rw [← hNN] at hb
          have Hr' := Hid.mk hr'
          have Ht' := Hid.mk ht'
          have Hb := Hid.mk hb
          have Hcc := Hid.mk hcc
          have HNN := Hid.mk hNN
          clear hres ht' hb hcc hNN hr'
          go_wp2_with fail
          refine (sep_rput HS12.out 4 3 (by simp) (by simp) (n : Int) (1 + p) rfl rfl HT.out (by omega) (by omega) (by omega) (by omega) (by decide)).mono ?_
          rintro e w13 ⟨rfl, U, hs13⟩
          rw [Int.toNat_natCast, Nat.zero_mul, Nat.zero_add, Nat.zero_add, ← Hcc.out, ← HNN.out, ← Hr'.out] at hs13
          have HS13 : Hid (SepL w w13 [rdr R g bs t', rdr A ga bs t, cdr X r', cdr Y r', wtr B U N c]) := hs13
          clear hs13 HS12
          go_wp2_with fail
          refine (sep_rate HS13.out 2 (by simp) rfl).mono ?_
          rintro e w14 ⟨rfl, rfl⟩
          go_wp2_with fail
          refine (sep_rate HS13.out 3 (by simp) rfl).mono ?_
          rintro e w15 ⟨rfl, rfl⟩
          go_wp2_with fail
          refine (taken_any w _ (cdr X r') (cdr Y r') R g A ga B U bs t t' N c was HS13.out Ht'.out hle hbl Hwas.out.symm (by omega) HNc.out Hb.out).mono ?_
          rintro e w16 ⟨rfl, hs16⟩
          have HS16 := Hid.mk hs16
          clear hs16 HS13
          go_wp2_with fail
          go_roundw
          case rel => exact ⟨j + 1, t', r', by omega, by go_num, SepL.front (l := [rdr R g bs t', rdr A ga bs t', cdr X r', cdr Y r']) HS16.out⟩
          case measure => simp [intOf]; omega
        · clear hres
          rcases hE with rfl | rfl
          · go_wp2_with fail
            refine (sep_rate HS12.out 2 (by simp) rfl).mono ?_
            rintro e w14 ⟨rfl, rfl⟩
            go_wp2_with fail
            refine (sep_rate HS12.out 3 (by simp) rfl).mono ?_
            rintro e w15 ⟨rfl, rfl⟩
            go_wp2_with fail
            refine (sep_left HS12.out 0 (by simp) rfl).mono ?_
            rw [Hwas.out]
            rintro e w16 ⟨rfl, hs16⟩
            have HS16 := Hid.mk hs16
            clear hs16 HS12
            obtain ⟨m, hm⟩ : ∃ m : Int, min 1 was = m := ⟨_, rfl⟩
            have m0 : 0 ≤ m := by omega
            have m1 : m ≤ 1 := by omega
            have Hg : Hid (GetRes bs t' m.toNat (nextN bs t' m.toNat : Int) 0 (t' + m.toNat)) := .inl ⟨by have := Hwas.out; omega, rfl, rfl, rfl⟩
            generalize nextN bs t' m.toNat = bt at Hg
            go_wp2_with fail
            refine (sep_get HS16.out 0 (by simp) m (bt : Int) 0 rfl (by omega) (by omega) Hg.out).mono ?_
            rintro e w17 ⟨rfl, hs17⟩
            have HS17 : Hid (SepL w w17 [rdr R g bs (t' + m.toNat), rdr A ga bs t', cdr X r', cdr Y r', wtr B (.slice none 0 0) 0 0]) := hs17
            clear hs17 HS16
            go_wp2_with fail
            refine (sep_get HS17.out 1 (by simp) m (bt : Int) 0 rfl (by omega) (by omega) Hg.out).mono ?_
            rintro e w18 ⟨rfl, hs18⟩
            have HS18 : Hid (SepL w w18 [rdr R g bs (t' + m.toNat), rdr A ga bs (t' + m.toNat), cdr X r', cdr Y r', wtr B (.slice none 0 0) 0 0]) := hs18
            clear hs18 HS17
            go_wp2_with fail
            go_roundw
            case rel => exact ⟨j + 1, t' + m.toNat, r', by omega, by go_num, SepL.front (l := [rdr R g bs (t' + m.toNat), rdr A ga bs (t' + m.toNat), cdr X r', cdr Y r']) HS18.out⟩
            case measure => simp [intOf]; omega
          · go_wp2_with fail
            refine (sep_rate HS12.out 2 (by simp) rfl).mono ?_
            rintro e w14 ⟨rfl, rfl⟩
            go_wp2_with fail
            refine (sep_rate HS12.out 3 (by simp) rfl).mono ?_
            rintro e w15 ⟨rfl, rfl⟩
            go_wp2_with fail
            refine (sep_left HS12.out 0 (by simp) rfl).mono ?_
            rw [Hwas.out]
            rintro e w16 ⟨rfl, hs16⟩
            have HS16 := Hid.mk hs16
            clear hs16 HS12
            obtain ⟨m, hm⟩ : ∃ m : Int, min 1 was = m := ⟨_, rfl⟩
            have m0 : 0 ≤ m := by omega
            have m1 : m ≤ 1 := by omega
            have Hg : Hid (GetRes bs t' m.toNat (nextN bs t' m.toNat : Int) 0 (t' + m.toNat)) := .inl ⟨by have := Hwas.out; omega, rfl, rfl, rfl⟩
            generalize nextN bs t' m.toNat = bt at Hg
            go_wp2_with fail
            refine (sep_get HS16.out 0 (by simp) m (bt : Int) 0 rfl (by omega) (by omega) Hg.out).mono ?_
            rintro e w17 ⟨rfl, hs17⟩
            have HS17 : Hid (SepL w w17 [rdr R g bs (t' + m.toNat), rdr A ga bs t', cdr X r', cdr Y r', wtr B (.slice none 0 0) 0 0]) := hs17
            clear hs17 HS16
            go_wp2_with fail
            refine (sep_get HS17.out 1 (by simp) m (bt : Int) 0 rfl (by omega) (by omega) Hg.out).mono ?_
            rintro e w18 ⟨rfl, hs18⟩
            have HS18 : Hid (SepL w w18 [rdr R g bs (t' + m.toNat), rdr A ga bs (t' + m.toNat), cdr X r', cdr Y r', wtr B (.slice none 0 0) 0 0]) := hs18
            clear hs18 HS17
            go_wp2_with fail
            go_roundw
            case rel => exact ⟨j + 1, t' + m.toNat, r', by omega, by go_num, SepL.front (l := [rdr R g bs (t' + m.toNat), rdr A ga bs (t' + m.toNat), cdr X r', cdr Y r']) HS18.out⟩
            case measure => simp [intOf]; omega
    · go_wp2_with fail
      go_ret
      exact ⟨rfl, HSj.out.old⟩
end Go.Proofs.YthhcihcgefeblabDoor
