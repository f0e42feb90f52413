import Derived.Test.YthhcihcgefeblabDoorBk
namespace Go.Proofs.YthhcihcgefeblabDoor
open Go.RowKit

/-- The last one is left aside. -/
theorem SepL.front {W w : World} {r : Rsc} {l : List Rsc} (h : SepL W w (l ++ [r])) : SepL W w l := by
  have hlen : ∀ i, i < l.length → i < (l ++ [r]).length := fun i hi => by simp; omega
  have hget : ∀ i (hi : i < l.length), (l ++ [r])[i]'(hlen i hi) = l[i] := fun i hi => List.getElem_append_left hi
  refine ⟨h.old, fun i hi => ?_, fun i hi => ?_, fun i j hi hj hij => ?_⟩
  · have := h.P i (hlen i hi); rwa [hget i hi] at this
  · have := h.new i (hlen i hi); rwa [hget i hi] at this
  · have := h.apart i j (hlen i hi) (hlen j hj) hij; rwa [hget i hi, hget j hj] at this

theorem next_all (X c : Nat) (hX : X < 2 ^ c) : nextN (big ((c + 7) / 8) (X * 2 ^ (8 * ((c + 7) / 8) - c))) 0 c = X := by
  rw [nextN, big_length, num_padded X c hX, Nat.zero_add, Nat.mul_div_cancel _ (Nat.two_pow_pos _), Nat.mod_eq_of_lt hX]

set_option maxHeartbeats 4000000 in
set_option maxRecDepth 1000000 in
theorem taken_any (W w : World) (p q : Rsc) (R g A ga B : Nat) (V : Value) (bs : List Nat) (t t' N c : Nat) (was : Int) (h : SepL W w [rdr R g bs t', rdr A ga bs t, p, q, wtr B V N c]) (ht : t' = t + c) (hle : t' ≤ 8 * bs.length)
    (hbl : bs.length ≤ 281474976710656) (hwas : was = 8 * (bs.length : Int) - (t : Int)) (hc : c ≤ 5000) (hN : N < 2 ^ c) (hb : nextN bs t c = N) :
    Calls Tryd.prog 15 #[.int .i64 was, .pointer (some ⟨R, 0, none⟩), .pointer (some ⟨A, 0, none⟩), .pointer (some ⟨B, 0, none⟩)] w fun e w' => e = .returned (.bool true) ∧ SepL W w' [rdr R g bs t', rdr A ga bs t', p, q, wtr B V N c] := by
  have HS := Hid.mk h
  have Hbits : Hid (∀ i, i < c → nextN bs (t + i) 1 = nextN (big ((c + 7) / 8) (N * 2 ^ (8 * ((c + 7) / 8) - c))) i 1) := fun i hi => by
    have e1 := nextN_bit bs t c i hi (by omega)
    have e2 := nextN_bit (big ((c + 7) / 8) (N * 2 ^ (8 * ((c + 7) / 8) - c))) 0 c i hi (by rw [big_length]; omega)
    rw [next_all N c hN, Nat.zero_add] at e2
    rw [e1, hb, e2]
  have hn : was - (8 * (bs.length : Int) - (t' : Int)) = (c : Int) := by omega
  have hw0 : 0 ≤ was := by omega
  have hw1 : was ≤ 8 * (bs.length : Int) := by omega
  have hl0 : 0 ≤ 8 * (bs.length : Int) - (t' : Int) := by omega
  have Ht := Hid.mk ht
  clear h hb hN hwas ht
  go_enter Tryd.func15, Tryd.ntmps15
  go_wp2_with (go_at_call 8; refine (sep_left HS.out 0 (by simp) rfl).mono ?_; rintro e w1 ⟨rfl, hs1⟩; have HS1 := Hid.mk hs1; clear hs1)
  refine (sep_bytes HS1.out 4 (by simp) rfl (by omega)).mono ?_
  rintro e w2 ⟨g2, rfl, hg2, hs2⟩
  have hrd := heap_reads hg2
  have hby : Byts (big ((c + 7) / 8) (N * 2 ^ (8 * ((c + 7) / 8) - c))) := big_lt _ _
  have hbl2 := big_length ((c + 7) / 8) (N * 2 ^ (8 * ((c + 7) / 8) - c))
  generalize big ((c + 7) / 8) (N * 2 ^ (8 * ((c + 7) / 8) - c)) = Lb at hrd hby hbl2 Hbits
  obtain ⟨m, hm⟩ : ∃ m, m = (c + 7) / 8 := ⟨_, rfl⟩
  rw [← hm] at hbl2
  rw [← hm]
  have hm1 : c ≤ 8 * m := by omega
  have hm2 : m ≤ 1000 := by omega
  have Hrd := Hid.mk hrd
  have Hbl := Hid.mk hbl2
  have HS2 := Hid.mk hs2
  clear hg2 hrd hbl2 hs2 HS1 hm HS
  go_wp2_with fail
  refine (sep_newReader HS2.out _ _ m Lb Hrd.out hby Hbl.out (by omega)).mono ?_
  rintro e w3 ⟨D, gd, rfl, hs3⟩
  have HS3 : Hid (SepL W w3 [rdr R g bs t', rdr A ga bs t, p, q, wtr B V N c, rdr D gd Lb 0]) := hs3
  clear hs3 HS2 Hrd
  go_wp2_with (go_at_call 27; refine (sep_len HS3.out 4 (by simp) rfl (by omega)).mono ?_; rintro e w4 ⟨rfl, hs4⟩; have HS4 := Hid.mk hs4; clear hs4)
  go_loopw [11] (fun i wr => ∃ j : Nat, j ≤ c ∧ i = .int .i64 j ∧ SepL W wr [rdr R g bs t', rdr A ga bs (t + j), p, q, wtr B V N c, rdr D gd Lb j]) (fun i _ => c - (intOf i).toNat)
  case atStart => exact ⟨0, Nat.zero_le _, rfl, HS4.out⟩
  case round =>
    obtain ⟨j, hj, rfl, hs⟩ := hrel
    have HSj := Hid.mk hs
    clear hs HS3 HS4
    by_cases hlt : j < c
    · have hg1 : GetRes bs (t + j) 1 (nextN bs (t + j) 1 : Int) 0 (t + (j + 1)) := .inl ⟨by have := Ht.out; omega, rfl, rfl, rfl⟩
      have hg2 : GetRes Lb j 1 (nextN Lb j 1 : Int) 0 (j + 1) := .inl ⟨by rw [Hbl.out]; omega, rfl, rfl, rfl⟩
      rw [← Hbits.out j hlt] at hg2
      have Hg1 := Hid.mk hg1
      have Hg2 := Hid.mk hg2
      generalize nextN bs (t + j) 1 = bt at Hg1 Hg2
      clear hg1 hg2
      go_wp2_with fail
      refine (sep_get HSj.out 1 (by simp) 1 (bt : Int) 0 rfl (by decide) (by decide) Hg1.out).mono ?_
      rintro e w5 ⟨rfl, hs5⟩
      have HS5 : Hid (SepL W w5 [rdr R g bs t', rdr A ga bs (t + (j + 1)), p, q, wtr B V N c, rdr D gd Lb j]) := hs5
      clear hs5 HSj
      go_wp2_with fail
      refine (sep_get HS5.out 5 (by simp) 1 (bt : Int) 0 rfl (by decide) (by decide) Hg2.out).mono ?_
      rintro e w6 ⟨rfl, hs6⟩
      have HS6 : Hid (SepL W w6 [rdr R g bs t', rdr A ga bs (t + (j + 1)), p, q, wtr B V N c, rdr D gd Lb (j + 1)]) := hs6
      clear hs6 HS5
      go_wp2_with fail
      go_roundw
      case rel => exact ⟨j + 1, by omega, by go_num, HS6.out⟩
      case measure => simp [intOf]; omega
    · obtain rfl : j = c := by omega
      go_wp2_with fail
      go_ret
      refine ⟨rfl, ?_⟩
      rw [Ht.out]
      have h := HSj.out
      rw [Ht.out] at h
      exact SepL.front (l := [rdr R g bs (t + j), rdr A ga bs (t + j), p, q, wtr B V N j]) h
end Go.Proofs.YthhcihcgefeblabDoor
