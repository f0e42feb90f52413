import Derived.Test.YthhcihcgefeblaaDoorOf
namespace Go.Proofs.YthhcihcgefeblaaDoor
open Go.RowKit

/-- A row of bytes of one's own. -/
def rowB (v : Value) (n : Nat) (xs : List Value) : Rsc where
  P := fun w => w.ownsRow 0 5 1 v n xs
  F := v.ownBlock.toList
  lt := fun h hx => ownsRow_lt h (mem_own.1 hx)
  keep := fun h hk hF => hk.row h (fun g hg => hF g (mem_own.2 hg))

theorem own_FB {w : World} {v v' : Value} (h : v'.ownBlock = v.ownBlock ∨ v'.ownBlock = some w.heap.size) : ∀ x ∈ v'.ownBlock.toList, x ∈ v.ownBlock.toList ∨ w.heap.size ≤ x := by
  intro x hx
  rw [mem_own] at hx ⊢
  rcases h with h | h
  · left; rw [← h]; exact hx
  · right; rw [h] at hx; simp at hx; omega

/-- The bytes of a number's form. -/
def fby (v k wide : Nat) : List Nat := big ((gw v k wide + 7) / 8) (gf v k * 2 ^ (8 * ((gw v k wide + 7) / 8) - gw v k wide))
/-- The form's first bits, as letters. -/
def fch (v k wide j : Nat) : List Nat := (List.range j).map fun i => 48 + nextN (fby v k wide) i 1
theorem fch_succ (v k wide j : Nat) : fch v k wide (j + 1) = fch v k wide j ++ [48 + nextN (fby v k wide) j 1] := by simp [fch, List.range_succ]
theorem fch_length (v k wide j : Nat) : (fch v k wide j).length = j := by simp [fch]

set_option maxHeartbeats 4000000 in
set_option maxRecDepth 1000000 in
theorem formStr_any (v k wide : Int) (w : World) (k0 : 0 ≤ k) (k1 : k ≤ 15) (w0 : 1 ≤ wide) (w1 : wide ≤ 16) (v0 : 0 ≤ v) (hv : v.toNat < 2 ^ wide.toNat) :
    Calls Tryd.prog 27 #[.int .i64 v, .int .i64 k, .int .i64 wide] w fun e w' => e = .returned (.tuple #[.string (bstr (fch v.toNat k.toNat wide.toNat (gw v.toNat k.toNat wide.toNat))), .bool true]) ∧ Kept [] w w' := by
  obtain ⟨i0, hi, hz0, hz1, hz2⟩ := info_parts Tryd.info5
  have HS := Hid.mk (SepL.start (Kept.refl [] w))
  have Hv := Hid.mk hv
  have hc := gw_le v.toNat k.toNat wide.toNat (by omega) (by omega)
  clear hv
  go_enter Tryd.func27, Tryd.ntmps27
  go_wp2_with (go_at_call 18; refine (sep_newWriter HS.out).mono ?_; rintro e w2 ⟨B, rfl, hs2⟩; have HS2 := Hid.mk hs2; clear hs2)
  refine (sep_gput HS2.out 0 (by simp) v k wide rfl k0 k1 w0 w1 v0 Hv.out (by decide)).mono ?_
  rintro e w3 ⟨rfl, U, hs3⟩
  rw [Nat.zero_mul, Nat.zero_add, Nat.zero_add] at hs3
  obtain ⟨L, hL⟩ : ∃ L, L = fby v.toNat k.toNat wide.toNat := ⟨_, rfl⟩
  have hLl : L.length = (gw v.toNat k.toNat wide.toNat + 7) / 8 := by rw [hL]; exact big_length _ _
  have hLb : Byts L := by rw [hL]; exact big_lt _ _
  have HL := Hid.mk hL
  unfold fby at hL
  obtain ⟨c, hcc⟩ : ∃ c, c = gw v.toNat k.toNat wide.toNat := ⟨_, rfl⟩
  rw [← hcc] at hs3 hc hLl hL
  have Hcc := Hid.mk hcc
  obtain ⟨c1, c40⟩ := hc
  obtain ⟨f, hf⟩ : ∃ f, f = gf v.toNat k.toNat := ⟨_, rfl⟩
  rw [← hf] at hs3 hL
  have HS3 : Hid (SepL w w3 [wtr B U f c]) := hs3
  clear hs3 HS2 hcc hf
  go_wp2_with fail
  refine (sep_bytes HS3.out 0 (by simp) rfl (by omega)).mono ?_
  rintro e w4 ⟨g4, rfl, hg4, hs4⟩
  rw [← hL] at hg4
  obtain ⟨m, hm⟩ : ∃ m, m = (c + 7) / 8 := ⟨_, rfl⟩
  rw [← hm] at hLl
  rw [← hm]
  have Hrd := Hid.mk (heap_reads hg4)
  have HLl := Hid.mk hLl
  have HS4 := Hid.mk hs4
  have hm1 : c ≤ 8 * m := by omega
  have hm2 : m ≤ 6 := by omega
  clear hg4 hs4 HS3 hL hLl hm
  go_wp2_with fail
  refine (sep_newReader HS4.out _ _ m L Hrd.out hLb HLl.out (by omega)).mono ?_
  rintro e w5 ⟨R, g, rfl, hs5⟩
  have HS5 : Hid (SepL w w5 [wtr B U f c, rdr R g L 0, rowB (.slice none 0 0) 0 []]) := hs5.push (r := rowB (.slice none 0 0) 0 []) (Kept.refl _ _) (World.ownsRow_nil _ 0 5 1) (by simp [rowB, Value.ownBlock])
  clear hs5 HS4 Hrd
  go_wp2_with fail
  go_loopw [11, 12] (fun ov i wr => ∃ j : Nat, j ≤ c ∧ i = .int .i64 j ∧ SepL w wr [wtr B U f c, rdr R g L j, rowB ov j ((fch v.toNat k.toNat wide.toNat j).map byt)]) (fun _ i _ => c - (intOf i).toNat)
  case atStart => exact ⟨0, Nat.zero_le _, rfl, HS5.out⟩
  case round =>
    obtain ⟨j, hj, rfl, hs⟩ := hrel
    have HSj := Hid.mk hs
    clear hs HS5
    by_cases hlt : j < c
    · obtain ⟨Y, E, t', hg⟩ := getRes_ex L j 1
      obtain ⟨rfl, rfl, rfl⟩ : Y = (nextN L j 1 : Int) ∧ E = 0 ∧ t' = j + 1 := by
        rcases hg with ⟨_, h⟩ | ⟨h, _⟩
        · exact h
        · have := HLl.out; omega
      have Hg := Hid.mk hg
      have hbit := bit_lt L j
      obtain ⟨bt, hbt⟩ : ∃ bt, bt = nextN L j 1 := ⟨_, rfl⟩
      rw [← hbt] at Hg hbit
      have Hbt : Hid (bt = nextN (fby v.toNat k.toNat wide.toNat) j 1) := by rw [hbt, HL.out]; exact Hid.mk rfl
      clear hg hbt
      go_wp2_with (go_at_call 22; refine (sep_len HSj.out 0 (by simp) rfl (by omega)).mono ?_; rintro e w6 ⟨rfl, hs6⟩; have HS6 := Hid.mk hs6; clear hs6)
      refine (sep_get HS6.out 1 (by simp) 1 (bt : Int) 0 rfl (by decide) (by decide) Hg.out).mono ?_
      rintro e w7 ⟨rfl, hs7⟩
      have HS7 : Hid (SepL w w7 [wtr B U f c, rdr R g L (j + 1), rowB u11 j ((fch v.toNat k.toNat wide.toNat j).map byt)]) := hs7
      have hrow : w7.ownsRow 0 5 1 u11 j ((fch v.toNat k.toNat wide.toNat j).map byt) := HS7.out.P 2 (by simp)
      have Hrow := Hid.mk hrow
      clear hs7 HS6 hrow HSj
      go_wp2_with (at_builtin; refine wpList_append_own_at _ rfl _ _ 34 rfl 0 5 i0 (.int .u8 0) 1 1 Tryd.underlying34 hi hz0 hz1 hz2 rfl (by decide) _ _ _ rfl (Hrow.out.alloc _) ⟨w7.heap.size, 0, none⟩ 1 1 [.int .u8 (48 + (bt : Int))] rfl rfl ?c1 ?c2 ?c3 ?c4 ?c5 ?_)
      case c1 =>
        intro i u hu
        match i, hu with
        | 0, hu => simp at hu; subst hu; simp [Addr.add]
      case c2 => intro u hu; simp at hu; subst hu; rfl
      case c3 => unfold maxLen; omega
      case c4 => omega
      case c5 => omega
      intro v' w8 hown' hgrow _ hat
      have hs8 : SepL w w8 [wtr B U f c, rdr R g L (j + 1), rowB v' (j + 1) ((fch v.toNat k.toNat wide.toNat (j + 1)).map byt)] := by
        have hk8 := Kept.of_grown hgrow
        have e : (fch v.toNat k.toNat wide.toNat (j + 1)).map byt = (fch v.toNat k.toNat wide.toNat j).map byt ++ [.int .u8 (48 + (bt : Int))] := by
          rw [fch_succ, List.map_append, ← Hbt.out]; simp [byt]
        rw [e]
        exact (HS7.out.keep ((Kept.refl _ _).alloc _)).step (r := rowB v' (j + 1) _) 2 (by simp) hk8 (fun x hx => .inl hx) hown' (own_FB (by simpa using hat))
      have HS8 := Hid.mk hs8
      clear hs8 hown' hgrow hat HS7 Hrow
      go_wp2
      go_roundw
      case rel => exact ⟨j + 1, by omega, by go_num, HS8.out⟩
      case measure => simp [intOf]; omega
    · obtain rfl : j = c := by omega
      go_wp2_with (go_at_call 22; refine (sep_len HSj.out 0 (by simp) rfl (by omega)).mono ?_; rintro e w6 ⟨rfl, hs6⟩)
      have hrow : w6.ownsRow 0 5 1 u11 j ((fch v.toNat k.toNat wide.toNat j).map byt) := hs6.P 2 (by simp)
      obtain ⟨oa, ocap, rfl⟩ := row_form hrow
      have hstr := reads_str (reads_row hrow) ocap
      rw [fch_length] at hstr
      have HS6 := Hid.mk hs6
      clear hs6 hrow
      go_wp2_with fail
      rw [hstr]
      go_wp2_with fail
      go_ret2
      exact ⟨by rw [← Hcc.out]; rfl, HS6.out.old⟩
end Go.Proofs.YthhcihcgefeblaaDoor
