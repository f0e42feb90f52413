import Derived.Test.YthhcihcgefeblaaDoorGc
namespace Go.Proofs.YthhcihcgefeblaaDoor
open Go.RowKit

set_option maxHeartbeats 4000000 in
set_option maxRecDepth 1000000 in
theorem rows_any (ao : Option Addr) (len cap : Nat) (R : Nat → Int) (w : World) (hlen : len * 8 ≤ 140737488351232) (hT : Tab w)
    (hR : 0 < len → ∃ b off, ao = some ⟨b, off, none⟩ ∧ ∀ i, i < len → w.cell? ⟨b, off + i, none⟩ = some (.int .i64 (R i)))
    (bR : ∀ i, i < len → -9223372036854775808 ≤ R i ∧ R i ≤ 9223372036854775807) :
    Calls Tryd.prog 8 #[.slice ao len cap] w fun e w' => e = .returned (.bool true) ∧ Kept [] w w' := by
  have HT := Hid.mk hT
  have HR := Hid.mk hR
  have HbR := Hid.mk bR
  clear hT hR bR
  go_enter Tryd.func8, Tryd.ntmps8
  go_wp2_with (go_at_call 9; refine (awake_any _ HT.out).mono ?_; rintro e w1 ⟨rfl, hk1⟩; have HS := Hid.mk (SepL.start hk1); clear hk1)
  refine (sep_newWriter HS.out).mono ?_
  rintro e w2 ⟨B, rfl, hs2⟩
  have HS2 := Hid.mk hs2
  clear hs2 HS
  go_wp2_with fail
  refine (sep_newRuns HS2.out).mono ?_
  rintro e w3 ⟨X, rfl, hs3⟩
  have HS3 : Hid (SepL w w3 [wtr B (.slice none 0 0) 0 0, cdr X 0]) := hs3
  clear hs3 HS2
  go_wp2_with fail
  go_loopw [6] (fun i wr => ∃ (j : Nat) (V : Value) (N m r : Nat), j ≤ len ∧ i = .int .i64 j ∧ m ≤ j + r ∧ r ≤ 22 ∧ SepL w wr [wtr B V N m, cdr X r]) (fun i _ => len - (intOf i).toNat)
  case atStart => exact ⟨0, _, 0, 0, 0, Nat.zero_le _, rfl, Nat.zero_le _, by decide, HS3.out⟩
  case round =>
    obtain ⟨j, V, N, m, r, hj, rfl, hm, hr, hs⟩ := hrel
    have HS := Hid.mk hs
    clear hs HS3
    by_cases hlt : j < len
    · obtain ⟨b, off, rfl, hc⟩ := HR.out (by omega)
      have hcj := hc j hlt
      have hbl := World.block_lt_of_cell? w _ hcj
      have hcj2 : wr.cell? ⟨b, off + j, none⟩ = some (.int .i64 (R j)) := (World.cell?_of_block (a := ⟨b, off + j, none⟩) (HS.out.old.block b hbl (by simp))).trans hcj
      obtain ⟨b0, b1⟩ := HbR.out j hlt
      have p0 := pick_lo (R j) 4096 (by decide)
      have p1 := pick_hi (R j) 4096 (by decide)
      have Hp := Hid.mk (fun w => pick_any (R j) 4096 w b0 b1 (by decide))
      generalize pick (R j) 4096 = p at *
      clear hcj hc
      go_wp2_with (go_at_call 15; refine (Hp.out _).mono ?_; rintro e w4 ⟨rfl, rfl⟩)
      refine (sep_rput HS.out 0 1 (by simp) (by simp) (1 + p) (1 + p) rfl rfl HT.out (by omega) (by omega) (by omega) (by omega) (by omega)).mono ?_
      rintro e w5 ⟨rfl, V5, hs5⟩
      have hbits := row_bits r (1 + p).toNat hr (by omega) (by omega)
      have hr5 := rr_le r (1 + p).toNat (1 + p).toNat
      generalize rw_ r (1 + p).toNat (1 + p).toNat = c at *
      generalize rr r (1 + p).toNat (1 + p).toNat = r5 at *
      generalize N * 2 ^ c + rf r (1 + p).toNat (1 + p).toNat = N5 at *
      have HS5 : Hid (SepL w w5 [wtr B V5 N5 (m + c), cdr X r5]) := hs5
      clear hs5 HS
      go_wp2_with (go_at_call 22; refine (sep_len HS5.out 0 (by simp) rfl (by omega)).mono ?_; rintro e w6 ⟨rfl, hs6⟩; have HS6 := Hid.mk hs6; clear hs6)
      go_roundw
      case rel => exact ⟨j + 1, V5, N5, m + c, r5, by omega, by go_num, by omega, by omega, HS6.out⟩
      case measure => simp [intOf]; omega
    · go_wp2_with fail
      go_ret
      exact ⟨rfl, HS.out.old⟩
end Go.Proofs.YthhcihcgefeblaaDoor
