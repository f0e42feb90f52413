import Derived.Test.YtoghkbajdljheaaX1
namespace Go.Proofs.Ytoghkbajdljheaa
open Go.RowKit

theorem refw_put {w wr w1 w2 : World} {B m : Nat} {V V1 V2 : Value} {xs : List Value} (hB : wr.heap[B]? = some (.cells #[V1] 78 (0, 0))) (hV1 : V1.ownBlock ≠ some B) (hk : Kept (B :: V.ownBlock.toList) w wr) (hL : Lies w V V1)
    (hk1 : Kept [] wr w1) (hg : w1.grownBy w2 V1.ownBlock) (ho : w2.ownsRow 0 5 1 V2 m xs) (hat : V2.ownBlock = V1.ownBlock ∨ V2.ownBlock = some w1.heap.size) :
    (w2.setCell ⟨B, 0, none⟩ V2).heap[B]? = some (.cells #[V2] 78 (0, 0)) ∧ (w2.setCell ⟨B, 0, none⟩ V2).ownsRow 0 5 1 V2 m xs ∧ Kept (B :: V.ownBlock.toList) w (w2.setCell ⟨B, 0, none⟩ V2) ∧ Lies w V V2 := by
  have h1 := hk1.heap hB (by simp)
  have h2 := (Kept.of_grown hg).heap h1 (by rw [mem_own]; exact hV1)
  have s1 := hk1.size
  have hne : V2.ownBlock ≠ some B := own_ne2 h2 (by decide) ho
  refine ⟨by rw [heap_setCell_at h2]; simp, ownsRow_setCell_other ho hne _, ?_, ?_⟩
  · refine Kept.setCell (p := ⟨B, 0, none⟩) ?_ (by simp) _
    refine (hk.step hk1 (by simp)).step (Kept.of_grown hg) (fun x hx => ?_)
    rcases hL.mem x hx with h | h
    · exact .inl (List.mem_cons_of_mem _ h)
    · exact .inr h
  · refine hL.trans (w1 := wr) ?_ hk.size
    rcases hat with h | h
    · exact .inl h
    · exact .inr ⟨_, h, s1⟩

theorem put_digit (v n j : Nat) (hj : j < n) : v / 2 ^ (n - (j + 1)) / 2 = v / 2 ^ (n - j) := by
  rw [Nat.div_div_eq_div_mul, ← Nat.pow_succ, show (n - (j + 1)).succ = n - j by omega]

theorem put_val (v X2 : Int) (c : Nat) (v0 : 0 ≤ v) (v1 : v < 4294967296) (hX : X2 = ((2 ^ c : Nat) : Int)) :
    Value.int .u8 (IntKind.u8.wrap ((IntKind.u64.wrap ((IntKind.u64.wrap v).tdiv X2)).tmod 2)) = byt (v.toNat / 2 ^ c % 2) := by
  have hp := Nat.two_pow_pos c
  have e1 : IntKind.u64.wrap v = v := by rw [IntKind.wrap_u64]; omega
  have e2 : v.tdiv X2 = ((v.toNat / 2 ^ c : Nat) : Int) := by
    rw [Int.tdiv_eq_ediv_of_nonneg v0, hX, Int.natCast_ediv, Int.toNat_of_nonneg v0]
  have e3 : v.toNat / 2 ^ c ≤ v.toNat := Nat.div_le_self _ _
  rw [e1, e2]
  generalize v.toNat / 2 ^ c = y at *
  have e4 : IntKind.u64.wrap (y : Int) = y := by rw [IntKind.wrap_u64]; omega
  rw [e4, Int.tmod_eq_emod_of_nonneg (by omega), IntKind.wrap_u8, byt]
  congr 1
  omega

set_option maxHeartbeats 2000000 in
set_option maxRecDepth 1000000 in
theorem refPut_any (B : Nat) (V : Value) (bs : List Nat) (v n X : Int) (w : World) (h : RefW w B V bs) (h0 : 0 ≤ n) (h1 : n ≤ 32) (v0 : 0 ≤ v) (v1 : v < 4294967296) (hX : X = ((2 ^ n.toNat : Nat) : Int)) (hv : v < X) (hl : bs.length + 100 ≤ 140737488355328) :
    Calls Try.prog 47 #[.pointer (some ⟨B, 0, none⟩), .int .u32 v, .int .i64 n] w fun e w' => e = .returned (.int .i64 0) ∧
      ∃ V', RefW w' B V' (bs ++ bin n.toNat v.toNat) ∧ Kept (B :: V.ownBlock.toList) w w' ∧ Lies w V V' := by
  obtain ⟨i0, hi, hz0, hz1, hz2⟩ := info_parts Try.info5
  have HX := Hid.mk hX
  have t1 : decide (n < 0) = false := by simp; omega
  have Hh := Hid.mk h
  clear hX h
  go_enter Try.func47, Try.ntmps47
  go_wp2_with (go_at_call 50; refine (power_any _ X _ (by omega) (by omega) HX.out).mono ?_; rintro e w1 ⟨rfl, rfl⟩)
  go_loopw [7] (fun i wr => ∃ (j : Nat) (c : Int) (V1 : Value), (j : Int) ≤ n ∧ c = n - 1 - (j : Int) ∧ i = .int .i64 c ∧ RefW wr B V1 (bs ++ bin j (v.toNat / 2 ^ (n.toNat - j))) ∧ Kept (B :: V.ownBlock.toList) w1 wr ∧ Lies w1 V V1) (fun i _ => (intOf i + 1).toNat)
  case atStart => exact ⟨0, n - 1, V, by omega, by simp, rfl, by simpa [bin] using Hh.out, Kept.refl _ _, Lies.refl _ _⟩
  case round =>
    obtain ⟨j, c, V1, hj, hc, rfl, hR, hkr, hlr⟩ := hrel
    have Hc := Hid.mk hc
    by_cases hlt : (0 : Int) ≤ c
    · obtain ⟨L, hL⟩ : ∃ L, L = bs ++ bin j (v.toNat / 2 ^ (n.toNat - j)) := ⟨_, rfl⟩
      have hlen : L.length = bs.length + j := by rw [hL]; simp [bin_length]
      rw [← hL] at hR
      obtain ⟨m, hm⟩ : ∃ m, m = L.length := ⟨_, rfl⟩
      obtain ⟨hR1, hR2⟩ := hR
      rw [← hm] at hR2
      obtain ⟨ao, cap, rfl⟩ := row_form hR2
      obtain ⟨X2, hX2⟩ : ∃ X2 : Int, X2 = ((2 ^ c.toNat : Nat) : Int) := ⟨_, rfl⟩
      have hX2p : 1 ≤ X2 := by have := Nat.two_pow_pos c.toNat; omega
      obtain ⟨c0, c1⟩ := cells_one' hR1
      have hne := own_ne2 hR1 (by decide) hR2
      have hBl := lt_of_block hR1
      have hB2 : ¬ B = wr.heap.size := by omega
      have hB3 : ¬ wr.heap.size = B := by omega
      have hX3 : ¬ X2 = 0 := by omega
      have hcb : c ≤ 63 := by omega
      have hmb : m ≤ 140737488355320 := by omega
      have hdig := put_val v X2 c.toNat v0 v1 hX2
      have hnew : bs ++ bin (j + 1) (v.toNat / 2 ^ (n.toNat - (j + 1))) = L ++ [v.toNat / 2 ^ c.toNat % 2] := by
        rw [bin, put_digit v.toNat n.toNat j (by omega), ← List.append_assoc, ← hL, show n.toNat - (j + 1) = c.toNat by omega]
      have Hdig := Hid.mk hdig
      have Hnew := Hid.mk hnew
      have HX2 := Hid.mk hX2
      have HR1 := Hid.mk hR1
      have HR2 := Hid.mk hR2
      have Hkr := Hid.mk hkr
      have Hlr := Hid.mk hlr
      have Hm := Hid.mk hm
      have Hne := Hid.mk hne
      clear hR1 hR2 hkr hlr hX2 hc hL hlen hm hdig hnew hne
      go_wp2
      go_region_law (first | (refine step_own _ (by rfl) (.tmp 29) (.tmp 37) 43 (by rfl) 0 5 i0 (.int .u8 0) 1 1 Try.underlying43 hi hz0 hz1 hz2 rfl (by decide) _ _ _ (by rfl) ((HR2.out.alloc _).drew) ⟨wr.heap.size, 0, none⟩ 1 1 [.int .u8 (IntKind.u8.wrap ((IntKind.u64.wrap ((IntKind.u64.wrap v).tdiv X2)).tmod 2))] (by rfl) (by rfl) (cell_one_new _ _ _) (by intro u hu; simp at hu; subst hu; rfl) (by unfold maxLen; omega) (by omega) (Nat.zero_le _) ?_; intro ao4 cp4 w4 ho4 hg4 ha4; have hB4 := (Kept.of_grown hg4).heap ((((Kept.refl [] wr).alloc _).drew).heap HR1.out (by simp)) (by rw [mem_own]; exact Hne.out); have q0 := (cells_one' hB4).1; have q1 := (cells_one' hB4).2) | (go_simp; go_at_call 50; refine (power_any _ X2 _ (by omega) (by omega) HX2.out).mono ?_; rintro e wm ⟨rfl, rfl⟩))
      all_goals go_wp2
      all_goals go_roundw
      all_goals first
        | (have P := refw_put HR1.out Hne.out Hkr.out Hlr.out (((Kept.refl [] wr).alloc _).drew) hg4 ho4 ha4
           refine ⟨j + 1, c - 1, _, by have := Hc.out; omega, by have := Hc.out; omega, by go_num, ⟨P.1, ?_⟩, P.2.2.1, P.2.2.2⟩
           rw [Hnew.out, List.length_append, ← Hm.out, List.map_append, List.map_singleton, ← Hdig.out]
           exact P.2.1)
        | (simp [intOf]; omega)
    · have hjn : n.toNat = j := by omega
      have Hjn := Hid.mk hjn
      have HR := Hid.mk hR
      have Hkr := Hid.mk hkr
      have Hlr := Hid.mk hlr
      clear hR hkr hlr hc hjn
      go_wp2
      go_ret
      refine ⟨rfl, V1, ?_, Hkr.out, Hlr.out⟩
      have h := HR.out
      rw [Hjn.out, Nat.sub_self, Nat.pow_zero, Nat.div_one] at h
      rw [Hjn.out]
      exact h
end Go.Proofs.Ytoghkbajdljheaa
