import Derived.Test.YthhcihcgefeblaaDoorD2
namespace Go.Proofs.YthhcihcgefeblaaDoor
open Go.RowKit

theorem bin_zero (n : Nat) : bin n 0 = List.replicate n 0 := by
  induction n with
  | zero => rfl
  | succ n ih => rw [bin, Nat.zero_div, ih, List.replicate_succ']

theorem bin_short (v k wide : Nat) (h : v / 2 ^ k < 24) : bin (gw v k wide) (gf v k) = List.replicate (v / 2 ^ k) 0 ++ [1] ++ bin k v := by
  obtain ⟨e1, e2⟩ := gf_short (wide := wide) h
  have hm := Nat.mod_lt v (Nat.two_pow_pos k)
  have hd : (2 ^ k + v % 2 ^ k) / 2 ^ k = 1 := by
    rw [Nat.add_comm, Nat.add_div_right _ (Nat.two_pow_pos _), Nat.div_eq_of_lt hm]
  have hb : bin k (2 ^ k + v % 2 ^ k) = bin k v := by
    rw [← bin_mod k (2 ^ k + v % 2 ^ k), Nat.add_mod_left, Nat.mod_mod, bin_mod]
  rw [e1, e2, bin_add, hd, hb, bin]
  simp [bin_zero]

theorem bin_long (v k wide : Nat) (hv : v < 2 ^ wide) (h : ¬ v / 2 ^ k < 24) : bin (gw v k wide) (gf v k) = List.replicate 24 0 ++ bin wide v := by
  obtain ⟨e1, e2⟩ := gf_long (wide := wide) h
  rw [e1, e2, bin_add, Nat.div_eq_of_lt hv, bin_zero]

set_option maxHeartbeats 2000000 in
set_option maxRecDepth 1000000 in
theorem formD_long (v k wide X u : Int) (w : World) (k0 : 0 ≤ k) (k1 : k ≤ 15) (w0 : 1 ≤ wide) (w1 : wide ≤ 16) (v0 : 0 ≤ v) (v1 : v < 65536) (hX : X = ((2 ^ k.toNat : Nat) : Int)) (hX1 : 1 ≤ X) (hu : v / X = u) (u1 : 24 ≤ u) :
    Calls Tryd.prog 64 #[.int .i64 v, .int .i64 k, .int .i64 wide] w fun e w' => ∃ V, e = .returned V ∧ w'.ownsRow 0 5 1 V (24 + wide.toNat) ((List.replicate 24 0 ++ bin wide.toNat v.toNat).map byt) ∧ Kept [] w w' ∧ Lies w (.slice none 0 0) V := by
  obtain ⟨i0, hi, hz0, hz1, hz2⟩ := info_parts Tryd.info5
  have Hp := Hid.mk (fun w => power_any k X w k0 (by omega) hX)
  clear hX
  go_enter Tryd.func64, Tryd.ntmps64
  go_wp2_with (first
    | (go_at_call 63; refine (Hp.out _).mono ?_; rintro e w2 ⟨rfl, rfl⟩)
    | (at_make; refine wpList_make_full _ rfl _ _ 34 rfl 0 5 i0 (.int .u8 0) 1 Tryd.underlying34 hi hz0 hz1 _ _ _ _ 24 rfl rfl (by omega) (by omega) ?b2 ?b3 (by omega) ?_))
  case b2 => rw [hz2]; omega
  case b3 => unfold maxLen; omega
  intro w3 ho3 hg3
  rw [toList_madeCells_one] at ho3
  have hk3 := Kept.of_grown hg3
  have ho3' : w3.ownsRow 0 5 1 (.slice (some ⟨w2.heap.size, 0, none⟩) 24 24) 24 ((List.replicate 24 0).map byt) := by simpa [byt] using ho3
  have HO3 := Hid.mk ho3'
  have HK3 := Hid.mk hk3
  clear ho3 ho3' hg3 hk3
  go_wp2_with fail
  refine (digits_any v wide _ v0 v1 (by omega) (by omega)).mono ?_
  rintro e w4 ⟨U, rfl, ho4, hk4, hl4⟩
  have HO3' := Hid.mk (hk4.row HO3.out (by simp))
  have HO4 := Hid.mk ho4
  have HK4 := Hid.mk (HK3.out.trans hk4)
  clear ho4 hk4 hl4 HO3
  go_wp2_with (at_builtin; refine wpList_app _ rfl _ _ rfl _ _ _ rfl HO3'.out _ _ _ rfl HO4.out (bytes_one _) (by omega) ?_)
  intro v' w5 ho5 hk5 hl5
  have HO5 := Hid.mk ho5
  have HK5 : Hid (Kept [] w2 w5) := HK4.out.step hk5 (by simp [Value.ownBlock])
  have HL5 : Hid (Lies w2 (.slice none 0 0) v') := by
    rcases hl5 with h | ⟨g, hg, h⟩
    · exact .inr ⟨w2.heap.size, by rw [h]; rfl, Nat.le_refl _⟩
    · exact .inr ⟨g, hg, Nat.le_trans HK4.out.size h⟩
  clear ho5 hk5 hl5
  go_wp2
  go_ret
  refine ⟨_, rfl, ?_, HK5.out, HL5.out⟩
  exact HO5.out

set_option maxHeartbeats 2000000 in
set_option maxRecDepth 1000000 in
theorem formD_short (v k wide X u : Int) (w : World) (k0 : 0 ≤ k) (k1 : k ≤ 15) (v0 : 0 ≤ v) (v1 : v < 65536) (hX : X = ((2 ^ k.toNat : Nat) : Int)) (hX1 : 1 ≤ X) (hu : v / X = u) (u0 : 0 ≤ u) (u1 : u < 24) :
    Calls Tryd.prog 64 #[.int .i64 v, .int .i64 k, .int .i64 wide] w fun e w' => ∃ V, e = .returned V ∧ w'.ownsRow 0 5 1 V (u.toNat + 1 + k.toNat) ((List.replicate u.toNat 0 ++ [1] ++ bin k.toNat v.toNat).map byt) ∧ Kept [] w w' ∧ Lies w (.slice none 0 0) V := by
  obtain ⟨i0, hi, hz0, hz1, hz2⟩ := info_parts Tryd.info5
  have Hp := Hid.mk (fun w => power_any k X w k0 (by omega) hX)
  clear hX
  go_enter Tryd.func64, Tryd.ntmps64
  go_wp2_with (first
    | (go_at_call 63; refine (Hp.out _).mono ?_; rintro e w2 ⟨rfl, rfl⟩)
    | (at_make; refine wpList_make_full _ rfl _ _ 34 rfl 0 5 i0 (.int .u8 0) 1 Tryd.underlying34 hi hz0 hz1 _ _ _ _ u.toNat rfl rfl (by omega) (by omega) ?b2 ?b3 (by omega) ?_))
  case b2 => rw [hz2]; omega
  case b3 => unfold maxLen; omega
  intro w3 ho3 hg3
  rw [toList_madeCells_one] at ho3
  have hk3 := Kept.of_grown hg3
  have ho3' : w3.ownsRow 0 5 1 (.slice (some ⟨w2.heap.size, 0, none⟩) u.toNat u.toNat) u.toNat ((List.replicate u.toNat 0).map byt) := by simpa [byt] using ho3
  have HO3 := Hid.mk ho3'
  have HK3 := Hid.mk hk3
  clear ho3 ho3' hg3 hk3
  go_wp2_with (at_builtin; refine wpList_app _ rfl _ _ rfl _ _ _ rfl (HO3.out.alloc _) _ 1 _ rfl (World.ownsRow_lit w3 #[.int .u8 1] 1 (Nat.zero_le _) (by decide) rfl) (by intro u hu; simp at hu; subst hu; rfl) (by omega) ?_)
  intro v' w5 ho5 hk5 hl5
  have HO5 := Hid.mk ho5
  have HK5 : Hid (Kept [] w2 w5) := (HK3.out.alloc _).step hk5 (by simp [Value.ownBlock])
  have HL5 : Hid (Lies w2 (.slice none 0 0) v') := by
    rcases hl5 with h | ⟨g, hg, h⟩
    · exact .inr ⟨w2.heap.size, by rw [h]; rfl, Nat.le_refl _⟩
    · exact .inr ⟨g, hg, Nat.le_trans (HK3.out.alloc _).size h⟩
  clear ho5 hk5 hl5 HO3
  go_wp2_with fail
  refine (digits_any v k _ v0 v1 (by omega) (by omega)).mono ?_
  rintro e w6 ⟨U, rfl, ho6, hk6, hl6⟩
  have HO5' := Hid.mk (hk6.row HO5.out (by simp))
  have HO6 := Hid.mk ho6
  have HK6 := Hid.mk (HK5.out.trans hk6)
  clear ho6 hk6 hl6 HO5
  go_wp2_with (at_builtin; refine wpList_app _ rfl _ _ rfl _ _ _ rfl HO5'.out _ _ _ rfl HO6.out (bytes_one _) (by omega) ?_)
  intro v7 w7 ho7 hk7 hl7
  have HO7 := Hid.mk ho7
  have HK7 : Hid (Kept [] w2 w7) := HK6.out.step hk7 (fun x hx => by
    rcases HL5.out.mem x hx with h | h
    · simp [Value.ownBlock] at h
    · exact .inr h)
  have HL7 : Hid (Lies w2 (.slice none 0 0) v7) := HL5.out.trans hl7 HK6.out.size
  clear ho7 hk7 hl7
  go_wp2
  go_ret
  refine ⟨_, rfl, ?_, HK7.out, HL7.out⟩
  have h := HO7.out
  simpa [byt] using h

/-- The document's form. -/
theorem formD_any (v k wide : Int) (w : World) (k0 : 0 ≤ k) (k1 : k ≤ 15) (w0 : 1 ≤ wide) (w1 : wide ≤ 16) (v0 : 0 ≤ v) (hv : v.toNat < 2 ^ wide.toNat) :
    Calls Tryd.prog 64 #[.int .i64 v, .int .i64 k, .int .i64 wide] w fun e w' => ∃ V, e = .returned V ∧ w'.ownsRow 0 5 1 V (gw v.toNat k.toNat wide.toNat) ((bin (gw v.toNat k.toNat wide.toNat) (gf v.toNat k.toNat)).map byt) ∧ Kept [] w w' ∧ Lies w (.slice none 0 0) V := by
  have h16 := pow16 wide w1
  have hp := Nat.two_pow_pos k.toNat
  have hdiv : v / ((2 ^ k.toNat : Nat) : Int) = ((v.toNat / 2 ^ k.toNat : Nat) : Int) := by
    obtain ⟨x, rfl⟩ := Int.eq_ofNat_of_zero_le v0
    rw [Int.toNat_natCast, Int.natCast_ediv]
  by_cases hs : v.toNat / 2 ^ k.toNat < 24
  · rw [bin_short _ _ _ hs, (gf_short (wide := wide.toNat) hs).1]
    generalize v.toNat / 2 ^ k.toNat = q at *
    have h := formD_short v k wide _ (q : Int) w k0 k1 v0 (by omega) rfl (by omega) hdiv (by omega) (by omega)
    rw [Int.toNat_natCast] at h
    exact h
  · rw [bin_long _ _ _ hv hs, (gf_long (wide := wide.toNat) hs).1]
    generalize v.toNat / 2 ^ k.toNat = q at *
    exact formD_long v k wide _ (q : Int) w k0 k1 w0 w1 v0 (by omega) rfl (by omega) hdiv (by omega)
end Go.Proofs.YthhcihcgefeblaaDoor
