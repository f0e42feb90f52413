import Derived.Test.YthhcihcgefeblaaDoorFs
namespace Go.Proofs.YthhcihcgefeblaaDoor
open Go.RowKit

theorem fby_len (v k wide : Nat) : (fby v k wide).length = (gw v k wide + 7) / 8 := big_length _ _

theorem fby_next (v k wide : Nat) (hv : v < 2 ^ wide) : nextN (fby v k wide) 0 (gw v k wide) = gf v k := by
  have h := next_back (fun _ => gf v k) (fun _ => gw v k wide) 1 0 (by decide) (fun _ _ => gf_lt v k wide hv)
  simpa [AL, AN, fby] using h

/-- Where the bits are the same, the numbers are. -/
theorem next_congr (l m : List Nat) (n : Nat) (hl : n ≤ 8 * l.length) (hm : n ≤ 8 * m.length) (h : ∀ i, i < n → nextN l i 1 = nextN m i 1) : nextN l 0 n = nextN m 0 n := by
  induction n with
  | zero => unfold nextN; rw [Nat.pow_zero, Nat.mod_one, Nat.mod_one]
  | succ n ih =>
    rw [nextN_join l 0 n 1 (by omega), nextN_join m 0 n 1 (by omega), ih (by omega) (by omega) (fun i hi => h i (by omega)), Nat.zero_add, h n (by omega)]

theorem numRes_of {l : List Nat} {t k wide v : Nat} (hv : v < 2 ^ wide) (hl : t + gw v k wide ≤ 8 * l.length) (hn : nextN l t (gw v k wide) = gf v k) : NumRes l t k wide (v : Int) 0 (t + gw v k wide) := by
  by_cases hs : v / 2 ^ k < 24
  · obtain ⟨e1, e2⟩ := gf_short (wide := wide) hs
    rw [e1, e2] at hn
    rw [e1] at hl ⊢
    obtain ⟨z, o, n⟩ := short_next l t (v / 2 ^ k) k (v % 2 ^ k) (by omega) (Nat.mod_lt _ (Nat.two_pow_pos _)) hn
    have hvv : v / 2 ^ k * 2 ^ k + v % 2 ^ k = v := by rw [Nat.mul_comm]; exact Nat.div_add_mod v (2 ^ k)
    refine .inl ⟨v / 2 ^ k, hs, z, o, by omega, by rw [n, hvv]; exact hv, by rw [n, hvv], rfl, by omega⟩
  · obtain ⟨e1, e2⟩ := gf_long (wide := wide) hs
    rw [e1, e2] at hn
    rw [e1] at hl ⊢
    obtain ⟨z, n⟩ := long_next l t wide v (by omega) hv hn
    exact .inr (.inl ⟨z, by omega, by rw [n]; omega, by rw [n], rfl, by omega⟩)

/-- No form is the beginning of another one's. -/
theorem forms_apart (a b k wide n : Nat) (ha : a < 2 ^ wide) (hb : b < 2 ^ wide) (hn : n = gw a k wide) (hle : n ≤ gw b k wide) (h : (fch a k wide (gw a k wide)).take n = (fch b k wide (gw b k wide)).take n) : a = b := by
  have hla := fby_len a k wide
  have hlb := fby_len b k wide
  have hbit : ∀ i, i < n → nextN (fby a k wide) i 1 = nextN (fby b k wide) i 1 := fun i hi => by
    have h1 := congrArg (fun l => l[i]?) h
    simp only [fch, List.getElem?_take, List.getElem?_map, hi, if_true] at h1
    rw [List.getElem?_range (by omega), List.getElem?_range (by omega)] at h1
    simp at h1
    exact h1
  have h2 := next_congr (fby a k wide) (fby b k wide) n (by omega) (by omega) hbit
  rw [hn, fby_next a k wide ha] at h2
  have hres := numRes_of (l := fby b k wide) (t := 0) (k := k) hb (by omega) (fby_next b k wide hb)
  have h3 := numRes_form (v := a) hres ha (by omega) h2.symm
  omega

theorem fch_ne (a b k wide n : Nat) (ha : a < 2 ^ wide) (hb : b < 2 ^ wide) (hab : a ≠ b) (hn : n = min (gw a k wide) (gw b k wide)) : (fch a k wide (gw a k wide)).take n ≠ (fch b k wide (gw b k wide)).take n := by
  intro h
  rcases Nat.le_total (gw a k wide) (gw b k wide) with hle | hle
  · exact hab (forms_apart a b k wide n ha hb (by omega) (by omega) h)
  · exact hab (forms_apart b a k wide n hb ha (by omega) (by omega) h.symm).symm

/-- The lesser number never takes more bits, as long as both are short. -/
theorem gw_mono (a b k wide : Nat) (h : a ≤ b) (hb : b / 2 ^ k < 24) : gw a k wide ≤ gw b k wide := by
  have h1 : a / 2 ^ k ≤ b / 2 ^ k := Nat.div_le_div_right h
  rw [(gf_short (wide := wide) hb).1, (gf_short (wide := wide) (show a / 2 ^ k < 24 by omega)).1]
  omega

theorem bstr_size (l : List Nat) : (bstr l).size = l.length := by
  unfold bstr
  simp [strOfNums, ByteArray.size]

theorem bstr_take (l : List Nat) (m : Nat) : ((bstr l).extract 0 m).toList = (l.take m).map fun b => UInt8.ofNat b := by
  have h : (bstr l).extract 0 m = ByteArray.mk ((l.take m).map fun b => UInt8.ofNat b).toArray := by
    apply ByteArray.ext
    apply Array.ext'
    rw [Lib.extract_data]
    simp [bstr, strOfNums, List.map_take]
    rfl
  rw [h, ByteArray.toList_mk]

theorem map_u8_inj (l m : List Nat) (hl : ∀ x ∈ l, x < 256) (hm : ∀ x ∈ m, x < 256) (h : l.map (fun b => UInt8.ofNat b) = m.map (fun b => UInt8.ofNat b)) : l = m := by
  have h2 := congrArg (List.map UInt8.toNat) h
  simp only [List.map_map] at h2
  have e : ∀ l : List Nat, (∀ x ∈ l, x < 256) → l.map (UInt8.toNat ∘ fun b => UInt8.ofNat b) = l := fun l hl => by
    conv => rhs; rw [← List.map_id l]
    apply List.map_congr_left
    intro x hx
    have := hl x hx
    simp; omega
  rw [e l hl, e m hm] at h2
  exact h2

theorem fch_lt (v k wide j : Nat) : ∀ x ∈ fch v k wide j, x < 256 := by
  intro x hx
  simp only [fch, List.mem_map] at hx
  obtain ⟨i, _, rfl⟩ := hx
  have := bit_lt (fby v k wide) i
  omega

theorem str_ne (a b k wide n : Nat) (ha : a < 2 ^ wide) (hb : b < 2 ^ wide) (hab : a ≠ b) (hn : n = min (gw a k wide) (gw b k wide)) :
    (((bstr (fch a k wide (gw a k wide))).extract 0 n).toList == ((bstr (fch b k wide (gw b k wide))).extract 0 n).toList) = false := by
  rw [beq_eq_false_iff_ne, bstr_take, bstr_take]
  intro h
  exact fch_ne a b k wide n ha hb hab hn (map_u8_inj _ _ (fun x hx => fch_lt _ _ _ _ x (List.mem_of_mem_take hx)) (fun x hx => fch_lt _ _ _ _ x (List.mem_of_mem_take hx)) h)

set_option maxHeartbeats 4000000 in
set_option maxRecDepth 1000000 in
theorem apart_any (V K W V2 K2 W2 : Int) (w : World) (hT : Tab w) (v0 : -9223372036854775808 ≤ V) (v1 : V ≤ 9223372036854775807) (k0 : -9223372036854775808 ≤ K) (k1 : K ≤ 9223372036854775807) (w0 : -9223372036854775808 ≤ W) (w1 : W ≤ 9223372036854775807)
    (u0 : -9223372036854775808 ≤ V2) (u1 : V2 ≤ 9223372036854775807) :
    Calls Tryd.prog 6 #[.agg #[.int .i64 V, .int .i64 K, .int .i64 W], .agg #[.int .i64 V2, .int .i64 K2, .int .i64 W2]] w fun e w' => e = .returned (.bool true) ∧ Kept [] w w' := by
  have HT := Hid.mk hT
  have Hof := Hid.mk (fun w => of_any V K W w v0 v1 k0 k1 w0 w1)
  have a0 := vv_lo V W
  have Ha := Hid.mk (vv_hi V W)
  have q0 := kk_lo K
  have q1 := kk_hi K
  have d0 := wd_lo W
  have d1 := wd_hi W
  have h16 := pow16 (wd W) d1
  have hpos := Nat.two_pow_pos (wd W).toNat
  have b0 : 0 ≤ pick V2 ((2 ^ (wd W).toNat : Nat) : Int) := pick_lo V2 _ (Int.natCast_pos.2 hpos)
  have b1 : (pick V2 ((2 ^ (wd W).toNat : Nat) : Int)).toNat < 2 ^ (wd W).toNat := by
    have := pick_hi V2 ((2 ^ (wd W).toNat : Nat) : Int) (Int.natCast_pos.2 hpos)
    omega
  have hD : 0 < IntKind.i64.wrap (2 ^ (wd W).toNat) := by rw [wrap_wd W]; exact Int.natCast_pos.2 hpos
  have hpb : pick V2 (IntKind.i64.wrap (2 ^ (wd W).toNat)) = pick V2 ((2 ^ (wd W).toNat : Nat) : Int) := by rw [wrap_wd W]
  generalize vv V W = a at *
  generalize kk K = k at *
  generalize wd W = d at *
  generalize pick V2 ((2 ^ d.toNat : Nat) : Int) = b at *
  have Hb := Hid.mk b1
  have Hpb := Hid.mk hpb
  have Hfa := Hid.mk (fun w => formStr_any a k d w q0 q1 d0 d1 a0 Ha.out)
  have Hfb := Hid.mk (fun w => formStr_any b k d w q0 q1 d0 d1 b0 Hb.out)
  clear hT h16 hpos b1 hpb
  go_enter Tryd.func6, Tryd.ntmps6
  go_wp2_with fail
  have hk0 : Kept [] w ((w.alloc (.cells #[.int .i64 V, .int .i64 K, .int .i64 W] 49)).alloc (.cells #[.int .i64 V2, .int .i64 K2, .int .i64 W2] 49)) := ((Kept.refl _ _).alloc _).alloc _
  have hA : ((w.alloc (.cells #[.int .i64 V, .int .i64 K, .int .i64 W] 49)).alloc (.cells #[.int .i64 V2, .int .i64 K2, .int .i64 W2] 49)).heap[w.heap.size]? = some (.cells #[.int .i64 V, .int .i64 K, .int .i64 W] 49 (0, 0)) := (two_new w _ _ _ _).1
  have hA2 : ((w.alloc (.cells #[.int .i64 V, .int .i64 K, .int .i64 W] 49)).alloc (.cells #[.int .i64 V2, .int .i64 K2, .int .i64 W2] 49)).heap[w.heap.size + 1]? = some (.cells #[.int .i64 V2, .int .i64 K2, .int .i64 W2] 49 (0, 0)) := (two_new w _ _ _ _).2
  generalize (w.alloc (.cells #[.int .i64 V, .int .i64 K, .int .i64 W] 49)).alloc (.cells #[.int .i64 V2, .int .i64 K2, .int .i64 W2] 49) = W0 at *
  generalize w.heap.size = A at *
  refine (awake_any _ (HT.out.kept hk0 (by simp))).mono ?_
  rintro e w1 ⟨rfl, hk1⟩
  have hB := hk1.heap hA (by simp)
  have hB2 := hk1.heap hA2 (by simp)
  have HK1 := Hid.mk (hk0.trans hk1)
  have HB2 := Hid.mk hB2
  obtain ⟨c0, c1, c2, _⟩ := cells_three hB
  clear hk0 hk1 hA hA2 hB hB2
  go_wp2_with fail
  refine (Hof.out _).mono ?_
  rintro e w2 ⟨rfl, hk2⟩
  have hB2 := hk2.heap HB2.out (by simp)
  obtain ⟨e0, e1, e2, _⟩ := cells_three hB2
  have HK2 := Hid.mk (HK1.out.trans hk2)
  clear hk2 hB2 HB2 HK1 c0 c1 c2
  go_wp2_with fail
  go_cut [9] (fun s9 wc => s9 = .int .i64 b ∧ ∃ x, wc = w2.drewN x)
  case first =>
    go_quiet ((go_at_call 15; refine Calls.quiet_of_same (pick_any _ _ _ ?_ ?_ ?_); assumption; assumption; assumption))
    go_wp2
    all_goals go_meet
    all_goals exact ⟨by rw [Hpb.out], _, rfl⟩
  case rest =>
    obtain ⟨rfl, x3, rfl⟩ := hcut
    clear e0 e1 e2
    go_wp2_with fail
    refine (Hfa.out _).mono ?_
    rintro e w4 ⟨rfl, hk4⟩
    have HK4 := Hid.mk ((HK2.out.drewN x3).trans hk4)
    clear hk4 HK2
    go_wp2_with fail
    refine (Hfb.out _).mono ?_
    rintro e w5 ⟨rfl, hk5⟩
    have HK5 := Hid.mk (HK4.out.trans hk5)
    clear hk5 HK4
    obtain ⟨sa, hsa⟩ : ∃ sa, sa = bstr (fch a.toNat k.toNat d.toNat (gw a.toNat k.toNat d.toNat)) := ⟨_, rfl⟩
    obtain ⟨sb, hsb⟩ : ∃ sb, sb = bstr (fch b.toNat k.toNat d.toNat (gw b.toNat k.toNat d.toNat)) := ⟨_, rfl⟩
    have Hab : Hid (a = b → sa = sb) := fun h => by rw [hsa, hsb, h]
    have Hsa := Hid.mk hsa
    have Hsb := Hid.mk hsb
    rw [← hsa, ← hsb]
    clear hsa hsb
    by_cases hab : a = b
    · have hss := Hab.out hab
      go_wp2_with fail
      go_ret
      exact ⟨ret_bool (by simp), HK5.out⟩
    · have c1 := gw_le a.toNat k.toNat d.toNat (by omega) (by omega)
      have c2 := gw_le b.toNat k.toNat d.toNat (by omega) (by omega)
      have sza : sa.size = gw a.toNat k.toNat d.toNat := by rw [Hsa.out, bstr_size, fch_length]
      have szb : sb.size = gw b.toNat k.toNat d.toNat := by rw [Hsb.out, bstr_size, fch_length]
      obtain ⟨m, hm⟩ : ∃ m : Nat, min (sa.size : Int) (sb.size : Int) = (m : Int) := ⟨min sa.size sb.size, by omega⟩
      have m1 : m ≤ sa.size := by omega
      have m2 : m ≤ sb.size := by omega
      have Hne : Hid (((sa.extract 0 m).toList == (sb.extract 0 m).toList) = false) := by
        rw [Hsa.out, Hsb.out]
        exact str_ne _ _ _ _ m Ha.out Hb.out (by omega) (by omega)
      have Hfin : Hid ((decide (b < a) || decide (24 ≤ b / 2 ^ k.toNat) || decide (sa.size ≤ sb.size)) = true) := by
        have hdiv : b / 2 ^ k.toNat = ((b.toNat / 2 ^ k.toNat : Nat) : Int) := by
          obtain ⟨x, rfl⟩ := Int.eq_ofNat_of_zero_le b0
          rw [pow_two_int, Int.toNat_natCast, Int.natCast_ediv]
        have hmono := gw_mono a.toNat b.toNat k.toNat d.toNat
        generalize b.toNat / 2 ^ k.toNat = u at hdiv hmono
        show _ = true
        rw [hdiv]
        by_cases h1 : b < a
        · simp [h1]
        · by_cases h2 : 24 ≤ (u : Int)
          · simp [h2]
          · have := hmono (by omega) (by omega)
            have h3 : sa.size ≤ sb.size := by omega
            simp [h3]
      clear c1 c2 sza szb
      go_wp2_with fail
      go_cut [68] (fun s wc => s = .bool false ∧ ∃ x, wc = w5.drewN x)
      case first =>
        go_quiet (fail)
        go_wp2
        all_goals go_meet
        all_goals exact ⟨by rw [Hne.out], _, rfl⟩
      case rest =>
        obtain ⟨rfl, x6, rfl⟩ := hcut
        go_wp2
        all_goals go_ret
        all_goals first
          | exact ⟨rfl, HK5.out.drewN x6⟩
          | exact ⟨ret_bool Hfin.out, HK5.out.drewN x6⟩
end Go.Proofs.YthhcihcgefeblaaDoor
