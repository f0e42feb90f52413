import Derived.Test.YtjnmnkheichflabCh
namespace Go.Proofs.Ytjnmnkheichflab
open Go.RowKit

theorem own_lo3 {w : World} {B n : Nat} {V : Value} {xs : List Value} (h : w.ownsRow B 3 1 V n xs) : ∀ x ∈ V.ownBlock.toList, B ≤ x := by
  intro x hx
  rcases h.2 with ⟨rfl, _⟩ | ⟨g, cap, cur, rfl, hb, _⟩
  · simp [Value.ownBlock] at hx
  · simp [Value.ownBlock] at hx
    subst hx; exact hb

set_option maxHeartbeats 4000000 in
set_option maxRecDepth 1000000 in
theorem chosen_any (ao : Option Addr) (ca m n k : Nat) (zs : List Int) (w : World) (hr : RdI w ao zs) (hm : zs.length = m) (hb : ∀ z ∈ zs, -9223372036854775808 ≤ z ∧ z ≤ 9223372036854775807) (hl : m ≤ 140737488355328) (hkn : k ≤ n) (hn : n ≤ 256) (hn0 : 0 < n) :
    Calls Try.prog 22 #[.slice ao m ca, .int .i64 (n : Int), .int .i64 (k : Int)] w fun e w' => ∃ V cs, e = .returned V ∧ Gi w.heap.size w' V k cs ∧ (∀ i, i < k → cs i < n) ∧ (∀ i j, i < k → j < k → cs i = cs j → i = j) ∧ Kept [] w w' := by
  obtain ⟨i0, hi, hz0, hz1, hz2⟩ := info_parts Try.info3
  have Hr := Hid.mk hr
  have Hm := Hid.mk hm
  have Hb := Hid.mk hb
  clear hr hm hb
  obtain ⟨B, eB⟩ : ∃ B, B = w.heap.size := ⟨_, rfl⟩
  rw [← eB]
  have EB := Hid.mk eB
  clear eB
  go_enter Try.func22, Try.ntmps22
  go_wp2
  go_loopw [7, 8] (fun V s wr => ∃ (t : Nat) (cs : Nat → Nat), t ≤ k ∧ s = .int .i64 (t : Int) ∧ Gi B wr V t cs ∧ (∀ i, i < t → cs i < n) ∧ (∀ i j, i < t → j < t → cs i = cs j → i = j) ∧ Below B w wr ∧ B ≤ wr.heap.size) (fun _ s _ => k - (intOf s).toNat)
  case atStart => exact ⟨0, fun _ => 0, by omega, rfl, ⟨⟨rfl, .inl ⟨rfl, rfl⟩⟩⟩, fun i h => by omega, fun i j h => by omega, Below.refl _ _, by rw [EB.out]; exact Nat.le_refl _⟩
  case round =>
    obtain ⟨t, cs, ht, rfl, hg, hlt, hinj, hbw, hsz⟩ := hrel
    obtain ⟨vo, vc, rfl, hcells⟩ := hg.form
    have HG := Hid.mk hg
    have HL := Hid.mk hlt
    have HI := Hid.mk hinj
    have HB := Hid.mk hbw
    have HS := Hid.mk hsz
    have HC := Hid.mk hcells
    clear hg hlt hinj hbw hsz hcells
    by_cases htk : t < k
    · have C0 := Hid.mk (fun x => taken_any vo vc t x cs wr (by omega) HC.out)
      -- from the start x0 on
      obtain ⟨x0, hx0, hcell⟩ : ∃ x0 : Nat, x0 ≤ 256 ∧ ((t < m ∧ ∃ g off z, ao = some ⟨g, off, none⟩ ∧ wr.cell? ⟨g, off + t, none⟩ = some (.int .i64 z) ∧ -9223372036854775808 ≤ z ∧ z ≤ 9223372036854775807 ∧ pick z (n : Int) = (x0 : Int)) ∨ (¬ t < m ∧ x0 = t)) := by
        by_cases h : t < m
        · obtain ⟨g, off, hao, hc⟩ := (Hr.out.keep (Kept.of_below (by have := HB.out; rw [EB.out] at this; exact this))).cell (i := t) (by have := Hm.out; omega)
          have hz := Hb.out (zs.getD t 0) (by
            have : t < zs.length := by have := Hm.out; omega
            simp [this])
          have p1 := pick_lo (zs.getD t 0) (n : Int) (by omega)
          have p2 := pick_hi (zs.getD t 0) (n : Int) (by omega)
          exact ⟨(pick (zs.getD t 0) (n : Int)).toNat, by omega, .inl ⟨h, g, off, _, hao, hc, hz.1, hz.2, by omega⟩⟩
        · exact ⟨t, by omega, .inr ⟨h, rfl⟩⟩
      rcases hcell with ⟨h1, g, off, z, hao, hc, z1, z2, hp⟩ | ⟨h1, h2⟩
      · subst hao
        have i1 : (t : Int) < (m : Int) := by omega
        have i2 : (t : Int) < (k : Int) := by omega
        have P0 := Hid.mk (fun w => pick_any z (n : Int) w z1 z2 (by omega))
        rw [hp] at P0
        have CC := C0
        clear hp h1 C0
        go_wp2_with (go_at_call 18; refine (P0.out _).mono ?_; rintro e w' ⟨rfl, hw⟩; obtain rfl := hw.symm)
        clear hc P0
        go_loop [9] (fun s => ∃ d : Nat, d ≤ t ∧ s = .int .i64 ((x0 + d : Nat) : Int) ∧ ∀ e, e < d → tk cs ((x0 + e) % n) t = true) (fun s => (x0 + t + 1) - (intOf s).toNat)
        case atStart => exact ⟨0, by omega, rfl, fun e he => by omega⟩
        case round =>
          obtain ⟨d, hd, rfl, hall⟩ := hrel
          have Hall := Hid.mk hall
          clear hall
          obtain ⟨x, ex⟩ : ∃ x, x = x0 + d := ⟨_, rfl⟩
          rw [← ex]
          have hmod : (x : Int).tmod (n : Int) = ((x % n : Nat) : Int) := by rw [Int.tmod_eq_emod_of_nonneg (by omega)]; simp
          have hyn : x % n < n := Nat.mod_lt _ hn0
          have hx2 : x ≤ 512 := by omega
          have hxd : x - x0 = d := by omega
          have CT := Hid.mk (CC.out (x % n))
          have Ex : Hid (x0 + d = x) := Hid.mk ex.symm
          obtain ⟨y, ey⟩ : ∃ y, y = x % n := ⟨_, rfl⟩
          have Ey := Hid.mk ey
          rw [← ey] at hmod hyn CT
          clear ey ex
          cases hb : tk cs y t
          · have Hno := Hid.mk (tk_no hb)
            rw [hb] at CT
            clear hb
            go_wp2_with (first | (go_at_call 44; refine CT.out.mono ?_; rintro e w' ⟨rfl, hw⟩; obtain rfl := hw.symm) | (at_builtin; refine wpList_append_own_at _ rfl _ _ 40 rfl B 3 i0 (.int .i64 0) 1 8 Try.underlying40 hi hz0 hz1 hz2 rfl (by decide) _ t (iv64 cs t) rfl (HG.out.own.alloc _) ⟨wr.heap.size, 0, none⟩ 1 1 [.int .i64 (y : Int)] rfl rfl (cell_one_new _ _ _) ?c2 ?c3 ?c4 ?c5 ?_))
            case c2 => intro u hu; simp at hu; subst hu; rfl
            case c3 => unfold maxLen; omega
            case c4 => omega
            case c5 => rw [World.size_alloc]; have := HS.out; omega
            intro V' w5 ho5 hg5 _ _
            have hk5 : Kept (Value.slice vo t vc).ownBlock.toList wr w5 := ((Kept.refl _ wr).alloc _).step (Kept.of_grown hg5) (fun x hx => .inl hx)
            have G5 : Hid (Gi B w5 V' (t + 1) (nxt cs t y)) := Hid.mk ⟨by rw [← iv64_next]; exact ho5⟩
            have HB5 := Hid.mk (HB.out.trans (hk5.below HS.out (own_lo3 HG.out.own)))
            have HS5 : Hid (B ≤ w5.heap.size) := Hid.mk (Nat.le_trans HS.out hk5.size)
            clear ho5 hg5 hk5 CT
            go_wp2
            go_roundw
            case rel =>
              refine ⟨t + 1, nxt cs t y, by omega, by go_num, G5.out, fun i hi => ?_, fun i j hi hj e => ?_, HB5.out, HS5.out⟩
              · unfold nxt
                by_cases h : i = t
                · rw [if_pos h]; exact hyn
                · rw [if_neg h]; exact HL.out i (by omega)
              · unfold nxt at e
                by_cases h : i = t
                · by_cases h2 : j = t
                  · omega
                  · rw [if_pos h, if_neg h2] at e
                    exact absurd e.symm (Hno.out j (by omega))
                · by_cases h2 : j = t
                  · rw [if_neg h, if_pos h2] at e
                    exact absurd e (Hno.out i (by omega))
                  · rw [if_neg h, if_neg h2] at e
                    exact HI.out i j (by omega) (by omega) e
            case measure => simp [intOf]; omega
          · have Hnew : Hid (d + 1 ≤ t ∧ ∀ e, e < d + 1 → tk cs ((x0 + e) % n) t = true) := Hid.mk (by
              have hall : ∀ e, e < d + 1 → tk cs ((x0 + e) % n) t = true := fun e he => by
                by_cases h : e = d
                · subst h; rw [Ex.out, ← Ey.out]; exact hb
                · exact Hall.out e (by omega)
              exact ⟨steps_le (by omega) hall, hall⟩)
            rw [hb] at CT
            clear hb
            go_wp2_with (go_at_call 44; refine CT.out.mono ?_; rintro e w' ⟨rfl, hw⟩; obtain rfl := hw.symm)
            go_round
            case rel => exact ⟨d + 1, Hnew.out.1, by rw [← Nat.add_assoc, Ex.out]; go_num, Hnew.out.2⟩
            case measure => have := Hnew.out.1; simp [intOf]; omega
      · subst h2
        have i1 : ¬ (x0 : Int) < (m : Int) := by omega
        have i2 : (x0 : Int) < (k : Int) := by omega
        clear h1 hx0
        have CC := C0
        clear C0
        go_wp2_with (fail)
        go_loop [9] (fun s => ∃ d : Nat, d ≤ x0 ∧ s = .int .i64 ((x0 + d : Nat) : Int) ∧ ∀ e, e < d → tk cs ((x0 + e) % n) x0 = true) (fun s => (x0 + x0 + 1) - (intOf s).toNat)
        case atStart => exact ⟨0, by omega, rfl, fun e he => by omega⟩
        case round =>
          obtain ⟨d, hd, rfl, hall⟩ := hrel
          have Hall := Hid.mk hall
          clear hall
          obtain ⟨x, ex⟩ : ∃ x, x = x0 + d := ⟨_, rfl⟩
          rw [← ex]
          have hmod : (x : Int).tmod (n : Int) = ((x % n : Nat) : Int) := by rw [Int.tmod_eq_emod_of_nonneg (by omega)]; simp
          have hyn : x % n < n := Nat.mod_lt _ hn0
          have hx2 : x ≤ 512 := by omega
          have hxd : x - x0 = d := by omega
          have CT := Hid.mk (CC.out (x % n))
          have Ex : Hid (x0 + d = x) := Hid.mk ex.symm
          obtain ⟨y, ey⟩ : ∃ y, y = x % n := ⟨_, rfl⟩
          have Ey := Hid.mk ey
          rw [← ey] at hmod hyn CT
          clear ey ex
          cases hb : tk cs y x0
          · have Hno := Hid.mk (tk_no hb)
            rw [hb] at CT
            clear hb
            go_wp2_with (first | (go_at_call 44; refine CT.out.mono ?_; rintro e w' ⟨rfl, hw⟩; obtain rfl := hw.symm) | (at_builtin; refine wpList_append_own_at _ rfl _ _ 40 rfl B 3 i0 (.int .i64 0) 1 8 Try.underlying40 hi hz0 hz1 hz2 rfl (by decide) _ x0 (iv64 cs x0) rfl (HG.out.own.alloc _) ⟨wr.heap.size, 0, none⟩ 1 1 [.int .i64 (y : Int)] rfl rfl (cell_one_new _ _ _) ?c2 ?c3 ?c4 ?c5 ?_))
            case c2 => intro u hu; simp at hu; subst hu; rfl
            case c3 => unfold maxLen; omega
            case c4 => omega
            case c5 => rw [World.size_alloc]; have := HS.out; omega
            intro V' w5 ho5 hg5 _ _
            have hk5 : Kept (Value.slice vo x0 vc).ownBlock.toList wr w5 := ((Kept.refl _ wr).alloc _).step (Kept.of_grown hg5) (fun x hx => .inl hx)
            have G5 : Hid (Gi B w5 V' (x0 + 1) (nxt cs x0 y)) := Hid.mk ⟨by rw [← iv64_next]; exact ho5⟩
            have HB5 := Hid.mk (HB.out.trans (hk5.below HS.out (own_lo3 HG.out.own)))
            have HS5 : Hid (B ≤ w5.heap.size) := Hid.mk (Nat.le_trans HS.out hk5.size)
            clear ho5 hg5 hk5 CT
            go_wp2
            go_roundw
            case rel =>
              refine ⟨x0 + 1, nxt cs x0 y, by omega, by go_num, G5.out, fun i hi => ?_, fun i j hi hj e => ?_, HB5.out, HS5.out⟩
              · unfold nxt
                by_cases h : i = x0
                · rw [if_pos h]; exact hyn
                · rw [if_neg h]; exact HL.out i (by omega)
              · unfold nxt at e
                by_cases h : i = x0
                · by_cases h2 : j = x0
                  · omega
                  · rw [if_pos h, if_neg h2] at e
                    exact absurd e.symm (Hno.out j (by omega))
                · by_cases h2 : j = x0
                  · rw [if_neg h, if_pos h2] at e
                    exact absurd e (Hno.out i (by omega))
                  · rw [if_neg h, if_neg h2] at e
                    exact HI.out i j (by omega) (by omega) e
            case measure => simp [intOf]; omega
          · have Hnew : Hid (d + 1 ≤ x0 ∧ ∀ e, e < d + 1 → tk cs ((x0 + e) % n) x0 = true) := Hid.mk (by
              have hall : ∀ e, e < d + 1 → tk cs ((x0 + e) % n) x0 = true := fun e he => by
                by_cases h : e = d
                · subst h; rw [Ex.out, ← Ey.out]; exact hb
                · exact Hall.out e (by omega)
              exact ⟨steps_le (by omega) hall, hall⟩)
            rw [hb] at CT
            clear hb
            go_wp2_with (go_at_call 44; refine CT.out.mono ?_; rintro e w' ⟨rfl, hw⟩; obtain rfl := hw.symm)
            go_round
            case rel => exact ⟨d + 1, Hnew.out.1, by rw [← Nat.add_assoc, Ex.out]; go_num, Hnew.out.2⟩
            case measure => have := Hnew.out.1; simp [intOf]; omega
    · obtain rfl : t = k := by omega
      go_wp2
      go_ret
      have hb := HB.out
      rw [EB.out] at hb
      exact ⟨_, cs, rfl, HG.out, HL.out, HI.out, Kept.of_below hb⟩
end Go.Proofs.Ytjnmnkheichflab
