import Derived.Test.YtodlkpcbkilglaaDoorB3
namespace Go.Proofs.YtodlkpcbkilglaaDoor
open Go.RowKit

set_option maxHeartbeats 8000000 in
set_option maxRecDepth 1000000 in
theorem rsame_eq (W H D : Int) (A : Bool) (po qo : Option Addr) (n c d : Nat) (ln lm : Nat → Nat) (F G : Nat → Nat → Nat) (w : World) (hr : Pl w po n ln F) (hs : Pl w qo n lm G) (hn : n ≤ 9223372036854775807) (hln : ∀ i, i < n → ln i ≤ 9223372036854775807) (hlm : ∀ i, i < n → lm i ≤ 9223372036854775807) :
    Calls Tryd.prog 26 #[frv W H D A po n c, frv W H D A qo n d] w fun e w' => e = .returned (.bool (alF F G n ln lm)) ∧ Kept [] w w' := by
  have Hr := Hid.mk hr
  have Hs := Hid.mk hs
  have Hln := Hid.mk hln
  have Hlm := Hid.mk hlm
  clear hr hs hln hlm
  have ha : (A == A) = true := by cases A <;> rfl
  have h1 := heap_alloc_new w (.cells #[.int .i64 W, .int .i64 H, .int .i64 D, .bool A, .slice po n c] 31)
  have k1 := alloc_kept w (.cells #[.int .i64 W, .int .i64 H, .int .i64 D, .bool A, .slice po n c] 31)
  have h2 := heap_alloc_new (w.alloc (.cells #[.int .i64 W, .int .i64 H, .int .i64 D, .bool A, .slice po n c] 31)) (.cells #[.int .i64 W, .int .i64 H, .int .i64 D, .bool A, .slice qo n d] 31)
  have k2 := alloc_kept (w.alloc (.cells #[.int .i64 W, .int .i64 H, .int .i64 D, .bool A, .slice po n c] 31)) (.cells #[.int .i64 W, .int .i64 H, .int .i64 D, .bool A, .slice qo n d] 31)
  rw [World.size_alloc] at h2
  have hh1 := k2.heap h1 (by simp)
  have K1 := Hid.mk (k1.trans k2)
  have P1 := Hid.mk (And.intro hh1 h2)
  clear h1 k1 h2 k2 hh1
  go_enter Tryd.func26, Tryd.ntmps26
  go_wp2
  obtain ⟨w1, ew1⟩ : ∃ w1, w1 = (w.alloc (.cells #[.int .i64 W, .int .i64 H, .int .i64 D, .bool A, .slice po n c] 31)).alloc (.cells #[.int .i64 W, .int .i64 H, .int .i64 D, .bool A, .slice qo n d] 31) := ⟨_, rfl⟩
  rw [← ew1] at P1 K1 ⊢
  obtain ⟨FB, eFB⟩ : ∃ FB, FB = w.heap.size := ⟨_, rfl⟩
  obtain ⟨BB, eBB⟩ : ∃ BB, BB = w.heap.size + 1 := ⟨_, rfl⟩
  rw [← eBB, ← eFB] at P1 ⊢
  clear ew1 eFB eBB
  go_loopw [5] (fun i wr => ∃ k : Nat, k ≤ n ∧ i = .int .i64 (k : Int) ∧ (∀ j, j < k → eqL (F j) (G j) (ln j) (lm j) = true) ∧ Kept [] w1 wr) (fun i _ => n - (intOf i).toNat)
  case atStart => exact ⟨0, by omega, rfl, fun j hj => by omega, Kept.refl _ _⟩
  case round =>
    obtain ⟨k, hk, rfl, hall, hkr⟩ := hrel
    have Hall := Hid.mk hall
    have Hkr := Hid.mk hkr
    obtain ⟨⟨_, _, _, _, f4⟩, _⟩ := five (hkr.heap P1.out.1 (by simp))
    obtain ⟨⟨_, _, _, _, b4⟩, _⟩ := five (hkr.heap P1.out.2 (by simp))
    clear hall
    by_cases hlt : k < n
    · obtain ⟨g1, o1, ro, c1, rfl, z1, r1⟩ := (Hr.out.keep (K1.out.trans hkr)).at hlt
      obtain ⟨g2, o2, so, c2, rfl, z2, r2⟩ := (Hs.out.keep (K1.out.trans hkr)).at hlt
      have ix : (k : Int) < (n : Int) := by omega
      have hb1 := Hln.out k hlt
      have hb2 := Hlm.out k hlt
      have HRR := Hid.mk (And.intro r1 r2)
      have HN := Hid.mk (fun h => alF_no (F := F) (G := G) (ln := ln) (lm := lm) hlt h)
      have HY : Hid (eqL (F k) (G k) (ln k) (lm k) = true → ∀ j, j < k + 1 → eqL (F j) (G j) (ln j) (lm j) = true) := Hid.mk (fun h j hj => by
        by_cases e : j = k
        · subst e; exact h
        · exact Hall.out j (by omega))
      obtain ⟨x1, ex1⟩ : ∃ x, x = ln k := ⟨_, rfl⟩
      obtain ⟨x2, ex2⟩ : ∃ x, x = lm k := ⟨_, rfl⟩
      obtain ⟨f, ef⟩ : ∃ f, f = F k := ⟨_, rfl⟩
      obtain ⟨f', ef'⟩ : ∃ f', f' = G k := ⟨_, rfl⟩
      rw [← ex1] at z1 HRR HN HY hb1
      rw [← ex2] at z2 HRR HN HY hb2
      rw [← ef, ← ef'] at HRR HN HY
      clear ex1 ex2 ef ef' hkr r1 r2
      by_cases hxx : x1 = x2
      · subst hxx
        go_wp2
        go_quiet (fail)
        have Hk2 : Hid (Kept [] wr (wr.drewN nq)) := Hid.mk ((Kept.refl [] wr).drewN nq)
        have f4' := cell_keep Hk2.out f4 (by simp)
        have b4' := cell_keep Hk2.out b4 (by simp)
        have z1' := cell_keep Hk2.out z1 (by simp)
        have z2' := cell_keep Hk2.out z2 (by simp)
        obtain ⟨wr2, ewr2⟩ : ∃ wr2, wr2 = wr.drewN nq := ⟨_, rfl⟩
        rw [← ewr2] at Hk2 f4' b4' z1' z2' ⊢
        clear ewr2 f4 b4 z1 z2
        go_wp2
        go_loopw [6] (fun i wq => ∃ t : Nat, t ≤ x1 ∧ i = .int .i64 (t : Int) ∧ (∀ j, j < t → f j = f' j) ∧ Kept [] wr2 wq) (fun i _ => x1 - (intOf i).toNat)
        case atStart => exact ⟨0, by omega, rfl, fun j hj => by omega, Kept.refl _ _⟩
        case round =>
          obtain ⟨t, ht, rfl, heq, hkq⟩ := hrel
          have Heq := Hid.mk heq
          have Hkq := Hid.mk hkq
          have zf := cell_keep hkq f4' (by simp)
          have zb := cell_keep hkq b4' (by simp)
          have zc := cell_keep hkq z1' (by simp)
          have zd := cell_keep hkq z2' (by simp)
          clear heq
          by_cases htl : t < x1
          · obtain ⟨a1, q1, rfl, hf⟩ := (HRR.out.1.keep (Hk2.out.trans hkq)).at htl
            obtain ⟨a2, q2, rfl, hg⟩ := (HRR.out.2.keep (Hk2.out.trans hkq)).at htl
            have jx : (t : Int) < (x1 : Int) := by omega
            have HE : Hid (f t = f' t → ∀ j, j < t + 1 → f j = f' j) := Hid.mk (fun h j hj => by
              by_cases e : j = t
              · subst e; exact h
              · exact Heq.out j (by omega))
            have HD : Hid (f t ≠ f' t → eqL f f' x1 x1 = false) := Hid.mk (fun h => eqL_no htl h)
            obtain ⟨u, eu⟩ : ∃ u, u = f t := ⟨_, rfl⟩
            obtain ⟨u', eu'⟩ : ∃ u', u' = f' t := ⟨_, rfl⟩
            rw [← eu] at hf HE HD
            rw [← eu'] at hg HE HD
            clear eu eu' hkq
            by_cases hu : u = u'
            · subst hu
              go_wp2
              go_quiet (fail)
              go_wp2
              exact ⟨⟨t + 1, by omega, by go_num, HE.out trivial, Hkq.out.drewN _⟩, by simp [intOf]; omega⟩
            · have hui : ¬ (u : Int) = (u' : Int) := by omega
              have H2 := Hid.mk (HN.out (HD.out hu))
              go_wp2
              go_quiet (fail)
              go_wp2
              go_ret
              exact ⟨ret_bool H2.out.symm, (K1.out.trans Hkr.out).trans (Hk2.out.trans (Hkq.out.drewN _))⟩
          · obtain rfl : x1 = t := by omega
            have H2 := Hid.mk (HY.out (eqL_yes Heq.out))
            clear hkq
            go_wp2
            exact ⟨⟨k + 1, by omega, by go_num, H2.out, Hkr.out.trans (Hk2.out.trans Hkq.out)⟩, by simp [intOf]; omega⟩
      · have hxi : ¬ (x1 : Int) = (x2 : Int) := by omega
        have H2 := Hid.mk (HN.out (eqL_len hxx))
        go_wp2
        go_quiet (fail)
        go_wp2
        go_ret
        exact ⟨ret_bool H2.out.symm, (K1.out.trans Hkr.out).drewN _⟩
    · obtain rfl : n = k := by omega
      have H2 := Hid.mk (alF_yes Hall.out)
      clear hkr
      go_wp2
      go_ret
      exact ⟨ret_bool H2.out.symm, K1.out.trans Hkr.out⟩
end Go.Proofs.YtodlkpcbkilglaaDoor
