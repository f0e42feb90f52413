import Derived.Test.YtmgfapooanpgfaaG6
namespace Go.Proofs.Ytmgfapooanpgfaa
open Go.RowKit

/-- A column cleared, as far as the row k. -/
def ck (X : Nat → Nat → Nat) (c : Nat) (Y : Nat → Nat → Nat) (k : Nat) : Nat → Nat → Nat := fun i j =>
  if i = c then mu (iv (X c c)) (Y c j) else if i < k then Y i j ^^^ mu (X i c) (mu (iv (X c c)) (Y c j)) else Y i j
theorem ck_lo {X Y : Nat → Nat → Nat} (hY : Lo Y) (c k : Nat) : Lo (ck X c Y k) := by
  intro i j
  unfold ck
  split
  · exact mu_lt _ _
  · split
    · exact xor_lt (hY _ _) (mu_lt _ _)
    · exact hY _ _
theorem ck_c (X : Nat → Nat → Nat) (c : Nat) (Y : Nat → Nat → Nat) (k j : Nat) : ck X c Y k c j = mu (iv (X c c)) (Y c j) := if_pos rfl
theorem ck_at (X : Nat → Nat → Nat) (c : Nat) (Y : Nat → Nat → Nat) (k j : Nat) (h : k ≠ c) : ck X c Y k k j = Y k j := by
  unfold ck; rw [if_neg h, if_neg (by omega)]
theorem ck_new (X : Nat → Nat → Nat) (c : Nat) (Y : Nat → Nat → Nat) (k wd : Nat) (h : k ≠ c) : rg (am (X k c) (ck X c Y k k) (ck X c Y k c)) wd = rg (ck X c Y (k + 1) k) wd := by
  apply rg_congr
  intro j _
  unfold am
  rw [ck_at _ _ _ _ _ h, ck_c]
  unfold ck
  rw [if_neg h, if_pos (by omega)]
theorem ck_rest (X : Nat → Nat → Nat) (c : Nat) (Y : Nat → Nat → Nat) (k i j : Nat) (h : i ≠ k) : ck X c Y (k + 1) i j = ck X c Y k i j := by
  unfold ck
  by_cases h1 : i = c
  · rw [if_pos h1, if_pos h1]
  · rw [if_neg h1, if_neg h1]
    by_cases h2 : i < k
    · rw [if_pos (by omega), if_pos h2]
    · rw [if_neg (by omega), if_neg h2]
theorem ck_skip (X : Nat → Nat → Nat) (c : Nat) (Y : Nat → Nat → Nat) : ck X c Y (c + 1) = ck X c Y c := by
  funext i j
  by_cases h : i = c
  · subst h; rw [ck_c, ck_c]
  · exact ck_rest X c Y c i j h

set_option maxHeartbeats 4000000 in
set_option maxRecDepth 1000000 in
theorem clear_any (B gl gr n wr' c cl cr : Nat) (bl br : Nat → Nat) (X Y : Nat → Nat → Nat) (w : World) (h : Tw B w gl gr n bl br n wr' X Y) (hX : Lo X) (hY : Lo Y) (hc : c < n) (hn : n ≤ 256) (hw : wr' ≤ 140737488355328) :
    Calls Try.prog 66 #[.slice (some ⟨gl, 0, none⟩) n cl, .slice (some ⟨gr, 0, none⟩) n cr, .int .i64 (c : Int)] w fun e w' => e = .returned (.tuple #[]) ∧
      Tw B w' gl gr n bl br n wr' (ck X c X n) (ck X c Y n) ∧ Below B w w' := by
  have a1 := h.l.out c hc
  have a2 := (h.l.row c hc).at (j := c) (by rw [rg_length]; exact hc)
  rw [rg_getD _ _ _ hc] at a2
  have hxc := hX c c
  have HX := Hid.mk hX
  have HY := Hid.mk hY
  have ix : (c : Int) < (n : Int) := by omega
  have C0 := Hid.mk (fun w => power_any (X c c) 254 hxc (by decide) w)
  have hs := iv_lt (X c c)
  have Hs : Hid (∃ s, s = iv (X c c)) := Hid.mk ⟨_, rfl⟩
  obtain ⟨s, es⟩ := Hs.out
  rw [show pw (X c c) 254 = iv (X c c) from rfl, ← es] at C0
  rw [← es] at hs
  have Es := Hid.mk es
  have H := Hid.mk h
  obtain ⟨x, ex⟩ : ∃ x, x = X c c := ⟨_, rfl⟩
  rw [← ex] at C0 a2
  clear es Hs h hX hY hxc ex
  go_enter Try.func66, Try.ntmps66
  go_wp2_with (go_at_call 38; refine (C0.out _).mono ?_; rintro e w1 ⟨rfl, hq⟩; have hk1 := Qt.kept hq []; have T1 := Hid.mk (H.out.keep0 hk1); have b1 := T1.out.l.out c hc)
  have sz : B ≤ w.heap.size := Nat.le_trans H.out.b1 (Nat.le_of_lt (H.out.l.glt (by omega)))
  have HB1 := Hid.mk (hk1.below sz (by simp))
  have Sz : Hid (B ≤ w1.heap.size) := Hid.mk (Nat.le_trans sz hk1.size)
  clear a1 a2 b1 sz hk1 hq C0 H
  refine (scale_any (bl c) n n s (X c) hs w1 (T1.out.l.row c hc) (fun j _ => HX.out c j) (by omega)).mono ?_
  rintro e w2 ⟨rfl, hr2, hk2⟩
  have T2 := Hid.mk (T1.out.updL (Z := ck X c X 0) hc hk2 (by rw [rg_congr (q := fun j => mu s (X c j)) (fun j _ => by rw [ck_c, Es.out])]; exact hr2) (fun i _ hn j _ => by unfold ck; rw [if_neg hn, if_neg (by omega)]))
  replace HB1 := Hid.mk (HB1.out.trans (hk2.below Sz.out (fun x hx => by simp at hx; subst hx; exact T1.out.b3 c hc)))
  replace Sz : Hid (B ≤ w2.heap.size) := Hid.mk (Nat.le_trans Sz.out hk2.size)
  have c1 := T2.out.r.out c hc
  clear hr2 hk2 T1
  go_wp2_with (fail)
  refine (scale_any (br c) wr' wr' s (Y c) hs w2 (T2.out.r.row c hc) (fun j _ => HY.out c j) hw).mono ?_
  rintro e w3 ⟨rfl, hr3, hk3⟩
  have T3 := Hid.mk (T2.out.updR (Z := ck X c Y 0) hc hk3 (by rw [rg_congr (q := fun j => mu s (Y c j)) (fun j _ => by rw [ck_c, Es.out])]; exact hr3) (fun i _ hn j _ => by unfold ck; rw [if_neg hn, if_neg (by omega)]))
  replace HB1 := Hid.mk (HB1.out.trans (hk3.below Sz.out (fun x hx => by simp at hx; subst hx; exact T2.out.b4 c hc)))
  replace Sz : Hid (B ≤ w3.heap.size) := Hid.mk (Nat.le_trans Sz.out hk3.size)
  clear hr3 hk3 T2 c1
  go_wp2
  go_loopw [31] (fun i wr => ∃ k : Nat, k ≤ n ∧ i = .int .i64 (k : Int) ∧ Tw B wr gl gr n bl br n wr' (ck X c X k) (ck X c Y k) ∧ Below B w wr ∧ B ≤ wr.heap.size) (fun i _ => n - (intOf i).toNat)
  case atStart => exact ⟨0, by omega, rfl, T3.out, HB1.out, Sz.out⟩
  case round =>
    obtain ⟨k, hk, rfl, ht, hb, hsz⟩ := hrel
    clear T3 HB1 Sz
    by_cases hlt : k < n
    · by_cases hkc : k = c
      · subst hkc
        have T := Hid.mk ht
        have HB := Hid.mk hb
        clear ht hb
        go_wp2
        go_roundw
        case rel => exact ⟨k + 1, by omega, by go_num, by rw [ck_skip, ck_skip]; exact T.out, HB.out, hsz⟩
        case measure => simp [intOf]; omega
      · have e1 := ht.l.out k hlt
        have e2 := ht.l.out c hc
        have e3 := (ht.l.row k hlt).at (j := c) (by rw [rg_length]; exact hc)
        rw [rg_getD _ _ _ hc, ck_at _ _ _ _ _ hkc] at e3
        have hf := HX.out k c
        have D1 : Hid (∀ w4, Tw B w4 gl gr n bl br n wr' (ck X c X k) (ck X c Y k) → Calls Try.prog 71 #[.slice (some ⟨bl k, 0, none⟩) n n, .int .u8 (X k c : Int), .slice (some ⟨bl c, 0, none⟩) n n] w4 fun e w' => e = .returned (.tuple #[]) ∧ Row w' (bl k) (rg (ck X c X (k + 1) k) n) ∧ Kept [bl k] w4 w') := Hid.mk (fun w4 t4 => by
          have := addM_any (bl k) n n (X k c) n (some ⟨bl c, 0, none⟩) (ck X c X k k) (ck X c X k c) hf w4 (t4.l.row k hlt) (fun j _ => ck_lo HX.out c k k j) (fun j _ => ck_lo HX.out c k c j) (t4.l.row c hc).reads (fun _ g off e => by cases e; exact fun e2 => hkc (t4.l.inj c k hc hlt e2).symm) (by omega)
          rwa [ck_new _ _ _ _ _ hkc] at this)
        have D2 : Hid (∀ w4, Tw B w4 gl gr n bl br n wr' (ck X c X (k + 1)) (ck X c Y k) → Calls Try.prog 71 #[.slice (some ⟨br k, 0, none⟩) wr' wr', .int .u8 (X k c : Int), .slice (some ⟨br c, 0, none⟩) wr' wr'] w4 fun e w' => e = .returned (.tuple #[]) ∧ Row w' (br k) (rg (ck X c Y (k + 1) k) wr') ∧ Kept [br k] w4 w') := Hid.mk (fun w4 t4 => by
          have := addM_any (br k) wr' wr' (X k c) wr' (some ⟨br c, 0, none⟩) (ck X c Y k k) (ck X c Y k c) hf w4 (t4.r.row k hlt) (fun j _ => ck_lo HY.out c k k j) (fun j _ => ck_lo HY.out c k c j) (t4.r.row c hc).reads (fun _ g off e => by cases e; exact fun e2 => hkc (t4.r.inj c k hc hlt e2).symm) hw
          rwa [ck_new _ _ _ _ _ hkc] at this)
        have T := Hid.mk ht
        have HB := Hid.mk hb
        have hkc2 : ((k : Int) == (c : Int)) = false := by simp; omega
        have ik : (k : Int) < (n : Int) := by omega
        obtain ⟨f, ef⟩ : ∃ f, f = X k c := ⟨_, rfl⟩
        rw [← ef] at e3 hf D1 D2
        clear ef ht hb
        go_wp2
        go_region_law (first | (go_simp; go_at_call 71; refine (D1.out _ (T.out.keep0 ((Kept.refl [] _).drew))).mono ?_; rintro e w4 ⟨rfl, hr4, hk4⟩))
        all_goals (have T4 := Hid.mk ((T.out.keep0 ((Kept.refl [] _).drew)).updL hlt hk4 hr4 (fun i _ hn j _ => ck_rest X c X k i j hn)))
        all_goals (have g1 := T4.out.r.out k hlt)
        all_goals (have g2 := T4.out.r.out c hc)
        all_goals (have HB4 := Hid.mk (HB.out.trans ((((Kept.refl [] wr).drew).below hsz (by simp)).trans (hk4.below (Nat.le_trans hsz ((Kept.refl [] wr).drew).size) (fun x hx => by simp at hx; subst hx; exact T.out.b3 k hlt)))))
        all_goals (have Sz4 : Hid (B ≤ w4.heap.size) := Hid.mk (Nat.le_trans hsz (Nat.le_trans ((Kept.refl [] wr).drew).size hk4.size)))
        all_goals clear hr4 hk4 D1 e1 e2 e3 T HB
        all_goals go_wp2
        all_goals go_region_law (first | (go_simp; go_at_call 71; refine (D2.out _ (T4.out.keep0 ((Kept.refl [] _).drew))).mono ?_; rintro e w5 ⟨rfl, hr5, hk5⟩))
        all_goals (have T5 := Hid.mk ((T4.out.keep0 ((Kept.refl [] _).drew)).updR hlt hk5 hr5 (fun i _ hn j _ => ck_rest X c Y k i j hn)))
        all_goals (have HB5 := Hid.mk (HB4.out.trans ((((Kept.refl [] w4).drew).below Sz4.out (by simp)).trans (hk5.below (Nat.le_trans Sz4.out ((Kept.refl [] w4).drew).size) (fun x hx => by simp at hx; subst hx; exact T4.out.b4 k hlt)))))
        all_goals (have Sz5 : Hid (B ≤ w5.heap.size) := Hid.mk (Nat.le_trans Sz4.out (Nat.le_trans ((Kept.refl [] w4).drew).size hk5.size)))
        all_goals clear hr5 hk5 D2 g1 g2 T4 HB4 Sz4
        all_goals go_wp2
        all_goals go_roundw
        all_goals first
          | exact ⟨k + 1, by omega, by go_num, T5.out, HB5.out, Sz5.out⟩
          | (simp [intOf]; omega)
    · obtain rfl : k = n := by omega
      have T := Hid.mk ht
      have HB := Hid.mk hb
      clear ht hb
      go_wp2
      go_end0
      exact ⟨rfl, T.out, HB.out⟩
end Go.Proofs.Ytmgfapooanpgfaa
