import Derived.Test.YtgjjnkhkjnkahaaDoorMb
namespace Go.Proofs.YtgjjnkhkjnkahaaDoor
open Go.RowKit

set_option maxHeartbeats 16000000 in
set_option maxRecDepth 1000000 in
theorem rmix_no (W H D : Int) (A : Bool) (po : Option Addr) (n c : Nat) (ln : Nat → Nat) (F : Nat → Nat → Nat) (W2 H2 D2 : Int) (A2 : Bool) (po2 : Option Addr) (n2 c2 : Nat) (ln2 : Nat → Nat) (G : Nat → Nat → Nat) (p o : Int) (w : World)
    (hr : Pl w po n ln F) (hn : n ≤ 9223372036854775807) (hln : ∀ i, i < n → ln i ≤ 9223372036854775807) (hr2 : Pl w po2 n2 ln2 G) (hn2 : n2 ≤ 9223372036854775807) (hln2 : ∀ i, i < n2 → ln2 i ≤ 9223372036854775807) (hF : ∀ i, i < n → ∀ j, j < ln i → F i j < 65536) (hG : ∀ i, i < n2 → ∀ j, j < ln2 i → G i j < 65536) (hE : mixE W H D A n ln F W2 H2 D2 A2 n2 ln2 G p o ≠ 0) :
    Calls Tryd.prog 9 #[frv W H D A po n c, frv W2 H2 D2 A2 po2 n2 c2, .int .i64 p, .int .i64 o] w fun e w' => e = .returned (.tuple #[frv 0 0 0 false none 0 0, .int .i64 (mixE W H D A n ln F W2 H2 D2 A2 n2 ln2 G p o)]) ∧ Kept [] w w' := by
  have CV := Hid.mk (fun u (hk : Kept [] w u) => rvalid_any W H D A po n c ln F u (hr.keep hk) hn hln hF)
  have CV2 := Hid.mk (fun u (hk : Kept [] w u) => rvalid_any W2 H2 D2 A2 po2 n2 c2 ln2 G u (hr2.keep hk) hn2 hln2 hG)
  have N := ent555 w (.int .i64 W) (.int .i64 H) (.int .i64 D) (.bool A) (.slice po n c) (.int .i64 W2) (.int .i64 H2) (.int .i64 D2) (.bool A2) (.slice po2 n2 c2) (.int .i64 0) (.int .i64 0) (.int .i64 0) (.bool false) (.slice none 0 0) 29
  obtain ⟨w1, ew1⟩ : ∃ w1, w1 = ((w.alloc (.cells #[.int .i64 W, .int .i64 H, .int .i64 D, .bool A, .slice po n c] 29 (0, 0))).alloc (.cells #[.int .i64 W2, .int .i64 H2, .int .i64 D2, .bool A2, .slice po2 n2 c2] 29 (0, 0))).alloc (.cells #[.int .i64 0, .int .i64 0, .int .i64 0, .bool false, .slice none 0 0] 29 (0, 0)) := ⟨_, rfl⟩
  rw [← ew1] at N
  have HN := Hid.mk N
  have EW := Hid.mk ew1
  obtain ⟨E1, eE1⟩ : ∃ E1, vE W H D A n ln F = E1 := ⟨_, rfl⟩
  obtain ⟨E2, eE2⟩ : ∃ E2, vE W2 H2 D2 A2 n2 ln2 G = E2 := ⟨_, rfl⟩
  unfold mixE at hE ⊢
  rw [eE1] at CV hE ⊢
  rw [eE2] at CV2 hE ⊢
  clear N ew1 hr hn hln hr2 hn2 hln2 eE1 eE2 hF hG
  have FIN : ∀ (E : Int) (u : World), Kept [] w1 u → (∃ u', (((((u.setCell ⟨w.heap.size + 1 + 1, 0, none⟩ (.int .i64 0)).setCell ⟨w.heap.size + 1 + 1, 1, none⟩ (.int .i64 0)).setCell ⟨w.heap.size + 1 + 1, 2, none⟩ (.int .i64 0)).setCell ⟨w.heap.size + 1 + 1, 3, none⟩ (.bool false)).setCell ⟨w.heap.size + 1 + 1, 4, none⟩ (.slice none 0 0)) = u' ∧ u'.heap[w.heap.size + 1 + 1]? = some (.cells #[.int .i64 0, .int .i64 0, .int .i64 0, .bool false, .slice none 0 0] 29 (0, 0)) ∧ Kept [] w u') := fun E u hu => by
    have s5 := set5 (.int .i64 0) (.int .i64 0) (.int .i64 0) (.bool false) (.slice none 0 0) (hu.heap HN.out.2.2.1 (by simp))
    exact ⟨_, rfl, s5.1, (HN.out.2.2.2.trans hu).step s5.2 (fun x hx => by simp at hx; subst hx; exact .inr (by omega))⟩
  have HF := Hid.mk FIN
  clear FIN
  by_cases h0 : o < 1 ∨ 101 < o ∨ p < 0 ∨ o < p
  · rw [if_pos h0]
    clear hE
    obtain ⟨⟨z0, z1, z2, z3, z4⟩, f0, f1, f2, f3, f4⟩ := five HN.out.2.2.1
    by_cases a1 : o < 1
    · clear h0
      go_enter Tryd.func9, Tryd.ntmps9
      go_wp2_with (fail)
      rw [← EW.out]
      refine bodyPost_ret (v := .tuple #[frv 0 0 0 false none 0 0, .int .i64 1]) ?_ rfl ⟨rfl, HN.out.2.2.2⟩
      exact results_two rfl _ _ (w.heap.size + 1 + 1) 29 _ (0, 0) _ _ rfl HN.out.2.2.1 Tryd.underlying29 Tryd.info29 rfl
    · by_cases a2 : 101 < o
      · clear h0
        go_enter Tryd.func9, Tryd.ntmps9
        go_wp2_with (fail)
        rw [← EW.out]
        refine bodyPost_ret (v := .tuple #[frv 0 0 0 false none 0 0, .int .i64 1]) ?_ rfl ⟨rfl, HN.out.2.2.2⟩
        exact results_two rfl _ _ (w.heap.size + 1 + 1) 29 _ (0, 0) _ _ rfl HN.out.2.2.1 Tryd.underlying29 Tryd.info29 rfl
      · by_cases a3 : p < 0
        · clear h0
          go_enter Tryd.func9, Tryd.ntmps9
          go_wp2_with (fail)
          rw [← EW.out]
          refine bodyPost_ret (v := .tuple #[frv 0 0 0 false none 0 0, .int .i64 1]) ?_ rfl ⟨rfl, HN.out.2.2.2⟩
          exact results_two rfl _ _ (w.heap.size + 1 + 1) 29 _ (0, 0) _ _ rfl HN.out.2.2.1 Tryd.underlying29 Tryd.info29 rfl
        · have a4 : o < p := by omega
          clear h0
          go_enter Tryd.func9, Tryd.ntmps9
          go_wp2_with (fail)
          rw [← EW.out]
          refine bodyPost_ret (v := .tuple #[frv 0 0 0 false none 0 0, .int .i64 1]) ?_ rfl ⟨rfl, HN.out.2.2.2⟩
          exact results_two rfl _ _ (w.heap.size + 1 + 1) 29 _ (0, 0) _ _ rfl HN.out.2.2.1 Tryd.underlying29 Tryd.info29 rfl
  · rw [if_neg h0] at hE ⊢
    obtain ⟨b1, b2, b3, b4⟩ : ¬ o < 1 ∧ ¬ 101 < o ∧ ¬ p < 0 ∧ ¬ o < p := by omega
    clear h0
    by_cases e1 : E1 = 0
    · subst e1
      rw [if_neg (by simp)] at hE ⊢
      by_cases e2 : E2 = 0
      · subst e2
        rw [if_neg (by simp)] at hE ⊢
        by_cases e3 : W = W2 ∧ H = H2 ∧ D = D2 ∧ A = A2
        · rw [if_pos e3] at hE; exact absurd rfl hE
        · rw [if_neg e3]
          clear hE
          have E3 := Hid.mk e3
          clear e3
          go_enter Tryd.func9, Tryd.ntmps9
          go_wp2_with (fail)
          rw [← EW.out]
          refine (CV.out _ HN.out.2.2.2).mono ?_
          rintro e w2 ⟨rfl, k2⟩
          obtain ⟨⟨c0, c1, c2', c3, c4⟩, _⟩ := five (k2.heap HN.out.2.1 (by simp))
          have K2 := Hid.mk k2
          clear k2
          go_wp2_with (fail)
          refine (CV2.out _ (HN.out.2.2.2.trans K2.out)).mono ?_
          rintro e w3 ⟨rfl, k3⟩
          have K3 := Hid.mk (K2.out.trans k3)
          obtain ⟨⟨x0, x1, x2, x3, x4⟩, _⟩ := five (K3.out.heap HN.out.1 (by simp))
          obtain ⟨⟨y0, y1, y2, y3, y4⟩, _⟩ := five (K3.out.heap HN.out.2.1 (by simp))
          obtain ⟨⟨z0, z1, z2, z3, z4⟩, f0, f1, f2, f3, f4⟩ := five (K3.out.heap HN.out.2.2.1 (by simp))
          clear k3 c0 c1 c2' c3 c4
          go_wp2_with (fail)
          all_goals first
            | exact absurd ⟨by assumption, by assumption, by assumption, by assumption⟩ E3.out
            | skip
          all_goals
            obtain ⟨u', eu, h1, h2⟩ := HF.out 0 w3 K3.out
            rw [eu]
            refine bodyPost_ret (v := .tuple #[frv 0 0 0 false none 0 0, .int .i64 204]) ?_ rfl ⟨rfl, h2⟩
            exact results_two rfl _ _ (w.heap.size + 1 + 1) 29 _ (0, 0) _ _ rfl h1 Tryd.underlying29 Tryd.info29 rfl
      · rw [if_pos e2]
        have e2' : (E2 != 0) = true := by simpa using e2
        clear hE
        obtain ⟨⟨z0, z1, z2, z3, z4⟩, f0, f1, f2, f3, f4⟩ := five HN.out.2.2.1
        clear z0 z1 z2 z3 z4 f0 f1 f2 f3 f4
        go_enter Tryd.func9, Tryd.ntmps9
        go_wp2_with (fail)
        rw [← EW.out]
        refine (CV.out _ HN.out.2.2.2).mono ?_
        rintro e w2 ⟨rfl, k2⟩
        obtain ⟨⟨c0, c1, c2', c3, c4⟩, _⟩ := five (k2.heap HN.out.2.1 (by simp))
        have K2 := Hid.mk k2
        clear k2
        go_wp2_with (fail)
        refine (CV2.out _ (HN.out.2.2.2.trans K2.out)).mono ?_
        rintro e w3 ⟨rfl, k3⟩
        have K3 := Hid.mk (K2.out.trans k3)
        obtain ⟨⟨z0, z1, z2, z3, z4⟩, f0, f1, f2, f3, f4⟩ := five (K3.out.heap HN.out.2.2.1 (by simp))
        clear k3 c0 c1 c2' c3 c4
        go_wp2_with (fail)
        obtain ⟨u', eu, h1, h2⟩ := HF.out 0 w3 K3.out
        rw [eu]
        refine bodyPost_ret (v := .tuple #[frv 0 0 0 false none 0 0, .int .i64 E2]) ?_ rfl ⟨rfl, h2⟩
        exact results_two rfl _ _ (w.heap.size + 1 + 1) 29 _ (0, 0) _ _ rfl h1 Tryd.underlying29 Tryd.info29 rfl
    · rw [if_pos e1]
      have e1' : (E1 != 0) = true := by simpa using e1
      clear hE
      go_enter Tryd.func9, Tryd.ntmps9
      go_wp2_with (fail)
      rw [← EW.out]
      refine (CV.out _ HN.out.2.2.2).mono ?_
      rintro e w2 ⟨rfl, k2⟩
      obtain ⟨⟨z0, z1, z2, z3, z4⟩, f0, f1, f2, f3, f4⟩ := five (k2.heap HN.out.2.2.1 (by simp))
      have K2 := Hid.mk k2
      clear k2
      go_wp2_with (fail)
      obtain ⟨u', eu, h1, h2⟩ := HF.out 0 w2 K2.out
      rw [eu]
      refine bodyPost_ret (v := .tuple #[frv 0 0 0 false none 0 0, .int .i64 E1]) ?_ rfl ⟨rfl, h2⟩
      exact results_two rfl _ _ (w.heap.size + 1 + 1) 29 _ (0, 0) _ _ rfl h1 Tryd.underlying29 Tryd.info29 rfl
end Go.Proofs.YtgjjnkhkjnkahaaDoor
