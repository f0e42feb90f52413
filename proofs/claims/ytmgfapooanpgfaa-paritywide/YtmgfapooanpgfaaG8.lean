import Derived.Test.YtmgfapooanpgfaaG7
import Derived.Test.YtmgfapooanpgfaaN2b
import Derived.WalkMore
import Derived.Deep.LoopGhost
namespace Go.Proofs.Ytmgfapooanpgfaa
open Go.RowKit

/-- Whether rows may be solved. -/
def ssh (L K : List (List Nat)) : Bool := decide (L.length ≤ 256) && al L L.length && decide (K.length = L.length) && al K (rl K)

theorem ck_st (X : Nat → Nat → Nat) (c r : Nat) (Y : Nat → Nat → Nat) (n i j : Nat) (hi : i < n) : st X c r Y i j = ck (fun i => X (sw c r i)) c (fun i => Y (sw c r i)) n i j := by
  unfold st ck
  simp only [sw_left, hi, if_true]

set_option maxHeartbeats 2000000 in
set_option maxRecDepth 1000000 in
theorem solve_no (ao bo : Option Addr) (ca cb nL nK : Nat) (L K : List (List Nat)) (w : World) (hL : MR w ao L) (hK : MR w bo K) (hl : L.length = nL) (hk : K.length = nK) (h1 : nL ≤ 140737488355328) (h2 : nK ≤ 140737488355328) (hs : ssh L K = false) :
    Calls Try.prog 53 #[.slice ao nL ca, .slice bo nK cb] w fun e w' => e = .returned (.tuple #[.slice none 0 0, .int .i64 42]) ∧ Kept [] w w' := by
  have C0 := Hid.mk (fun w' hq => rowLength_any bo cb nK K w' (hK.keep (Qt.kept hq [])) hk)
  have C1 := Hid.mk (fun w' hq => allAsLong_any ao ca nL nL L w' (hL.keep (Qt.kept hq [])) hl h1)
  have C2 := Hid.mk (fun w' hq => allAsLong_any bo cb nK (rl K) K w' (hK.keep (Qt.kept hq [])) hk h2)
  unfold ssh at hs
  rw [hl, hk] at hs
  obtain ⟨b1, e1⟩ : ∃ b, b = al L nL := ⟨_, rfl⟩
  obtain ⟨b2, e2⟩ : ∃ b, b = al K (rl K) := ⟨_, rfl⟩
  rw [← e1] at C1 hs
  rw [← e2] at C2 hs
  obtain ⟨r, er⟩ : ∃ r, r = rl K := ⟨_, rfl⟩
  rw [← er] at C0 C2
  clear e1 e2 er hl hk hL hK
  by_cases g1 : 256 < nL
  · clear hs
    go_enter Try.func53, Try.ntmps53
    go_wp2
    go_step3
    go_wp2_with (first | (go_at_call 63; refine (C0.out _ (Qt.refl _)).mono ?_; rintro e w' ⟨rfl, hw⟩; obtain rfl := hw.symm) | (go_at_call_of 62 r; refine (C2.out _ (Qt.refl _)).mono ?_; rintro e w' ⟨rfl, hw⟩; obtain rfl := hw.symm) | (go_at_call_of 62 ao; refine (C1.out _ (Qt.refl _)).mono ?_; rintro e w' ⟨rfl, hw⟩; obtain rfl := hw.symm))
    try rw [Exit.noGoto_ret]
    go_ret2
    exact ⟨rfl, Kept.refl _ _⟩
  · rw [decide_eq_true (by omega)] at hs
    cases b1
    · clear hs
      go_enter Try.func53, Try.ntmps53
      go_wp2
      go_step3
      go_wp2_with (first | (go_at_call 63; refine (C0.out _ (Qt.refl _)).mono ?_; rintro e w' ⟨rfl, hw⟩; obtain rfl := hw.symm) | (go_at_call_of 62 r; refine (C2.out _ (Qt.refl _)).mono ?_; rintro e w' ⟨rfl, hw⟩; obtain rfl := hw.symm) | (go_at_call_of 62 ao; refine (C1.out _ (Qt.refl _)).mono ?_; rintro e w' ⟨rfl, hw⟩; obtain rfl := hw.symm))
      try rw [Exit.noGoto_ret]
      go_ret2
      exact ⟨rfl, Kept.refl _ _⟩
    · by_cases g2 : nK = nL
      · subst g2
        simp only [decide_true, Bool.true_and] at hs
        subst hs
        go_enter Try.func53, Try.ntmps53
        go_wp2
        go_step3
        go_wp2_with (first | (go_at_call 63; refine (C0.out _ (Qt.refl _)).mono ?_; rintro e w' ⟨rfl, hw⟩; obtain rfl := hw.symm) | (go_at_call_of 62 r; refine (C2.out _ (Qt.refl _)).mono ?_; rintro e w' ⟨rfl, hw⟩; obtain rfl := hw.symm) | (go_at_call_of 62 ao; refine (C1.out _ (Qt.refl _)).mono ?_; rintro e w' ⟨rfl, hw⟩; obtain rfl := hw.symm))
        try rw [Exit.noGoto_ret]
        go_ret2
        exact ⟨rfl, Kept.refl _ _⟩
      · have g3 : ((nK : Int) == (nL : Int)) = false := by simp; omega
        clear hs
        go_enter Try.func53, Try.ntmps53
        go_wp2
        go_step3
        go_wp2_with (first | (go_at_call 63; refine (C0.out _ (Qt.refl _)).mono ?_; rintro e w' ⟨rfl, hw⟩; obtain rfl := hw.symm) | (go_at_call_of 62 r; refine (C2.out _ (Qt.refl _)).mono ?_; rintro e w' ⟨rfl, hw⟩; obtain rfl := hw.symm) | (go_at_call_of 62 ao; refine (C1.out _ (Qt.refl _)).mono ?_; rintro e w' ⟨rfl, hw⟩; obtain rfl := hw.symm))
        try rw [Exit.noGoto_ret]
        go_ret2
        exact ⟨rfl, Kept.refl _ _⟩

/-- What Solve comes to. -/
def SolPost (w : World) (n wd : Nat) (o : Option ((Nat → Nat → Nat) × (Nat → Nat → Nat))) (e : Ending) (w' : World) : Prop :=
  match o with
  | none => e = .returned (.tuple #[.slice none 0 0, .int .i64 43]) ∧ Kept [] w w'
  | some (_, Y) => ∃ g bs, e = .returned (.tuple #[.slice (some ⟨g, 0, none⟩) n n, .int .i64 0]) ∧ Mt w' g n bs wd Y ∧ w.heap.size ≤ g ∧ (∀ i, i < n → w.heap.size ≤ bs i) ∧ Kept [] w w'

set_option maxHeartbeats 4000000 in
set_option maxRecDepth 1000000 in
theorem solve_ok (ao bo : Option Addr) (ca cb n : Nat) (L K : List (List Nat)) (w : World) (hL : MR w ao L) (hK : MR w bo K) (bL : Bm L) (bK : Bm K) (hl : L.length = n) (hk : K.length = n) (hrl : rl K ≤ 140737488355328) (hs : ssh L K = true) :
    Calls Try.prog 53 #[.slice ao n ca, .slice bo n cb] w fun e w' => SolPost w n (rl K) (gt n (fn L) (fn K) n) e w' := by
  unfold ssh at hs
  rw [hl, hk] at hs
  simp only [Bool.and_eq_true, decide_eq_true_eq] at hs
  obtain ⟨⟨⟨h1, h3⟩, _⟩, h4⟩ := hs
  have hn0 : rl L = n := by
    by_cases h : n = 0
    · subst h
      have : L = [] := List.eq_nil_of_length_eq_zero hl
      subst this; rfl
    · exact al_at h3 (by omega)
  have C0 := Hid.mk (fun w' hq => rowLength_any bo cb n K w' (hK.keep (Qt.kept hq [])) hk)
  have C1 := Hid.mk (fun w' hq => allAsLong_any ao ca n n L w' (hL.keep (Qt.kept hq [])) hl (by omega))
  have C2 := Hid.mk (fun w' hq => allAsLong_any bo cb n (rl K) K w' (hK.keep (Qt.kept hq [])) hk (by omega))
  rw [h3] at C1
  rw [h4] at C2
  have D1 := Hid.mk (fun w2 (hk2 : Kept [] w w2) => copied_any ao ca n n L w2 (hL.keep hk2) hl h1 hn0 (by omega) h3)
  have D2 := Hid.mk (fun w2 (hk2 : Kept [] w w2) => copied_any bo cb n (rl K) K w2 (hK.keep hk2) hk h1 rfl hrl h4)
  have lL : Hid (Lo (fn L)) := Hid.mk (fn_lt bL)
  have lK : Hid (Lo (fn K)) := Hid.mk (fn_lt bK)
  obtain ⟨A, eA⟩ : ∃ A, A = fn L := ⟨_, rfl⟩
  obtain ⟨Bf, eB⟩ : ∃ Bf, Bf = fn K := ⟨_, rfl⟩
  rw [← eA] at D1 lL ⊢
  rw [← eB] at D2 lK ⊢
  obtain ⟨r, er⟩ : ∃ r, r = rl K := ⟨_, rfl⟩
  rw [← er] at C0 C2 hrl D2 ⊢
  clear er eA eB hL hK hl hk h3 h4 hn0 bL bK
  have d1 : decide ((256 : Int) < (n : Int)) = false := by simp; omega
  go_enter Try.func53, Try.ntmps53
  go_wp2
  go_step3
  go_wp2_with (first | (go_at_call 63; refine (C0.out _ (Qt.refl _)).mono ?_; rintro e w' ⟨rfl, hw⟩; obtain rfl := hw.symm) | (go_at_call_of 62 r; refine (C2.out _ (Qt.refl _)).mono ?_; rintro e w' ⟨rfl, hw⟩; obtain rfl := hw.symm) | (go_at_call_of 62 ao; refine (C1.out _ (Qt.refl _)).mono ?_; rintro e w' ⟨rfl, hw⟩; obtain rfl := hw.symm))
  clear C0 C1 C2
  have D2' := D2
  refine (D1.out w (Kept.refl _ _)).mono ?_
  rintro e w2 ⟨bl, rfl, hM1, hb1, hk2⟩
  obtain ⟨B, eB⟩ : ∃ B, B = w.heap.size := ⟨_, rfl⟩
  rw [← eB] at hM1 hb1 ⊢
  have M1 := Hid.mk hM1
  have B1 := Hid.mk hb1
  have K2 := Hid.mk hk2
  have EB := Hid.mk eB
  clear hM1 hb1 hk2 eB D1
  go_wp2_with (fail)
  refine (D2.out w2 K2.out).mono ?_
  rintro e w3 ⟨br, rfl, hM2, hb2, hk3⟩
  obtain ⟨gr, eg⟩ : ∃ gr, gr = w2.heap.size := ⟨_, rfl⟩
  rw [← eg] at hM2 hb2 ⊢
  have hlt : ∀ i, i < n → bl i < gr := fun i hi => by rw [eg]; exact M1.out.lt hi
  have hBg : B < gr ∨ n = 0 := by
    by_cases h : n = 0
    · exact .inr h
    · left; have := hlt 0 (by omega); have := B1.out 0 (by omega); omega
  have hBg2 : B ≤ gr := by rw [EB.out, eg]; exact K2.out.size
  have HK : Hid (Kept [] w w3) := Hid.mk (K2.out.trans hk3)
  have HT0 : Hid (n ≠ 0 → Tw B w3 B gr n bl br n r A Bf) := Hid.mk (fun h => ⟨M1.out.keep0 hk3, hM2, by omega, fun i hi => by have := hlt i hi; omega, fun i hi => by have := hb2 i hi; omega, fun i j hi hj => by have := hlt i hi; have := hb2 j hj; omega, Nat.le_refl _, hBg2, fun i hi => by have := B1.out i hi; omega, fun i hi => by have := hb2 i hi; omega⟩)
  have HM2 := Hid.mk hM2
  have HB2 := Hid.mk hb2
  have HG := Hid.mk hBg2
  clear hM2 hb2 hk3 eg hlt hBg hBg2 D2 D2' M1 B1 K2
  by_cases hn0 : n = 0
  · subst hn0
    go_wp2
    go_step3
    go_wp2
    refine wp_loop_rounds 1 ?_
    rw [rounds_succ]
    go_wp2
    try rw [Exit.noGoto_ret]
    go_ret2
    refine ⟨gr, br, rfl, HM2.out, by rw [← EB.out]; exact HG.out, fun i hi => by omega, HK.out⟩
  · have HT := Hid.mk (HT0.out hn0)
    have sz : B ≤ w.heap.size := by rw [EB.out]; exact Nat.le_refl _
    have HB := Hid.mk (HK.out.below sz (by simp))
    clear HT0 sz
    go_wp2
    go_step3
    go_wp2
    go_loopg [8, 41] n (fun g s8 s41 wx => ∃ (c : Nat) (bl br : Nat → Nat) (X Y : Nat → Nat → Nat), c + g = n ∧ s8 = .int .i64 (c : Int) ∧ s41 = .int .i64 (c : Int) ∧ Hid (gt n A Bf c = some (X, Y)) ∧ Tw B wx B gr n bl br n r X Y ∧ Below B w wx)
    case atStart => exact ⟨0, bl, br, A, Bf, by omega, rfl, rfl, Hid.mk rfl, HT.out, HB.out⟩
    case round =>
      obtain ⟨c, bl2, br2, X, Y, hcg, rfl, rfl, hgt, ht, hb⟩ := hrel
      clear HT HB HM2 HB2 HK
      have T := Hid.mk ht
      have HB := Hid.mk hb
      clear ht hb
      cases gk with
      | zero =>
        obtain rfl : c = n := by omega
        go_wp2
        try rw [Exit.noGoto_ret]
        go_ret2
        have hb := HB.out
        rw [EB.out] at hb
        show SolPost _ _ _ _ _ _
        rw [hgt.out]
        refine ⟨gr, br2, rfl, T.out.r, by rw [← EB.out]; exact HG.out, fun i hi => by rw [← EB.out]; exact T.out.b4 i hi, Kept.of_below hb⟩
      | succ g1 =>
        have hlt : c < n := by omega
        have ic : (c : Int) < (n : Int) := by omega
        go_wp2
        go_loopg [8, 10] (n - c) (fun g s8 s10 wx => ∃ row : Nat, row + g = n ∧ c ≤ row ∧ s8 = .int .i64 (c : Int) ∧ s10 = .int .i64 (row : Int) ∧ Hid (∀ i, c ≤ i → i < row → X i c = 0) ∧ Tw B wx B gr n bl2 br2 n r X Y ∧ Below B w wx)
        case atStart => exact ⟨c, by omega, by omega, rfl, rfl, Hid.mk (fun i h1 h2 => by omega), T.out, HB.out⟩
        case round =>
          obtain ⟨row, hrg, hcr, rfl, rfl, hz, ht, hb⟩ := hrel
          clear T HB
          have T := Hid.mk ht
          have HB := Hid.mk hb
          have lo := gt_lo lL.out lK.out c hgt.out
          cases gk with
          | zero =>
            obtain rfl : row = n := by omega
            have hno := gt_fail hgt.out (pv_no (row - c) c (fun i h1 h2 => hz.out i h1 (by omega)))
            have hst := gt_stop (c + 1) (row - (c + 1)) hno
            rw [show c + 1 + (row - (c + 1)) = row from by omega] at hst
            have HS := Hid.mk hst
            clear hno hst ht hb lo
            go_wp2
            try rw [Exit.noGoto_ret]
            go_ret2
            have hb := HB.out
            rw [EB.out] at hb
            show SolPost _ _ _ _ _ _
            rw [HS.out]
            exact ⟨rfl, Kept.of_below hb⟩
          | succ g2 =>
            have hrn : row < n := by omega
            have e1 := ht.l.out row hrn
            have e2 := (ht.l.row row hrn).at (j := c) (by rw [rg_length]; exact hlt)
            rw [rg_getD _ _ _ hlt] at e2
            have hrow : ((row : Int) == (n : Int)) = false := by simp; omega
            have ir : (row : Int) < (n : Int) := by omega
            by_cases hx : X row c = 0
            · rw [hx] at e2
              have Hx := Hid.mk hx
              clear hx ht hb lo
              go_wp2
              go_roundg g2
              case measure => omega
              case rel =>
                refine ⟨row + 1, by omega, by omega, rfl, by go_num, Hid.mk (fun i h1 h2 => ?_), T.out, HB.out⟩
                by_cases e : i = row
                · subst e; exact Hx.out
                · exact hz.out i h1 (by omega)
            · have hpv := pv_of (A := X) (c := c) (n - c) c row hcr (by omega) hx (fun i h1 h2 => hz.out i h1 h2)
              have hnext := gt_step hgt.out hpv
              have E1 := Hid.mk (exchange_any B B gr n n r c row n n bl2 br2 X Y wr ht hlt hrn)
              have E2 : Hid (∀ w4, Tw B w4 B gr n (fun i => bl2 (sw c row i)) (fun i => br2 (sw c row i)) n r (fun i => X (sw c row i)) (fun i => Y (sw c row i)) → Calls Try.prog 66 #[.slice (some ⟨B, 0, none⟩) n n, .slice (some ⟨gr, 0, none⟩) n n, .int .i64 (c : Int)] w4 fun e w' => e = .returned (.tuple #[]) ∧ Tw B w' B gr n (fun i => bl2 (sw c row i)) (fun i => br2 (sw c row i)) n r (st X c row X) (st X c row Y) ∧ Below B w4 w') := Hid.mk (fun w4 t4 =>
                (clear_any B B gr n r c n n _ _ _ _ w4 t4 (fun i j => lo.1 _ _) (fun i j => lo.2 _ _) hlt h1 hrl).mono fun e w' ⟨he, t5, hb5⟩ => ⟨he, ⟨t5.l.congr (fun i hi j _ => ck_st X c row X n i j hi), t5.r.congr (fun i hi j _ => ck_st X c row Y n i j hi), t5.g, t5.lg, t5.rg, t5.lr, t5.b1, t5.b2, t5.b3, t5.b4⟩, hb5⟩)
              have HN := Hid.mk hnext
              have hx0 : ((X row c : Int) == 0) = false := by simp; omega
              obtain ⟨x, ex⟩ : ∃ x, x = X row c := ⟨_, rfl⟩
              rw [← ex] at e2 hx0
              clear ex hx ht hb lo hpv hnext
              go_wp2_with (fail)
              refine E1.out.mono ?_
              rintro e w4 ⟨rfl, t4, hb4⟩
              have T4 := Hid.mk t4
              have HB4 := Hid.mk (HB.out.trans hb4)
              clear t4 hb4
              go_wp2_with (fail)
              refine (E2.out w4 T4.out).mono ?_
              rintro e w5 ⟨rfl, t5, hb5⟩
              have T5 := Hid.mk t5
              have HB5 := Hid.mk (HB4.out.trans hb5)
              clear t5 hb5 T4 HB4 E1 E2 T HB e1 e2
              go_wp2
              go_roundg g1
              case measure => omega
              case rel => exact ⟨c + 1, _, _, _, _, by omega, by go_num, by go_num, HN, T5.out, HB5.out⟩
end Go.Proofs.Ytmgfapooanpgfaa
