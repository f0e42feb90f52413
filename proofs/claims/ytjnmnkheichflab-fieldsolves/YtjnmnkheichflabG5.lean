import Derived.Test.YtjnmnkheichflabG3
import Derived.Test.YtjnmnkheichflabG4
namespace Go.Proofs.Ytjnmnkheichflab
open Go.RowKit

/-- Whether two may be multiplied; their product. -/
def tsh (L K : List (List Nat)) : Bool := decide (L.length ≤ 256) && decide (K.length ≤ 256) && al L K.length && al K (rl K)
def tm (L K : List (List Nat)) : Nat → Nat → Nat := fun i c => sm (fun j => mu (fn L i j) (fn K j c)) K.length
theorem tm_lt (L K : List (List Nat)) (i c : Nat) : tm L K i c < 256 := sm_lt _ _ (fun _ _ => mu_lt _ _)

set_option maxHeartbeats 2000000 in
set_option maxRecDepth 1000000 in
theorem times_no (ao bo : Option Addr) (ca cb nL nK : Nat) (L K : List (List Nat)) (w : World) (hL : MR w ao L) (hK : MR w bo K) (hl : L.length = nL) (hk : K.length = nK) (h1 : nL ≤ 140737488355328) (h2 : nK ≤ 140737488355328) (hs : tsh L K = false) :
    Calls Try.prog 21 #[.slice ao nL ca, .slice bo nK cb] w fun e w' => e = .returned (.tuple #[.slice none 0 0, .int .i64 42]) ∧ Kept [] w w' := by
  have C0 := Hid.mk (fun w' hq => rowLength_any bo cb nK K w' (hK.keep (Qt.kept hq [])) hk)
  have C1 := Hid.mk (fun w' hq => allAsLong_any ao ca nL nK L w' (hL.keep (Qt.kept hq [])) hl h1)
  have C2 := Hid.mk (fun w' hq => allAsLong_any bo cb nK (rl K) K w' (hK.keep (Qt.kept hq [])) hk h2)
  unfold tsh at hs
  rw [hl, hk] at hs
  obtain ⟨b1, e1⟩ : ∃ b, b = al L nK := ⟨_, rfl⟩
  obtain ⟨b2, e2⟩ : ∃ b, b = al K (rl K) := ⟨_, rfl⟩
  rw [← e1] at C1 hs
  rw [← e2] at C2 hs
  obtain ⟨r, er⟩ : ∃ r, r = rl K := ⟨_, rfl⟩
  rw [← er] at C0 C2
  clear e1 e2 er hl hk hL hK
  by_cases g1 : 256 < nL
  · clear hs
    go_enter Try.func21, Try.ntmps21
    go_wp2_with (go_at_call 27; refine (C0.out _ (Qt.refl _)).mono ?_; rintro e w' ⟨rfl, rfl⟩)
    go_ret2
    exact ⟨rfl, Kept.refl _ _⟩
  · by_cases g2 : 256 < nK
    · clear hs
      go_enter Try.func21, Try.ntmps21
      go_wp2_with (go_at_call 27; refine (C0.out _ (Qt.refl _)).mono ?_; rintro e w' ⟨rfl, rfl⟩)
      go_ret2
      exact ⟨rfl, Kept.refl _ _⟩
    · rw [decide_eq_true (by omega), decide_eq_true (by omega)] at hs
      cases b1
      · clear hs
        go_enter Try.func21, Try.ntmps21
        go_wp2_with (first | (go_at_call 27; refine (C0.out _ (Qt.refl _)).mono ?_; rintro e w' ⟨rfl, rfl⟩) | (go_at_call_of 26 ao; refine (C1.out _ (Qt.refl _)).mono ?_; rintro e w' ⟨rfl, rfl⟩))
        go_ret2
        exact ⟨rfl, Kept.refl _ _⟩
      · simp only [Bool.true_and] at hs
        subst hs
        go_enter Try.func21, Try.ntmps21
        go_wp2_with (first | (go_at_call 27; refine (C0.out _ (Qt.refl _)).mono ?_; rintro e w' ⟨rfl, rfl⟩) | (go_at_call_of 26 r; refine (C2.out _ (Qt.refl _)).mono ?_; rintro e w' ⟨rfl, rfl⟩) | (go_at_call_of 26 ao; refine (C1.out _ (Qt.refl _)).mono ?_; rintro e w' ⟨rfl, rfl⟩))
        go_ret2
        exact ⟨rfl, Kept.refl _ _⟩

/-- The rows of a product, as they come. -/
def tf (L K : List (List Nat)) (i j : Nat) : Nat → Nat → Nat := fun a c => if a < i then tm L K a c else if a = i then sm (fun j' => mu (fn L i j') (fn K j' c)) j else 0
theorem tf_lt (L K : List (List Nat)) (i j a c : Nat) : tf L K i j a c < 256 := by
  unfold tf
  split
  · exact tm_lt _ _ _ _
  · split
    · exact sm_lt _ _ (fun _ _ => mu_lt _ _)
    · decide
theorem tf_next (L K : List (List Nat)) (i : Nat) : tf L K i K.length = tf L K (i + 1) 0 := by
  funext a c
  unfold tf
  by_cases h : a < i
  · rw [if_pos h, if_pos (by omega)]
  · rw [if_neg h]
    by_cases e : a = i
    · subst e; rw [if_pos rfl, if_pos (by omega)]; rfl
    · rw [if_neg e, if_neg (by omega)]
      split <;> rfl
theorem tf_row (L K : List (List Nat)) (i j wd : Nat) : rg (am (fn L i j) (tf L K i j i) (fn K j)) wd = rg (tf L K i (j + 1) i) wd := by
  apply rg_congr
  intro c _
  unfold am tf
  rw [if_neg (by omega), if_pos rfl, if_neg (by omega), if_pos rfl, sm]
theorem tf_rest (L K : List (List Nat)) (i j a c : Nat) (h : a ≠ i) : tf L K i (j + 1) a c = tf L K i j a c := by
  unfold tf
  rw [if_neg h, if_neg h]

set_option maxHeartbeats 4000000 in
set_option maxRecDepth 1000000 in
theorem times_ok (ao bo : Option Addr) (ca cb nL nK : Nat) (L K : List (List Nat)) (w : World) (hL : MR w ao L) (hK : MR w bo K) (bL : Bm L) (bK : Bm K) (hl : L.length = nL) (hk : K.length = nK) (hrl : rl K ≤ 140737488355328) (hs : tsh L K = true) :
    Calls Try.prog 21 #[.slice ao nL ca, .slice bo nK cb] w fun e w' => ∃ g bs, e = .returned (.tuple #[.slice (some ⟨g, 0, none⟩) nL nL, .int .i64 0]) ∧ Mt w' g nL bs (rl K) (tm L K) ∧ w.heap.size ≤ g ∧ (∀ i, i < nL → w.heap.size ≤ bs i) ∧ Kept [] w w' := by
  unfold tsh at hs
  rw [hl, hk] at hs
  simp only [Bool.and_eq_true, decide_eq_true_eq] at hs
  obtain ⟨⟨⟨h1, h2⟩, h3⟩, h4⟩ := hs
  have C0 := Hid.mk (rowLength_any bo cb nK K w hK hk)
  have C1 := Hid.mk (allAsLong_any ao ca nL nK L w hL hl (by omega))
  have C2 := Hid.mk (allAsLong_any bo cb nK (rl K) K w hK hk (by omega))
  rw [h3] at C1
  rw [h4] at C2
  have HL := Hid.mk hL
  have HK := Hid.mk hK
  have Hl := Hid.mk hl
  have Hk := Hid.mk hk
  have H3 := Hid.mk h3
  have H4 := Hid.mk h4
  have Hd : Hid (rl K = rl K) := Hid.mk rfl
  clear hL hK hl hk h3 h4
  obtain ⟨r, er⟩ : ∃ r, r = rl K := ⟨_, rfl⟩
  rw [← er] at C0 C2 hrl H4 ⊢
  have Er := Hid.mk er
  clear er Hd
  have d1 : decide ((256 : Int) < (nL : Int)) = false := by simp; omega
  have d2 : decide ((256 : Int) < (nK : Int)) = false := by simp; omega
  go_enter Try.func21, Try.ntmps21
  go_wp2_with (first | (go_at_call 27; refine (C0.out).mono ?_; rintro e w' ⟨rfl, hw⟩; obtain rfl := hw.symm) | (go_at_call_of 26 r; refine (C2.out).mono ?_; rintro e w' ⟨rfl, hw⟩; obtain rfl := hw.symm) | (go_at_call_of 26 ao; refine (C1.out).mono ?_; rintro e w' ⟨rfl, hw⟩; obtain rfl := hw.symm))
  clear C0 C1 C2
  refine (noughts_any nL r w h1 hrl).mono ?_
  rintro e w2 ⟨bs, rfl, hM, hbs, hk2⟩
  obtain ⟨G, eG⟩ : ∃ G, G = w.heap.size := ⟨_, rfl⟩
  rw [← eG] at hM hbs ⊢
  have HM := Hid.mk (hM.congr (G := tf L K 0 0) (fun i _ j _ => by unfold tf; rw [if_neg (by omega)]; split <;> rfl))
  have HB := Hid.mk hbs
  have HK2 := Hid.mk hk2
  have EG := Hid.mk eG
  clear hM hbs hk2 eG
  go_wp2
  go_loopw [41] (fun i wr => ∃ k : Nat, k ≤ nL ∧ i = .int .i64 (k : Int) ∧ Mt wr G nL bs r (tf L K k 0) ∧ Kept [] w wr) (fun i _ => nL - (intOf i).toNat)
  case atStart => exact ⟨0, by omega, rfl, HM.out, HK2.out⟩
  case round =>
    obtain ⟨k, hk, rfl, hm, hkr⟩ := hrel
    clear HM HK2
    by_cases hlt : k < nL
    · have hout := hm.out k hlt
      obtain ⟨ga, offa, ba, cpa, hao, hca0, hra⟩ := HL.out.at (i := k) (by have := Hl.out; omega)
      have hlr : (L.getD k []).length = nK := al_at H3.out (by have := Hl.out; omega)
      have hca := cell_keep hkr hca0 (by simp)
      rw [hlr] at hca
      have Hlr := Hid.mk hlr
      have Hra := Hid.mk hra
      have Hm := Hid.mk hm
      have Hkr := Hid.mk hkr
      clear hm hkr hra hlr hca0
      subst hao
      have ix : (k : Int) < (nL : Int) := by omega
      go_wp2
      clear hca hout
      go_loopw [51] (fun i wr => ∃ j : Nat, j ≤ nK ∧ i = .int .i64 (j : Int) ∧ Mt wr G nL bs r (tf L K k j) ∧ Kept [] w wr) (fun i _ => nK - (intOf i).toNat)
      case atStart => exact ⟨0, by omega, rfl, Hm.out, Hkr.out⟩
      case round =>
        obtain ⟨j, hj, rfl, hm, hkr⟩ := hrel
        clear Hm Hkr
        by_cases hjt : j < nK
        · obtain ⟨gb, offb, hba, hcb⟩ := (Hra.out.keep hkr).cell (j := j) (by rw [Hlr.out]; exact hjt)
          obtain ⟨gv, offv, bv, cpv, hbo, hcv0, hrv⟩ := HK.out.at (i := j) (by have := Hk.out; omega)
          have hlv : (K.getD j []).length = r := al_at H4.out (by have := Hk.out; omega)
          have hcv := cell_keep hkr hcv0 (by simp)
          rw [hlv] at hcv
          have hfl := fn_lt bL k j
          have Hadd := Hid.mk (addM_any (bs k) r r (fn L k j) cpv bv (tf L K k j k) (fn K j) hfl wr (hm.row k hlt) (fun c _ => tf_lt _ _ _ _ _ _) (fun c _ => fn_lt bK j c) (by rw [fn_rg hlv]; exact hrv.keep hkr) (fun hp g off e => by have := hrv.lt (by omega) g off e; have := HB.out k hlt; have := EG.out; omega) hrl)
          rw [tf_row] at Hadd
          have Hm := Hid.mk hm
          have Hkr := Hid.mk hkr
          have hcb2 : wr.cell? ⟨gb, offb + j, none⟩ = some (.int .u8 (fn L k j : Int)) := hcb
          clear hm hkr hcb hcv0 hrv hlv
          obtain ⟨x, ex⟩ : ∃ x, x = fn L k j := ⟨_, rfl⟩
          rw [← ex] at Hadd hcb2 hfl
          clear ex
          subst hba hbo
          have ix2 : (j : Int) < (nK : Int) := by omega
          go_wp2_with (go_at_call 43; refine Hadd.out.mono ?_; rintro e w3 ⟨rfl, hr3, hk3⟩)
          have Hm3 := Hid.mk (Hm.out.upd hlt hk3 hr3 (fun i _ hn c _ => tf_rest L K k j i c hn))
          have Hk3 := Hid.mk (Hkr.out.step hk3 (fun x hx => by simp at hx; subst hx; right; have := HB.out k hlt; have := EG.out; omega))
          clear hr3 hk3 Hadd
          go_roundw
          case rel => exact ⟨j + 1, by omega, by go_num, Hm3.out, Hk3.out⟩
          case measure => simp [intOf]; omega
        · obtain rfl : j = nK := by omega
          have hm2 := hm
          rw [show tf L K k j = tf L K (k + 1) 0 from by rw [← Hk.out]; exact tf_next L K k] at hm2
          have Hm := Hid.mk hm2
          have Hkr := Hid.mk hkr
          clear hm hkr hm2
          go_wp2
          go_roundw
          case rel => exact ⟨k + 1, by omega, by go_num, Hm.out, Hkr.out⟩
          case measure => simp [intOf]; omega
    · obtain rfl : k = nL := by omega
      have Hm := Hid.mk hm
      have Hkr := Hid.mk hkr
      clear hm hkr
      go_wp2
      go_ret2
      refine ⟨G, bs, rfl, Hm.out.congr (fun i hi j _ => by unfold tf; rw [if_pos hi]), by rw [EG.out]; exact Nat.le_refl _, fun i hi => by have := HB.out i hi; have := EG.out; omega, Hkr.out⟩
end Go.Proofs.Ytjnmnkheichflab
