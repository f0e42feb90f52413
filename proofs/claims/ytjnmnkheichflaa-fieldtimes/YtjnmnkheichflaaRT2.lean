import Derived.Test.YtjnmnkheichflaaRT
namespace Go.Proofs.Ytjnmnkheichflaa
open Go.RowKit

theorem Row.put {w : World} {b n c v : Nat} {f : Nat → Nat} (h : Row w b (rg f n)) {u : Value} (hu : u = byt v) : Row (w.setCell ⟨b, c, none⟩ u) b (rg (fun i => if i = c then v else f i) n) := by
  subst hu
  unfold Row at h ⊢
  rw [heap_setCell_at h, List.setIfInBounds_toArray, ← List.map_set]
  have e : (rg f n).set c v = rg (fun i => if i = c then v else f i) n := by
    apply List.ext_getElem?
    intro i
    by_cases hi : i < n
    · rw [List.getElem?_set, rg_at _ _ _ hi, rg_at _ _ _ hi, rg_length]
      by_cases e : c = i
      · subst e; simp [hi]
      · rw [if_neg e, if_neg (Ne.symm e)]
    · rw [List.getElem?_eq_none (by simp [rg_length]; omega), List.getElem?_eq_none (by simp [rg_length]; omega)]
  rw [e]

/-- A row of the product, as far as the element c, j products of this one. -/
def tq (L K : List (List Nat)) (i c j : Nat) : Nat → Nat := fun cc => if cc < c then tm L K i cc else if cc = c then sm (fun j' => mu (fn L i j') (fn K j' c)) j else 0
theorem tq_at (L K : List (List Nat)) (i c j : Nat) : tq L K i c j c = sm (fun j' => mu (fn L i j') (fn K j' c)) j := by unfold tq; rw [if_neg (by omega), if_pos rfl]
theorem tq_lt (L K : List (List Nat)) (i c j : Nat) : tq L K i c j c < 256 := by rw [tq_at]; exact sm_lt _ _ (fun _ _ => mu_lt _ _)
theorem tq_step (L K : List (List Nat)) (i c j n : Nat) : rg (fun cc => if cc = c then tq L K i c j c ^^^ mu (fn L i j) (fn K j c) else tq L K i c j cc) n = rg (tq L K i c (j + 1)) n := by
  apply rg_congr
  intro cc _
  by_cases e : cc = c
  · subst e; rw [if_pos rfl, tq_at, tq_at]; rfl
  · rw [if_neg e]; unfold tq; rw [if_neg e, if_neg e]
theorem tq_next (L K : List (List Nat)) (i c : Nat) : tq L K i c K.length = tq L K i (c + 1) 0 := by
  funext cc
  unfold tq
  by_cases h : cc < c
  · rw [if_pos h, if_pos (by omega)]
  · rw [if_neg h]
    by_cases e : cc = c
    · subst e; rw [if_pos rfl, if_pos (by omega)]; rfl
    · rw [if_neg e, if_neg (by omega)]
      split <;> rfl

set_option maxHeartbeats 2000000 in
set_option maxRecDepth 1000000 in
theorem refTimes_no (ao bo : Option Addr) (ca cb nL nK : Nat) (L K : List (List Nat)) (w : World) (hL : MR w ao L) (hK : MR w bo K) (hl : L.length = nL) (hk : K.length = nK) (hs : tsh L K = false) :
    Calls Try.prog 25 #[.slice ao nL ca, .slice bo nK cb] w fun e w' => e = .returned (.tuple #[.slice none 0 0, .int .i64 42]) ∧ Kept [] w w' := by
  unfold tsh at hs
  rw [hl, hk] at hs
  by_cases g1 : 256 < nL
  · go_enter Try.func25, Try.ntmps25
    go_wp2_with (fail)
    go_ret2
    exact ⟨rfl, Kept.refl _ _⟩
  · by_cases g2 : 256 < nK
    · go_enter Try.func25, Try.ntmps25
      go_wp2_with (fail)
      go_ret2
      exact ⟨rfl, Kept.refl _ _⟩
    · have C1 := Hid.mk (fits_any ao ca nL nK L w hL hl (by omega))
      have C2 := Hid.mk (fun w' hq => alike_any bo cb nK K w' (hK.keep (Qt.kept hq [])) hk (by omega))
      obtain ⟨b1, e1⟩ : ∃ b, b = al L nK := ⟨_, rfl⟩
      obtain ⟨b2, e2⟩ : ∃ b, b = al K (rl K) := ⟨_, rfl⟩
      rw [← e1] at C1 hs
      rw [← e2] at C2 hs
      rw [decide_eq_true (by omega), decide_eq_true (by omega)] at hs
      clear e1 e2 hl hk hL hK
      cases b1
      · clear hs
        go_enter Try.func25, Try.ntmps25
        go_wp2_with (first | (go_at_call 37; refine C1.out.mono ?_; rintro e w' ⟨rfl, hw⟩; obtain rfl := hw.symm) | (go_at_call 38; refine (C2.out _ (Qt.refl _)).mono ?_; rintro e w3 ⟨rfl, hq3⟩))
        go_ret2
        exact ⟨rfl, Qt.kept hq3 []⟩
      · simp only [Bool.true_and] at hs
        subst hs
        go_enter Try.func25, Try.ntmps25
        go_wp2_with (first | (go_at_call 37; refine C1.out.mono ?_; rintro e w' ⟨rfl, hw⟩; obtain rfl := hw.symm) | (go_at_call 38; refine (C2.out _ (Qt.refl _)).mono ?_; rintro e w3 ⟨rfl, hq3⟩))
        go_ret2
        exact ⟨rfl, Qt.kept hq3 []⟩

set_option maxHeartbeats 4000000 in
set_option maxRecDepth 1000000 in
theorem refTimes_ok (ao bo : Option Addr) (ca cb nL nK : Nat) (L K : List (List Nat)) (w : World) (hL : MR w ao L) (hK : MR w bo K) (bL : Bm L) (bK : Bm K) (hl : L.length = nL) (hk : K.length = nK) (hrl : rl K ≤ 140737488355328) (hs : tsh L K = true) :
    Calls Try.prog 25 #[.slice ao nL ca, .slice bo nK cb] w fun e w' => ∃ V bs, e = .returned (.tuple #[V, .int .i64 0]) ∧ Gl w.heap.size w' V nL bs (rl K) (tm L K) ∧ Kept [] w w' := by
  obtain ⟨i0, hi, hz0, hz1, hz2⟩ := info_parts Try.info5
  obtain ⟨j0, gi, gz0, gz1, gz2⟩ := info_parts Try.infoR
  unfold tsh at hs
  rw [hl, hk] at hs
  simp only [Bool.and_eq_true, decide_eq_true_eq] at hs
  obtain ⟨⟨⟨h1, h2⟩, h3⟩, h4⟩ := hs
  have C1 := Hid.mk (fits_any ao ca nL nK L w hL hl (by omega))
  have C2 := Hid.mk (alike_any bo cb nK K w hK hk (by omega))
  rw [h3] at C1
  rw [h4] at C2
  have HL := Hid.mk hL
  have HK := Hid.mk hK
  have Hl := Hid.mk hl
  have Hk := Hid.mk hk
  have H3 := Hid.mk h3
  have H4 := Hid.mk h4
  have C3 := Hid.mk (fun w' (hk' : Kept [] w w') => width_any bo cb nK K w' (hK.keep hk') hk)
  clear hL hK hl hk h3 h4
  obtain ⟨wd, er⟩ : ∃ r, r = rl K := ⟨_, rfl⟩
  rw [← er] at hrl H4 C3 ⊢
  clear er
  obtain ⟨B, eB⟩ : ∃ B, B = w.heap.size := ⟨_, rfl⟩
  rw [← eB]
  have EB := Hid.mk eB
  clear eB
  have d1 : decide ((256 : Int) < (nL : Int)) = false := by simp; omega
  have d2 : decide ((256 : Int) < (nK : Int)) = false := by simp; omega
  go_enter Try.func25, Try.ntmps25
  go_wp2_with (first | (go_at_call 37; refine C1.out.mono ?_; rintro e w' ⟨rfl, hw⟩; obtain rfl := hw.symm) | (go_at_call 38; refine C2.out.mono ?_; rintro e w1 ⟨rfl, hq1⟩))
  have hk1 := Qt.kept hq1 []
  have HB1 : Hid (Below B w w1) := Hid.mk (hk1.below (by rw [EB.out]; exact Nat.le_refl _) (by simp))
  have HS1 : Hid (B ≤ w1.heap.size) := Hid.mk (by rw [EB.out]; exact hk1.size)
  clear hq1 hk1 C1 C2
  go_loopw [8, 9] (fun V s wr => ∃ (k : Nat) (bs : Nat → Nat), k ≤ nL ∧ s = .int .i64 (k : Int) ∧ Gl B wr V k bs wd (tm L K) ∧ Below B w wr ∧ B ≤ wr.heap.size) (fun _ i _ => nL - (intOf i).toNat)
  case atStart => exact ⟨0, fun _ => 0, by omega, rfl, Gl.start B w1 _ _ _, HB1.out, HS1.out⟩
  case round =>
    obtain ⟨k, bs, hk, rfl, hg, hbw, hsz⟩ := hrel
    clear HB1 HS1
    by_cases hlt : k < nL
    · have HG := Hid.mk hg
      have HB := Hid.mk hbw
      have HS := Hid.mk hsz
      have CW := Hid.mk (C3.out wr (Kept.of_below (by have := hbw; rw [EB.out] at this; exact this)))
      clear hg hbw hsz
      go_wp2_with (first | (go_at_call 39; refine CW.out.mono ?_; rintro e w' ⟨rfl, hw⟩; obtain rfl := hw.symm) | (at_make; refine wpList_make_full _ rfl _ _ 34 rfl 0 5 i0 (.int .u8 0) 1 Try.underlying34 hi hz0 hz1 _ _ _ _ wd rfl rfl (by omega) (by omega) ?b2 ?b3 (by omega) ?_))
      case b2 => rw [hz2]; omega
      case b3 => unfold maxLen; omega
      intro w3 ho3 hg3
      have hk3 := Kept.of_grown hg3
      have hr3 := row_heap ho3 rfl
      rw [toList_madeCells_one, rg_none] at hr3
      obtain ⟨b, hb⟩ : ∃ b, b = wr.heap.size := ⟨_, rfl⟩
      rw [← hb] at hr3 ⊢
      have R3 : Hid (Row w3 b (rg (tq L K k 0 0) wd)) := Hid.mk (by rw [rg_congr (q := fun _ => 0) (fun j _ => by unfold tq; rw [if_neg (by omega)]; split <;> rfl)]; exact hr3)
      have G3 := Hid.mk (HG.out.keep0 hk3)
      have Blt : Hid (∀ i, i < k → bs i < b) := Hid.mk (fun i hi => by rw [hb]; exact (HG.out.row i hi).lt)
      have Vlt : Hid (∀ g, u8.ownBlock = some g → g ≠ b) := Hid.mk (fun g hg e => by subst e; exact own_row (HG.out.keep0 hk3).own hr3 hg)
      have BB : Hid (B ≤ b) := Hid.mk (by rw [hb]; exact HS.out)
      have HB3 := Hid.mk (HB.out.trans (hk3.below HS.out (by simp)))
      have HS3 : Hid (B ≤ w3.heap.size) := Hid.mk (Nat.le_trans HS.out hk3.size)
      clear hr3 hb ho3 hg3 hk3 HG HB HS CW
      have RD : Hid (∀ wx, Kept [b] w3 wx → Kept [] w wx) := Hid.mk (fun wx hkx => Kept.of_below (by
        have h := HB3.out.trans (hkx.below HS3.out (fun x hx => by simp at hx; subst hx; exact BB.out))
        rw [EB.out] at h; exact h))
      go_wp2
      go_loopw [11] (fun s wx => ∃ c : Nat, c ≤ wd ∧ s = .int .i64 (c : Int) ∧ Row wx b (rg (tq L K k c 0) wd) ∧ Kept [b] w3 wx) (fun i _ => wd - (intOf i).toNat)
      case atStart => exact ⟨0, by omega, rfl, R3.out, Kept.refl _ _⟩
      case round =>
        obtain ⟨c, hc, rfl, hrow, hkx⟩ := hrel
        by_cases hct : c < wd
        · have HR0 := Hid.mk hrow
          have HK0 := Hid.mk hkx
          clear hrow hkx
          go_wp2
          go_loopw [12] (fun s wy => ∃ j : Nat, j ≤ nK ∧ s = .int .i64 (j : Int) ∧ Row wy b (rg (tq L K k c j) wd) ∧ Kept [b] w3 wy) (fun i _ => nK - (intOf i).toNat)
          case atStart => exact ⟨0, by omega, rfl, HR0.out, HK0.out⟩
          case round =>
            obtain ⟨j, hj, rfl, hrow, hkx⟩ := hrel
            by_cases hjt : j < nK
            · have hkk := RD.out _ hkx
              obtain ⟨ga, oa, ba, cpa, hao, ea0, ra⟩ := HL.out.at (i := k) (by have := Hl.out; omega)
              obtain ⟨gb, ob, bb, cpb, hbo, eb0, rb⟩ := HK.out.at (i := j) (by have := Hk.out; omega)
              have la : (L.getD k []).length = nK := al_at H3.out (by have := Hl.out; omega)
              have lb : (K.getD j []).length = wd := al_at H4.out (by have := Hk.out; omega)
              have ea := cell_keep hkk ea0 (by simp)
              have eb := cell_keep hkk eb0 (by simp)
              rw [la] at ea
              rw [lb] at eb
              obtain ⟨g1, o1, hba, c1⟩ := (ra.keep hkk).cell (j := j) (by omega)
              obtain ⟨g2, o2, hbb, c2⟩ := (rb.keep hkk).cell (j := c) (by omega)
              have c1' : wr.cell? ⟨g1, o1 + j, none⟩ = some (.int .u8 (fn L k j : Int)) := c1
              have c2' : wr.cell? ⟨g2, o2 + c, none⟩ = some (.int .u8 (fn K j c : Int)) := c2
              have l1 := fn_lt bL k j
              have l2 := fn_lt bK j c
              have hcell := hrow.at (j := c) (by rw [rg_length]; exact hct)
              rw [rg_getD _ _ _ hct] at hcell
              have hfz := hrow.fz c
              have hx := u8_xor_nat (tq L K k c j c) (mu (fn L k j) (fn K j c)) (tq_lt L K k c j) (mu_lt _ _)
              have Hput : Hid (∀ q u, u = byt (tq L K k c j c ^^^ mu (fn L k j) (fn K j c)) → Row ((wr.drewN q).setCell ⟨b, c, none⟩ u) b (rg (tq L K k c (j + 1)) wd)) := Hid.mk (fun q u hu => by
                have := (hrow.keep ((Kept.refl [] wr).drewN q) (by simp)).put (c := c) hu
                rw [tq_step] at this
                exact this)
              have Hkx := Hid.mk hkx
              have hql := tq_lt L K k c j
              obtain ⟨x, ex⟩ : ∃ x, x = fn L k j := ⟨_, rfl⟩
              obtain ⟨y, ey⟩ : ∃ y, y = fn K j c := ⟨_, rfl⟩
              obtain ⟨z, ez⟩ : ∃ z, z = tq L K k c j c := ⟨_, rfl⟩
              rw [← ex] at c1' l1 hx Hput
              rw [← ey] at c2' l2 hx Hput
              rw [← ez] at hcell hx Hput hql
              clear ex ey ez c1 c2 hrow hkx hkk ea0 eb0 ra rb la lb
              subst hao hbo hba hbb
              have x1 : (k : Int) < (nL : Int) := by omega
              have x2 : (j : Int) < (nK : Int) := by omega
              have x3 : (c : Int) < (wd : Int) := by omega
              go_wp2
              go_quiet ((go_at_call 11; refine Calls.quiet_of_same (refMul_any _ _ l1 l2 _)))
              go_wp2
              go_roundw
              case rel => exact ⟨j + 1, by omega, by go_num, Hput.out _ _ rfl, (Hkx.out.drewN _).setCell (p := ⟨b, c, none⟩) (.inl (by simp)) _⟩
              case measure => simp [intOf]; omega
            · obtain rfl : j = nK := by omega
              have hr2 := hrow
              rw [show tq L K k c j = tq L K k (c + 1) 0 from by rw [← Hk.out]; exact tq_next L K k c] at hr2
              have HR := Hid.mk hr2
              have HKx := Hid.mk hkx
              clear hrow hr2 hkx
              go_wp2
              go_roundw
              case rel => exact ⟨c + 1, by omega, by go_num, HR.out, HKx.out⟩
              case measure => simp [intOf]; omega
        · obtain rfl : c = wd := by omega
          rw [rg_congr (q := tm L K k) (fun cc hcc => by unfold tq; rw [if_pos hcc])] at hrow
          have G4 := Hid.mk (G3.out.keep hkx (fun g hg => by simpa using Vlt.out g hg) (fun i hi => by have := Blt.out i hi; simp; omega))
          have HB4 := Hid.mk (HB3.out.trans (hkx.below HS3.out (fun x hx => by simp at hx; subst hx; exact BB.out)))
          have HS4 : Hid (B ≤ wr.heap.size) := Hid.mk (Nat.le_trans HS3.out hkx.size)
          have Hrow := Hid.mk hrow
          clear hrow hkx R3 G3 HB3 HS3 RD
          go_wp2_with (at_builtin; refine wpList_append_own_at _ rfl _ _ 38 rfl B 34 j0 (.slice none 0 0) 1 24 Try.underlying38 gi gz0 gz1 gz2 rfl (by decide) _ k (sl bs c k) rfl (G4.out.own.alloc _) ⟨wr.heap.size, 0, none⟩ 1 1 [.slice (some ⟨b, 0, none⟩) c c] rfl rfl (cell_one_new _ _ _) ?c2 ?c3 ?c4 ?c5 ?_)
          case c2 => intro u hu; simp at hu; subst hu; rfl
          case c3 => unfold maxLen; omega
          case c4 => omega
          case c5 => rw [World.size_alloc]; have := HS4.out; omega
          intro V' w5 ho5 hg5 _ _
          have hk5 : Kept u8.ownBlock.toList wr w5 := ((Kept.refl _ wr).alloc _).step (Kept.of_grown hg5) (fun x hx => .inl hx)
          have G5 := Hid.mk (G4.out.step Hrow.out Blt.out BB.out ho5 hk5)
          have HB5 := Hid.mk (HB4.out.trans (G4.out.below HS4.out hk5))
          have HS5 : Hid (B ≤ w5.heap.size) := Hid.mk (Nat.le_trans HS4.out hk5.size)
          clear ho5 hg5 hk5 G4 HB4 HS4 Hrow Blt Vlt
          go_wp2
          go_roundw
          case rel => exact ⟨k + 1, _, by omega, by go_num, G5.out, HB5.out, HS5.out⟩
          case measure => simp [intOf]; omega
    · obtain rfl : k = nL := by omega
      have HG := Hid.mk hg
      have HB := Hid.mk hbw
      clear hg hbw hsz
      go_wp2
      go_ret2
      have hb := HB.out
      rw [EB.out] at hb
      exact ⟨u8, bs, rfl, HG.out, Kept.of_below hb⟩
end Go.Proofs.Ytjnmnkheichflaa
