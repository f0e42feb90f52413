import Derived.Test.YtjnmnkheichflabQ1
namespace Go.Proofs.Ytjnmnkheichflab
open Go.RowKit

/-- The raw numbers as a matrix. -/
def sqf (raw : List Nat) (n : Nat) : Nat → Nat → Nat := fun i j => raw.getD (i * n + j) 0
theorem sqf_lo {raw : List Nat} (h : Byts raw) (n : Nat) : Lo (sqf raw n) := fun _ _ => getD_lt raw _ h
theorem sqf_out {raw : List Nat} {n i j : Nat} (h : raw.length ≤ i * n + j) : sqf raw n i j = 0 := by
  unfold sqf
  rw [List.getD_eq_getElem?_getD, List.getElem?_eq_none h]; rfl
/-- As far as k, where nothing is to be written. -/
theorem upt_stay {p q : Nat → Nat} {k n : Nat} (h : q k = p k) : rg (upt k p q) n = rg (upt (k + 1) p q) n := by
  apply rg_congr
  intro j _
  unfold upt
  by_cases e : j = k
  · subst e; rw [if_neg (by omega), if_pos (by omega), h]
  · have : (j < k) = (j < k + 1) := by apply propext; omega
    simp only [this]

set_option maxHeartbeats 4000000 in
set_option maxRecDepth 1000000 in
theorem square_any (ao : Option Addr) (ca m n : Nat) (raw : List Nat) (w : World) (hr : Reads w ao raw) (hb : Byts raw) (hm : raw.length = m) (hl : m ≤ 140737488355328) (hn : n ≤ 256) :
    Calls Try.prog 19 #[.slice ao m ca, .int .i64 (n : Int)] w fun e w' => ∃ V bs, e = .returned V ∧ Gl w.heap.size w' V n bs n (sqf raw n) ∧ Kept [] w w' := by
  obtain ⟨i0, hi, hz0, hz1, hz2⟩ := info_parts Try.info5
  obtain ⟨j0, gi, gz0, gz1, gz2⟩ := info_parts Try.infoR
  have Hr := Hid.mk hr
  have Hm := Hid.mk hm
  have Hb := Hid.mk hb
  clear hr hm hb
  obtain ⟨B, eB⟩ : ∃ B, B = w.heap.size := ⟨_, rfl⟩
  rw [← eB]
  have EB := Hid.mk eB
  clear eB
  go_enter Try.func19, Try.ntmps19
  go_wp2
  go_loopw [5, 6] (fun V s wr => ∃ (k : Nat) (bs : Nat → Nat), k ≤ n ∧ s = .int .i64 (k : Int) ∧ Gl B wr V k bs n (sqf raw n) ∧ Below B w wr ∧ B ≤ wr.heap.size) (fun _ i _ => n - (intOf i).toNat)
  case atStart => exact ⟨0, fun _ => 0, by omega, rfl, Gl.start B w _ _ _, Below.refl _ _, by rw [EB.out]; exact Nat.le_refl _⟩
  case round =>
    obtain ⟨k, bs, hk, rfl, hg, hbw, hsz⟩ := hrel
    by_cases hlt : k < n
    · have HG := Hid.mk hg
      have HB := Hid.mk hbw
      have HS := Hid.mk hsz
      clear hg hbw hsz
      go_wp2_with (at_make; refine wpList_make_full _ rfl _ _ 31 rfl 0 5 i0 (.int .u8 0) 1 Try.underlying31 hi hz0 hz1 _ _ _ _ n rfl rfl (by omega) (by omega) ?b2 ?b3 (by omega) ?_)
      case b2 => rw [hz2]; omega
      case b3 => unfold maxLen; omega
      intro w3 ho3 hg3
      have hk3 := Kept.of_grown hg3
      have hr3 := row_heap ho3 rfl
      rw [toList_madeCells_one, rg_none] at hr3
      obtain ⟨b, hb⟩ : ∃ b, b = wr.heap.size := ⟨_, rfl⟩
      rw [← hb] at hr3 ⊢
      have R3 : Hid (Row w3 b (rg (fun _ => 0) n)) := Hid.mk hr3
      have G3 := Hid.mk (HG.out.keep0 hk3)
      have Blt : Hid (∀ i, i < k → bs i < b) := Hid.mk (fun i hi => by rw [hb]; exact (HG.out.row i hi).lt)
      have Vlt : Hid (∀ g, u5.ownBlock = some g → g ≠ b) := Hid.mk (fun g hg e => by subst e; exact own_row (HG.out.keep0 hk3).own hr3 hg)
      have BB : Hid (B ≤ b) := Hid.mk (by rw [hb]; exact HS.out)
      have HB3 := Hid.mk (HB.out.trans (hk3.below HS.out (by simp)))
      have HS3 : Hid (B ≤ w3.heap.size) := Hid.mk (Nat.le_trans HS.out hk3.size)
      clear hr3 hb ho3 hg3 hk3 HG HB HS
      obtain ⟨q, hq⟩ : ∃ q, q = k * n := ⟨_, rfl⟩
      have hqi : (k : Int) * (n : Int) = (q : Int) := by rw [hq]; simp
      have hq2 : q ≤ 65536 := by rw [hq]; exact Nat.le_trans (Nat.mul_le_mul (show k ≤ 256 by omega) hn) (by decide)
      have Hq := Hid.mk hq
      clear hq
      go_wp2
      go_loopw [8] (fun s wx => ∃ j : Nat, j ≤ n ∧ s = .int .i64 (j : Int) ∧ Row wx b (rg (upt j (fun _ => 0) (sqf raw n k)) n) ∧ Kept [b] w3 wx) (fun i _ => n - (intOf i).toNat)
      case atStart => exact ⟨0, by omega, rfl, by rw [upt_zero]; exact R3.out, Kept.refl _ _⟩
      case round =>
        obtain ⟨j, hj, rfl, hrow, hkx⟩ := hrel
        by_cases hjt : j < n
        · have hcell := hrow.at (j := j) (by rw [rg_length]; exact hjt)
          rw [rg_getD _ _ _ hjt, upt_at] at hcell
          have hfz := hrow.fz j
          by_cases hin : q + j < m
          · have hsrc := (Hr.out.keep (Kept.of_below (by have := HB3.out; rw [EB.out] at this; exact this))).stay hkx (fun hp g off e hmem => by
              have h1 := Hr.out.lt hp g off e
              have h2 := BB.out
              have h3 := EB.out
              simp at hmem
              omega)
            obtain ⟨g, off, hao, hc⟩ := hsrc.cell (j := q + j) (by have := Hm.out; omega)
            have Hset := Hid.mk (fun u hu => hrow.set (q := sqf raw n k) (u := u) hu)
            have Hv : Hid (sqf raw n k j = raw.getD (q + j) 0) := Hid.mk (by unfold sqf; rw [Hq.out])
            have hvl := getD_lt raw (q + j) Hb.out
            obtain ⟨v, ev⟩ : ∃ v, v = raw.getD (q + j) 0 := ⟨_, rfl⟩
            rw [← ev] at hc hvl Hv
            have Hkx := Hid.mk hkx
            clear ev hrow hkx hsrc
            subst hao
            have hadd : (q : Int) + (j : Int) = ((q + j : Nat) : Int) := by simp
            have i1 : ((q + j : Nat) : Int) < (m : Int) := by omega
            obtain ⟨pp, ep⟩ : ∃ pp, pp = q + j := ⟨_, rfl⟩
            rw [← ep] at hadd i1 hc
            have hpm : pp ≤ 65536 + 256 := by omega
            clear ep hin
            have i2 : (j : Int) < (n : Int) := by omega
            go_wp2
            go_roundw
            case rel => exact ⟨j + 1, by omega, by go_num, Hset.out _ (by rw [Hv.out]; rfl), Hkx.out.setCell (p := ⟨b, j, none⟩) (.inl (by simp)) _⟩
            case measure => simp [intOf]; omega
          · have hrow2 := hrow
            rw [upt_stay (p := fun _ => 0) (q := sqf raw n k) (by rw [sqf_out (by have := Hm.out; have := Hq.out; omega)])] at hrow2
            have Hrow := Hid.mk hrow2
            have Hkx := Hid.mk hkx
            clear hrow hrow2 hkx hcell hfz
            have hadd : (q : Int) + (j : Int) = ((q + j : Nat) : Int) := by simp
            have i1 : ¬ ((q + j : Nat) : Int) < (m : Int) := by omega
            obtain ⟨pp, ep⟩ : ∃ pp, pp = q + j := ⟨_, rfl⟩
            rw [← ep] at hadd i1
            have hpm : pp ≤ 65536 + 256 := by omega
            clear ep hin
            go_wp2
            go_roundw
            case rel => exact ⟨j + 1, by omega, by go_num, Hrow.out, Hkx.out⟩
            case measure => simp [intOf]; omega
        · obtain rfl : j = n := by omega
          rw [upt_full] at hrow
          have G4 := Hid.mk (G3.out.keep hkx (fun g hg => by simpa using Vlt.out g hg) (fun i hi => by have := Blt.out i hi; simp; omega))
          have HB4 := Hid.mk (HB3.out.trans (hkx.below HS3.out (fun x hx => by simp at hx; subst hx; exact BB.out)))
          have HS4 : Hid (B ≤ wr.heap.size) := Hid.mk (Nat.le_trans HS3.out hkx.size)
          have Hrow := Hid.mk hrow
          clear hrow hkx R3 G3 HB3 HS3
          go_wp2_with (at_builtin; refine wpList_append_own_at _ rfl _ _ 22 rfl B 31 j0 (.slice none 0 0) 1 24 Try.underlying22 gi gz0 gz1 gz2 rfl (by decide) _ k (sl bs j k) rfl (G4.out.own.alloc _) ⟨wr.heap.size, 0, none⟩ 1 1 [.slice (some ⟨b, 0, none⟩) j j] rfl rfl (cell_one_new _ _ _) ?c2 ?c3 ?c4 ?c5 ?_)
          case c2 => intro u hu; simp at hu; subst hu; rfl
          case c3 => unfold maxLen; omega
          case c4 => omega
          case c5 => rw [World.size_alloc]; have := HS4.out; omega
          intro V' w5 ho5 hg5 _ _
          have hk5 : Kept u5.ownBlock.toList wr w5 := ((Kept.refl _ wr).alloc _).step (Kept.of_grown hg5) (fun x hx => .inl hx)
          have G5 := Hid.mk (G4.out.step Hrow.out Blt.out BB.out ho5 hk5)
          have HB5 := Hid.mk (HB4.out.trans (G4.out.below HS4.out hk5))
          have HS5 : Hid (B ≤ w5.heap.size) := Hid.mk (Nat.le_trans HS4.out hk5.size)
          clear ho5 hg5 hk5 G4 HB4 HS4 Hrow Blt Vlt
          go_wp2
          go_roundw
          case rel => exact ⟨k + 1, _, by omega, by go_num, G5.out, HB5.out, HS5.out⟩
          case measure => simp [intOf]; omega
    · obtain rfl : k = n := by omega
      have HG := Hid.mk hg
      have HB := Hid.mk hbw
      clear hg hbw hsz
      go_wp2
      go_ret
      have hb := HB.out
      rw [EB.out] at hb
      exact ⟨u5, bs, rfl, HG.out, Kept.of_below hb⟩
/-- The raw numbers from the end. -/
def wdf (raw : List Nat) (wd : Nat) : Nat → Nat → Nat := fun i j => if i * wd + j < raw.length then raw.getD (raw.length - 1 - i * wd - j) 0 else 0
theorem wdf_lo {raw : List Nat} (h : Byts raw) (wd : Nat) : Lo (wdf raw wd) := fun i j => by
  unfold wdf
  split
  · exact getD_lt raw _ h
  · decide

set_option maxHeartbeats 4000000 in
set_option maxRecDepth 1000000 in
theorem wide_any (ao : Option Addr) (ca m n wd : Nat) (raw : List Nat) (w : World) (hr : Reads w ao raw) (hb : Byts raw) (hm : raw.length = m) (hl : m ≤ 140737488355328) (hn : n ≤ 256) (hw : wd ≤ 300) :
    Calls Try.prog 20 #[.slice ao m ca, .int .i64 (n : Int), .int .i64 (wd : Int)] w fun e w' => ∃ V bs, e = .returned V ∧ Gl w.heap.size w' V n bs wd (wdf raw wd) ∧ Kept [] w w' := by
  obtain ⟨i0, hi, hz0, hz1, hz2⟩ := info_parts Try.info5
  obtain ⟨j0, gi, gz0, gz1, gz2⟩ := info_parts Try.infoR
  have Hr := Hid.mk hr
  have Hm := Hid.mk hm
  have Hb := Hid.mk hb
  clear hr hm hb
  obtain ⟨B, eB⟩ : ∃ B, B = w.heap.size := ⟨_, rfl⟩
  rw [← eB]
  have EB := Hid.mk eB
  clear eB
  go_enter Try.func20, Try.ntmps20
  go_wp2
  go_loopw [7, 8] (fun V s wr => ∃ (k : Nat) (bs : Nat → Nat), k ≤ n ∧ s = .int .i64 (k : Int) ∧ Gl B wr V k bs wd (wdf raw wd) ∧ Below B w wr ∧ B ≤ wr.heap.size) (fun _ i _ => n - (intOf i).toNat)
  case atStart => exact ⟨0, fun _ => 0, by omega, rfl, Gl.start B w _ _ _, Below.refl _ _, by rw [EB.out]; exact Nat.le_refl _⟩
  case round =>
    obtain ⟨k, bs, hk, rfl, hg, hbw, hsz⟩ := hrel
    by_cases hlt : k < n
    · have HG := Hid.mk hg
      have HB := Hid.mk hbw
      have HS := Hid.mk hsz
      clear hg hbw hsz
      go_wp2_with (at_make; refine wpList_make_full _ rfl _ _ 31 rfl 0 5 i0 (.int .u8 0) 1 Try.underlying31 hi hz0 hz1 _ _ _ _ wd rfl rfl (by omega) (by omega) ?b2 ?b3 (by omega) ?_)
      case b2 => rw [hz2]; omega
      case b3 => unfold maxLen; omega
      intro w3 ho3 hg3
      have hk3 := Kept.of_grown hg3
      have hr3 := row_heap ho3 rfl
      rw [toList_madeCells_one, rg_none] at hr3
      obtain ⟨b, hb⟩ : ∃ b, b = wr.heap.size := ⟨_, rfl⟩
      rw [← hb] at hr3 ⊢
      have R3 : Hid (Row w3 b (rg (fun _ => 0) wd)) := Hid.mk hr3
      have G3 := Hid.mk (HG.out.keep0 hk3)
      have Blt : Hid (∀ i, i < k → bs i < b) := Hid.mk (fun i hi => by rw [hb]; exact (HG.out.row i hi).lt)
      have Vlt : Hid (∀ g, u7.ownBlock = some g → g ≠ b) := Hid.mk (fun g hg e => by subst e; exact own_row (HG.out.keep0 hk3).own hr3 hg)
      have BB : Hid (B ≤ b) := Hid.mk (by rw [hb]; exact HS.out)
      have HB3 := Hid.mk (HB.out.trans (hk3.below HS.out (by simp)))
      have HS3 : Hid (B ≤ w3.heap.size) := Hid.mk (Nat.le_trans HS.out hk3.size)
      clear hr3 hb ho3 hg3 hk3 HG HB HS
      obtain ⟨q, hq⟩ : ∃ q, q = k * wd := ⟨_, rfl⟩
      have hqi : (k : Int) * (wd : Int) = (q : Int) := by rw [hq]; simp
      have hq2 : q ≤ 76800 := by rw [hq]; exact Nat.le_trans (Nat.mul_le_mul (show k ≤ 256 by omega) hw) (by decide)
      have Hq := Hid.mk hq
      clear hq
      go_wp2
      go_loopw [10] (fun s wx => ∃ j : Nat, j ≤ wd ∧ s = .int .i64 (j : Int) ∧ Row wx b (rg (upt j (fun _ => 0) (wdf raw wd k)) wd) ∧ Kept [b] w3 wx) (fun i _ => wd - (intOf i).toNat)
      case atStart => exact ⟨0, by omega, rfl, by rw [upt_zero]; exact R3.out, Kept.refl _ _⟩
      case round =>
        obtain ⟨j, hj, rfl, hrow, hkx⟩ := hrel
        by_cases hjt : j < wd
        · have hcell := hrow.at (j := j) (by rw [rg_length]; exact hjt)
          rw [rg_getD _ _ _ hjt, upt_at] at hcell
          have hfz := hrow.fz j
          by_cases hin : q + j < m
          · have hsrc := (Hr.out.keep (Kept.of_below (by have := HB3.out; rw [EB.out] at this; exact this))).stay hkx (fun hp g off e hmem => by
              have h1 := Hr.out.lt hp g off e
              have h2 := BB.out
              have h3 := EB.out
              simp at hmem
              omega)
            obtain ⟨g, off, hao, hc⟩ := hsrc.cell (j := m - 1 - q - j) (by have := Hm.out; omega)
            have Hset := Hid.mk (fun u hu => hrow.set (q := wdf raw wd k) (u := u) hu)
            have Hv : Hid (wdf raw wd k j = raw.getD (m - 1 - q - j) 0) := Hid.mk (by unfold wdf; rw [Hm.out, if_pos (by have := Hq.out; omega), Hq.out])
            have hvl := getD_lt raw (m - 1 - q - j) Hb.out
            obtain ⟨v, ev⟩ : ∃ v, v = raw.getD (m - 1 - q - j) 0 := ⟨_, rfl⟩
            rw [← ev] at hc hvl Hv
            have Hkx := Hid.mk hkx
            clear ev hrow hkx hsrc
            subst hao
            have hadd : (q : Int) + (j : Int) = ((q + j : Nat) : Int) := by simp
            have i1 : ((q + j : Nat) : Int) < (m : Int) := by omega
            obtain ⟨rr, er⟩ : ∃ rr, rr = m - 1 - q - j := ⟨_, rfl⟩
            rw [← er] at hc
            have hrr : (m : Int) - 1 - (q : Int) - (j : Int) = (rr : Int) := by omega
            have i3 : (rr : Int) < (m : Int) := by omega
            obtain ⟨pp, ep⟩ : ∃ pp, pp = q + j := ⟨_, rfl⟩
            rw [← ep] at hadd i1
            have hpm : pp ≤ 76800 + 300 := by omega
            have b1 : (0 : Int) ≤ (m : Int) - 1 := by omega
            have b2 : (0 : Int) ≤ (m : Int) - 1 - (q : Int) := by omega
            clear ep hin er
            have i2 : (j : Int) < (wd : Int) := by omega
            go_wp2
            go_roundw
            case rel => exact ⟨j + 1, by omega, by go_num, Hset.out _ (by rw [Hv.out]; rfl), Hkx.out.setCell (p := ⟨b, j, none⟩) (.inl (by simp)) _⟩
            case measure => simp [intOf]; omega
          · have hrow2 := hrow
            rw [upt_stay (p := fun _ => 0) (q := wdf raw wd k) (by unfold wdf; rw [Hm.out, if_neg (by have := Hq.out; omega)])] at hrow2
            have Hrow := Hid.mk hrow2
            have Hkx := Hid.mk hkx
            clear hrow hrow2 hkx hcell hfz
            have hadd : (q : Int) + (j : Int) = ((q + j : Nat) : Int) := by simp
            have i1 : ¬ ((q + j : Nat) : Int) < (m : Int) := by omega
            obtain ⟨pp, ep⟩ : ∃ pp, pp = q + j := ⟨_, rfl⟩
            rw [← ep] at hadd i1
            have hpm : pp ≤ 76800 + 300 := by omega
            clear ep hin
            go_wp2
            go_roundw
            case rel => exact ⟨j + 1, by omega, by go_num, Hrow.out, Hkx.out⟩
            case measure => simp [intOf]; omega
        · obtain rfl : j = wd := by omega
          rw [upt_full] at hrow
          have G4 := Hid.mk (G3.out.keep hkx (fun g hg => by simpa using Vlt.out g hg) (fun i hi => by have := Blt.out i hi; simp; omega))
          have HB4 := Hid.mk (HB3.out.trans (hkx.below HS3.out (fun x hx => by simp at hx; subst hx; exact BB.out)))
          have HS4 : Hid (B ≤ wr.heap.size) := Hid.mk (Nat.le_trans HS3.out hkx.size)
          have Hrow := Hid.mk hrow
          clear hrow hkx R3 G3 HB3 HS3
          go_wp2_with (at_builtin; refine wpList_append_own_at _ rfl _ _ 22 rfl B 31 j0 (.slice none 0 0) 1 24 Try.underlying22 gi gz0 gz1 gz2 rfl (by decide) _ k (sl bs j k) rfl (G4.out.own.alloc _) ⟨wr.heap.size, 0, none⟩ 1 1 [.slice (some ⟨b, 0, none⟩) j j] rfl rfl (cell_one_new _ _ _) ?c2 ?c3 ?c4 ?c5 ?_)
          case c2 => intro u hu; simp at hu; subst hu; rfl
          case c3 => unfold maxLen; omega
          case c4 => omega
          case c5 => rw [World.size_alloc]; have := HS4.out; omega
          intro V' w5 ho5 hg5 _ _
          have hk5 : Kept u7.ownBlock.toList wr w5 := ((Kept.refl _ wr).alloc _).step (Kept.of_grown hg5) (fun x hx => .inl hx)
          have G5 := Hid.mk (G4.out.step Hrow.out Blt.out BB.out ho5 hk5)
          have HB5 := Hid.mk (HB4.out.trans (G4.out.below HS4.out hk5))
          have HS5 : Hid (B ≤ w5.heap.size) := Hid.mk (Nat.le_trans HS4.out hk5.size)
          clear ho5 hg5 hk5 G4 HB4 HS4 Hrow Blt Vlt
          go_wp2
          go_roundw
          case rel => exact ⟨k + 1, _, by omega, by go_num, G5.out, HB5.out, HS5.out⟩
          case measure => simp [intOf]; omega
    · obtain rfl : k = n := by omega
      have HG := Hid.mk hg
      have HB := Hid.mk hbw
      clear hg hbw hsz
      go_wp2
      go_ret
      have hb := HB.out
      rw [EB.out] at hb
      exact ⟨u7, bs, rfl, HG.out, Kept.of_below hb⟩
end Go.Proofs.Ytjnmnkheichflab
