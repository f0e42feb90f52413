import Derived.Test.YtjnmnkheichflabQ2
import Derived.Test.YtjnmnkheichflabCa
import Derived.Test.YtjnmnkheichflabM7
namespace Go.Proofs.Ytjnmnkheichflab
open Go.RowKit

set_option maxHeartbeats 2000000 in
set_option maxRecDepth 1000000 in
theorem refCauchy_no (n k : Int) (w : World) (hb : Bad n k) (hn : -9223372036854775808 ≤ n ∧ n ≤ 9223372036854775807) (hk : -9223372036854775808 ≤ k ∧ k ≤ 9223372036854775807) :
    Calls Try.prog 17 #[.int .i64 n, .int .i64 k] w fun e w' => e = .returned (.tuple #[.slice none 0 0, .int .i64 42]) ∧ w' = w := by
  unfold Bad at hb
  by_cases h1 : n < 1
  · go_enter Try.func17, Try.ntmps17
    go_wp2
    go_ret2
    exact ⟨rfl, rfl⟩
  · by_cases h2 : k < 1
    · go_enter Try.func17, Try.ntmps17
      go_wp2
      go_ret2
      exact ⟨rfl, rfl⟩
    · by_cases h3 : 256 < n
      · go_enter Try.func17, Try.ntmps17
        go_wp2
        go_ret2
        exact ⟨rfl, rfl⟩
      · by_cases h4 : 256 < k
        · go_enter Try.func17, Try.ntmps17
          go_wp2
          go_ret2
          exact ⟨rfl, rfl⟩
        · have h5 : 256 < n + k := by omega
          go_enter Try.func17, Try.ntmps17
          go_wp2
          go_ret2
          exact ⟨rfl, rfl⟩

set_option maxHeartbeats 4000000 in
set_option maxRecDepth 1000000 in
theorem refCauchy_ok (n wd : Nat) (w : World) (h1 : 1 ≤ n) (h2 : 1 ≤ wd) (h3 : n + wd ≤ 256) :
    Calls Try.prog 17 #[.int .i64 (n : Int), .int .i64 (wd : Int)] w fun e w' => ∃ V bs, e = .returned (.tuple #[V, .int .i64 0]) ∧ Gl w.heap.size w' V n bs wd cf ∧ Kept [] w w' := by
  obtain ⟨i0, hi, hz0, hz1, hz2⟩ := info_parts Try.info5
  obtain ⟨j0, gi, gz0, gz1, gz2⟩ := info_parts Try.infoR
  obtain ⟨B, eB⟩ : ∃ B, B = w.heap.size := ⟨_, rfl⟩
  rw [← eB]
  have EB := Hid.mk eB
  clear eB
  have d1 : decide ((n : Int) < 1) = false := by simp; omega
  have d2 : decide ((wd : Int) < 1) = false := by simp; omega
  have d3 : decide ((256 : Int) < (n : Int)) = false := by simp; omega
  have d4 : decide ((256 : Int) < (wd : Int)) = false := by simp; omega
  have d5 : decide ((256 : Int) < (n : Int) + (wd : Int)) = false := by simp; omega
  go_enter Try.func17, Try.ntmps17
  go_wp2
  go_loopw [6, 7] (fun V s wr => ∃ (k : Nat) (bs : Nat → Nat), k ≤ n ∧ s = .int .i64 (k : Int) ∧ Gl B wr V k bs wd cf ∧ Below B w wr ∧ B ≤ wr.heap.size) (fun _ i _ => n - (intOf i).toNat)
  case atStart => exact ⟨0, fun _ => 0, by omega, rfl, Gl.start B w _ _ _, Below.refl _ _, by rw [EB.out]; exact Nat.le_refl _⟩
  case round =>
    obtain ⟨k, bs, hk, rfl, hg, hbw, hsz⟩ := hrel
    by_cases hlt : k < n
    · have HG := Hid.mk hg
      have HB := Hid.mk hbw
      have HS := Hid.mk hsz
      clear hg hbw hsz
      go_wp2_with (at_make; refine wpList_make_full _ rfl _ _ 31 rfl 0 5 i0 (.int .u8 0) 1 Try.underlying31 hi hz0 hz1 _ _ _ _ wd rfl rfl (by omega) (by omega) ?b2 ?b3 (by omega) ?_)
      case b2 => rw [hz2]; omega
      case b3 => unfold maxLen; omega
      intro w3 ho3 hg3
      have hk3 := Kept.of_grown hg3
      have hr3 := row_heap ho3 rfl
      rw [toList_madeCells_one, rg_none] at hr3
      obtain ⟨b, hb⟩ : ∃ b, b = wr.heap.size := ⟨_, rfl⟩
      rw [← hb] at hr3 ⊢
      have R3 : Hid (Row w3 b (rg (fun _ => 0) wd)) := Hid.mk hr3
      have G3 := Hid.mk (HG.out.keep0 hk3)
      have Blt : Hid (∀ i, i < k → bs i < b) := Hid.mk (fun i hi => by rw [hb]; exact (HG.out.row i hi).lt)
      have Vlt : Hid (∀ g, u6.ownBlock = some g → g ≠ b) := Hid.mk (fun g hg e => by subst e; exact own_row (HG.out.keep0 hk3).own hr3 hg)
      have BB : Hid (B ≤ b) := Hid.mk (by rw [hb]; exact HS.out)
      have HB3 := Hid.mk (HB.out.trans (hk3.below HS.out (by simp)))
      have HS3 : Hid (B ≤ w3.heap.size) := Hid.mk (Nat.le_trans HS.out hk3.size)
      clear hr3 hb ho3 hg3 hk3 HG HB HS
      obtain ⟨a, ha⟩ : ∃ a, a = 255 - k := ⟨_, rfl⟩
      have hai : (255 : Int) - (k : Int) = (a : Int) := by omega
      have hal : a < 256 := by omega
      have Hcf : Hid (∀ j, cf k j = iv (a ^^^ j)) := Hid.mk (fun j => by rw [ha]; rfl)
      have Hne : Hid (∀ j, j < wd → a ≠ j) := Hid.mk (fun j hj => by omega)
      clear ha
      go_wp2
      go_loopw [9] (fun s wx => ∃ j : Nat, j ≤ wd ∧ s = .int .i64 (j : Int) ∧ Row wx b (rg (upt j (fun _ => 0) (cf k)) wd) ∧ Kept [b] w3 wx) (fun i _ => wd - (intOf i).toNat)
      case atStart => exact ⟨0, by omega, rfl, by rw [upt_zero]; exact R3.out, Kept.refl _ _⟩
      case round =>
        obtain ⟨j, hj, rfl, hrow, hkx⟩ := hrel
        by_cases hjt : j < wd
        · have hcell := hrow.at (j := j) (by rw [rg_length]; exact hjt)
          rw [rg_getD _ _ _ hjt, upt_at] at hcell
          have hfz := hrow.fz j
          have hxl := xor_lt hal (show j < 256 by omega)
          have hx := u8_xor_nat a j hal (by omega)
          have C0 := Hid.mk (fun w => refInv_any (a ^^^ j) hxl w)
          rw [← Hcf.out j] at C0
          have Hset := Hid.mk (fun u hu => hrow.set (q := cf k) (u := u) hu)
          have Hkx := Hid.mk hkx
          obtain ⟨v, ev⟩ : ∃ v, v = cf k j := ⟨_, rfl⟩
          have EV := Hid.mk ev
          rw [← ev] at C0
          obtain ⟨x, ex⟩ : ∃ x, x = a ^^^ j := ⟨_, rfl⟩
          rw [← ex] at C0 hx hxl
          obtain ⟨y, ey⟩ : ∃ y, y = dvE x := ⟨_, rfl⟩
          rw [← ey] at C0
          clear ev ex ey hrow hkx
          have jx : (j : Int) < (wd : Int) := by omega
          go_wp2_with (go_at_call 34; refine (C0.out _).mono ?_; rintro e w' ⟨rfl, hw⟩; obtain rfl := hw.symm)
          go_roundw
          case rel => exact ⟨j + 1, by omega, by go_num, Hset.out _ (by rw [← EV.out]; rfl), Hkx.out.setCell (p := ⟨b, j, none⟩) (.inl (by simp)) _⟩
          case measure => simp [intOf]; omega
        · obtain rfl : j = wd := by omega
          rw [upt_full] at hrow
          have G4 := Hid.mk (G3.out.keep hkx (fun g hg => by simpa using Vlt.out g hg) (fun i hi => by have := Blt.out i hi; simp; omega))
          have HB4 := Hid.mk (HB3.out.trans (hkx.below HS3.out (fun x hx => by simp at hx; subst hx; exact BB.out)))
          have HS4 : Hid (B ≤ wr.heap.size) := Hid.mk (Nat.le_trans HS3.out hkx.size)
          have Hrow := Hid.mk hrow
          clear hrow hkx R3 G3 HB3 HS3
          go_wp2_with (at_builtin; refine wpList_append_own_at _ rfl _ _ 22 rfl B 31 j0 (.slice none 0 0) 1 24 Try.underlying22 gi gz0 gz1 gz2 rfl (by decide) _ k (sl bs j k) rfl (G4.out.own.alloc _) ⟨wr.heap.size, 0, none⟩ 1 1 [.slice (some ⟨b, 0, none⟩) j j] rfl rfl (cell_one_new _ _ _) ?c2 ?c3 ?c4 ?c5 ?_)
          case c2 => intro u hu; simp at hu; subst hu; rfl
          case c3 => unfold maxLen; omega
          case c4 => omega
          case c5 => rw [World.size_alloc]; have := HS4.out; omega
          intro V' w5 ho5 hg5 _ _
          have hk5 : Kept u6.ownBlock.toList wr w5 := ((Kept.refl _ wr).alloc _).step (Kept.of_grown hg5) (fun x hx => .inl hx)
          have G5 := Hid.mk (G4.out.step Hrow.out Blt.out BB.out ho5 hk5)
          have HB5 := Hid.mk (HB4.out.trans (G4.out.below HS4.out hk5))
          have HS5 : Hid (B ≤ w5.heap.size) := Hid.mk (Nat.le_trans HS4.out hk5.size)
          clear ho5 hg5 hk5 G4 HB4 HS4 Hrow Blt Vlt
          go_wp2
          go_roundw
          case rel => exact ⟨k + 1, _, by omega, by go_num, G5.out, HB5.out, HS5.out⟩
          case measure => simp [intOf]; omega
    · obtain rfl : k = n := by omega
      have HG := Hid.mk hg
      have HB := Hid.mk hbw
      clear hg hbw hsz
      go_wp2
      go_ret2
      have hb := HB.out
      rw [EB.out] at hb
      exact ⟨u6, bs, rfl, HG.out, Kept.of_below hb⟩
end Go.Proofs.Ytjnmnkheichflab
