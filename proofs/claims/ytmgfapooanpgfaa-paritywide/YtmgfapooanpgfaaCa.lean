import Derived.Test.YtmgfapooanpgfaaG4
import Derived.Test.YtmgfapooanpgfaaM3
namespace Go.Proofs.Ytmgfapooanpgfaa
open Go.RowKit

/-- Cauchy's elements. -/
def cf (i j : Nat) : Nat := iv ((255 - i) ^^^ j)
theorem cf_lo : Lo cf := fun _ _ => iv_lt _
/-- Of which sizes there is none. -/
def Bad (n k : Int) : Prop := n < 1 ∨ k < 1 ∨ 256 < n + k

set_option maxHeartbeats 2000000 in
set_option maxRecDepth 1000000 in
theorem cauchy_no (n k : Int) (w : World) (hb : Bad n k) (hn : -9223372036854775808 ≤ n ∧ n ≤ 9223372036854775807) (hk : -9223372036854775808 ≤ k ∧ k ≤ 9223372036854775807) :
    Calls Try.prog 16 #[.int .i64 n, .int .i64 k] w fun e w' => e = .returned (.tuple #[.slice none 0 0, .int .i64 42]) ∧ w' = w := by
  unfold Bad at hb
  by_cases h1 : n < 1
  · go_enter Try.func16, Try.ntmps16
    go_wp2
    go_ret2
    exact ⟨rfl, rfl⟩
  · by_cases h2 : k < 1
    · go_enter Try.func16, Try.ntmps16
      go_wp2
      go_ret2
      exact ⟨rfl, rfl⟩
    · have h3 : 256 - k < n := by omega
      go_enter Try.func16, Try.ntmps16
      go_wp2
      go_ret2
      exact ⟨rfl, rfl⟩

set_option maxHeartbeats 4000000 in
set_option maxRecDepth 1000000 in
theorem cauchy_ok (n k : Nat) (w : World) (h1 : 1 ≤ n) (h2 : 1 ≤ k) (h3 : n + k ≤ 256) :
    Calls Try.prog 16 #[.int .i64 (n : Int), .int .i64 (k : Int)] w fun e w' => ∃ g bs, e = .returned (.tuple #[.slice (some ⟨g, 0, none⟩) n n, .int .i64 0]) ∧ Mt w' g n bs k cf ∧ w.heap.size ≤ g ∧ (∀ i, i < n → w.heap.size ≤ bs i) ∧ Kept [] w w' := by
  have d1 : decide ((n : Int) < 1) = false := by simp; omega
  have d2 : decide ((k : Int) < 1) = false := by simp; omega
  have d3 : decide ((256 : Int) - (k : Int) < (n : Int)) = false := by simp; omega
  go_enter Try.func16, Try.ntmps16
  go_wp2_with (fail)
  refine (noughts_any n k w (by omega) (by omega)).mono ?_
  rintro e w2 ⟨bs, rfl, hM, hbs, hk2⟩
  obtain ⟨G, eG⟩ : ∃ G, G = w.heap.size := ⟨_, rfl⟩
  rw [← eG] at hM hbs ⊢
  have HM := Hid.mk (hM.congr (G := fun i j => if i < 0 then cf i j else 0) (fun i _ j _ => if_neg (by omega)))
  have HB := Hid.mk hbs
  have HK2 := Hid.mk hk2
  have EG := Hid.mk eG
  clear hM hbs hk2 eG
  go_wp2
  go_loopw [27] (fun s wr => ∃ i : Nat, i ≤ n ∧ s = .int .i64 (i : Int) ∧ Mt wr G n bs k (fun a j => if a < i then cf a j else 0) ∧ Kept [] w wr) (fun s _ => n - (intOf s).toNat)
  case atStart => exact ⟨0, by omega, rfl, HM.out, HK2.out⟩
  case round =>
    obtain ⟨i, hi, rfl, hm, hkr⟩ := hrel
    clear HM HK2
    by_cases hlt : i < n
    · have hout := hm.out i hlt
      have Hm := Hid.mk hm
      have Hkr := Hid.mk hkr
      have R0 : Hid (Row wr (bs i) (rg (upt 0 (fun _ => 0) (cf i)) k)) := Hid.mk (by
        have := hm.row i hlt
        rw [rg_congr (q := fun _ => 0) (fun j _ => if_neg (by omega))] at this
        rw [upt_zero]; exact this)
      clear hm hkr
      have ix : (i : Int) < (n : Int) := by omega
      obtain ⟨a, ha⟩ : ∃ a, a = 255 - i := ⟨_, rfl⟩
      have hai : (255 : Int) - (i : Int) = (a : Int) := by omega
      have hal : a < 256 := by omega
      have Hcf : Hid (∀ j, cf i j = iv (a ^^^ j)) := Hid.mk (fun j => by rw [ha]; rfl)
      clear ha
      go_wp2
      clear hout
      go_loopw [34] (fun s wx => ∃ j : Nat, j ≤ k ∧ s = .int .i64 (j : Int) ∧ Row wx (bs i) (rg (upt j (fun _ => 0) (cf i)) k) ∧ Kept [bs i] wr wx) (fun s _ => k - (intOf s).toNat)
      case atStart => exact ⟨0, by omega, rfl, R0.out, Kept.refl _ _⟩
      case round =>
        obtain ⟨j, hj, rfl, hrow, hkx⟩ := hrel
        by_cases hjt : j < k
        · have hxl := xor_lt hal (show j < 256 by omega)
          have hx := u8_xor_nat a j hal (by omega)
          have C0 := Hid.mk (fun w => power_any (a ^^^ j) 254 hxl (by decide) w)
          rw [show pw (a ^^^ j) 254 = iv (a ^^^ j) from rfl, ← Hcf.out j] at C0
          have hcell := hrow.at (j := j) (by rw [rg_length]; exact hjt)
          rw [rg_getD _ _ _ hjt, upt_at] at hcell
          have hfz := hrow.fz j
          have Hrow := Hid.mk hrow
          have Hkx := Hid.mk hkx
          obtain ⟨v, ev⟩ : ∃ v, v = cf i j := ⟨_, rfl⟩
          have EV := Hid.mk ev
          rw [← ev] at C0
          obtain ⟨x, ex⟩ : ∃ x, x = a ^^^ j := ⟨_, rfl⟩
          rw [← ex] at C0 hx hxl
          clear ev ex hrow hkx
          have jx : (j : Int) < (k : Int) := by omega
          go_wp2_with (go_at_call 38; refine (C0.out _).mono ?_; rintro e w3 ⟨rfl, m3, rfl⟩)
          go_roundw
          case rel =>
            refine ⟨j + 1, by omega, by go_num, ?_, (Hkx.out.drewN _).setCell (p := ⟨bs i, j, none⟩) (.inl (by simp)) _⟩
            exact (Hrow.out.keep ((Kept.refl [] _).drewN m3) (by simp)).set (q := cf i) (by rw [← EV.out]; rfl)
          case measure => simp [intOf]; omega
        · obtain rfl : j = k := by omega
          rw [upt_full] at hrow
          have Hm2 := Hid.mk (Hm.out.upd (G := fun a c => if a < i + 1 then cf a c else 0) hlt hkx (by rw [rg_congr (q := cf i) (fun c _ => if_pos (by omega))]; exact hrow) (fun i' _ hn c _ => by
            by_cases h : i' < i
            · rw [if_pos (by omega), if_pos h]
            · rw [if_neg (by omega), if_neg h]))
          have Hk2 := Hid.mk (Hkr.out.step hkx (fun x hx => by simp at hx; subst hx; right; have := HB.out i hlt; have := EG.out; omega))
          clear hrow hkx Hm Hkr
          go_wp2
          go_roundw
          case rel => exact ⟨i + 1, by omega, by go_num, Hm2.out, Hk2.out⟩
          case measure => simp [intOf]; omega
    · obtain rfl : i = n := by omega
      have Hm := Hid.mk hm
      have Hkr := Hid.mk hkr
      clear hm hkr
      go_wp2
      go_ret2
      refine ⟨G, bs, rfl, Hm.out.congr (fun i hi j _ => (if_pos hi).symm), by rw [EG.out]; exact Nat.le_refl _, fun i hi => by have := HB.out i hi; have := EG.out; omega, Hkr.out⟩
end Go.Proofs.Ytmgfapooanpgfaa
