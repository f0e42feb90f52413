import Derived.Test.YtdnbjbdokppfnaaDoorI2
import Derived.Test.YtdnbjbdokppfnaaDoorD4
namespace Go.Proofs.YtdnbjbdokppfnaaDoor
open Go.RowKit Go.Lib

/-- What a name's form has at a place. -/
def fc (t : Int) (i : Nat) : Int := if i % 3 < 2 then 100 else if i = 8 then t else 58
def fs (t : Int) : ByteArray := strOfNums [100, 100, 58, 100, 100, 58, 100, 100, t, 100, 100]
theorem fs_eq (t : Int) : ⟨#[100, 100, 58, 100, 100, 58, 100, 100]⟩ ++ strOfNums [t] ++ ⟨#[100, 100]⟩ = fs t := by
  rw [show (⟨#[100, 100, 58, 100, 100, 58, 100, 100]⟩ : ByteArray) = strOfNums [100, 100, 58, 100, 100, 58, 100, 100] from rfl, show (⟨#[100, 100]⟩ : ByteArray) = strOfNums [100, 100] from rfl, str_app, str_app]
  rfl
theorem fs_size (t : Int) : (fs t).size = 11 := by unfold fs; rw [strOfNums_size]; rfl
theorem fs_bt (t : Int) (t0 : 58 ≤ t) (t1 : t ≤ 59) (i : Nat) (hi : i < 11) : bt (fs t) i = fc t i := by
  have h11 : i = 0 ∨ i = 1 ∨ i = 2 ∨ i = 3 ∨ i = 4 ∨ i = 5 ∨ i = 6 ∨ i = 7 ∨ i = 8 ∨ i = 9 ∨ i = 10 := by omega
  unfold fs
  rcases h11 with rfl | rfl | rfl | rfl | rfl | rfl | rfl | rfl | rfl | rfl | rfl
  all_goals (rw [bt_nums _ _ _ rfl (by omega) (by omega)]; rfl)
theorem bt_get (s : ByteArray) (i : Nat) (h : i < s.size) : ((s[i]'h).toNat : Int) = bt s i := by unfold bt; rw [dif_pos h]
theorem bt_pos (s : ByteArray) (i : Nat) : 0 ≤ bt s i := by unfold bt; split <;> omega
theorem more {l : Int} {s : ByteArray} {k : Nat} (h : ∀ j, j < k → Ok l s j) (hk : Ok l s k) : ∀ j, j < k + 1 → Ok l s j := fun j hj => by
  by_cases e : j = k
  · rw [e]; exact hk
  · exact h j (by omega)
/-- What formed tells. -/
def FmP (l : Int) (s : ByteArray) (e : Ending) : Prop := (Gd l s ∧ e = .returned (.int .i64 (-1))) ∨ ∃ k : Nat, Bd l s k ∧ e = .returned (.int .i64 k)

set_option maxHeartbeats 8000000 in
set_option maxRecDepth 1000000 in
theorem formed_any (r : Int) (s : ByteArray) (w : World) (h : Rt r) (hs : s.size ≤ maxLen) : Calls Tryd.prog 44 #[.int .i64 r, .string s] w fun e w' => FmP (rl r) s e ∧ Kept [] w w' := by
  unfold maxLen at hs
  have C1 := Hid.mk (fun u => behind_any r u h)
  have ⟨t0, t1⟩ := lm_bd (rl r)
  obtain ⟨t, et⟩ : ∃ t, lm (rl r) = t := ⟨_, rfl⟩
  have OK : Hid (∀ (k : Nat) (x : Int), okc (rl r) k x = if k % 3 < 2 then (decide (48 ≤ x) && decide (x ≤ 57)) else if k = 8 then x == t else x == 58) := Hid.mk fun k x => by
    unfold okc
    rw [et]
    by_cases a : k % 3 < 2
    · rw [if_pos a, if_pos (by omega)]
    · rw [if_neg a, if_neg (by omega)]
      by_cases b : k = 8
      · rw [if_pos b, if_pos (by omega)]
      · rw [if_neg b, if_neg (by omega)]
  rw [et] at t0 t1 C1
  have e0 := fs_eq t
  have z0 := strOfNums_size [t]
  have z2 := fs_size t
  have FB := Hid.mk (fun i hi => fs_bt t t0 t1 i hi)
  obtain ⟨S, eS⟩ : ∃ S, strOfNums [t] = S := ⟨_, rfl⟩
  rw [eS] at C1 e0 z0
  obtain ⟨F, eF⟩ : ∃ F, fs t = F := ⟨_, rfl⟩
  rw [eF] at e0 z2 FB
  obtain ⟨G, eG⟩ : ∃ G, (⟨#[100, 100, 58, 100, 100, 58, 100, 100]⟩ : ByteArray) ++ S = G := ⟨_, rfl⟩
  rw [eG] at e0
  have z0 : S.size = 1 := z0
  have z3 : (⟨#[100, 100, 58, 100, 100, 58, 100, 100]⟩ : ByteArray).size = 8 := rfl
  have z4 : (⟨#[100, 100]⟩ : ByteArray).size = 2 := rfl
  have z1 : G.size = 9 := by rw [← eG, ByteArray.size_append]; omega
  generalize rl r = l at *
  clear h et eS eF
  go_enter Tryd.func44, Tryd.ntmps44
  go_wp2_with (go_at_call 37; refine (C1.out _).mono ?_; rintro e w1 ⟨rfl, rfl⟩)
  go_loopw [6, 7] (fun i _ wr => ∃ k : Nat, k ≤ 11 ∧ i = .int .i64 k ∧ (∀ j, j < k → Ok l s j) ∧ Kept [] w1 wr) (fun i _ _ => 11 - (intOf i).toNat)
  case atStart => exact ⟨0, by omega, rfl, fun j hj => by omega, Kept.refl _ _⟩
  case round =>
    obtain ⟨k, hk, rfl, hok, hkw⟩ := hrel
    have HO := Hid.mk hok
    have HK := Hid.mk hkw
    clear hok hkw eG e0
    by_cases h11 : k < 11
    · by_cases hsz : k < s.size
      · have x0 := bt_pos s k
        have x1 := bt_lt s k
        have HX := Hid.mk (OK.out k (bt s k))
        have gx := bt_get s k hsz
        have gf := bt_get F k (by omega)
        rw [FB.out k h11] at gf
        obtain ⟨x, ex⟩ : ∃ x, bt s k = x := ⟨_, rfl⟩
        rw [ex] at x0 x1 gx HX
        have HE := Hid.mk ex
        clear ex
        by_cases hd : k % 3 < 2
        · rw [show fc t k = 100 by unfold fc; rw [if_pos hd]] at gf
          rw [if_pos hd] at HX
          by_cases ha : 48 ≤ x
          · by_cases hb : x ≤ 57
            · go_wp2_with (fail)
              go_quiet (fail)
              go_wp2
              go_roundw
              case rel => exact ⟨k + 1, by omega, by go_num, more HO.out ⟨h11, hsz, by rw [HE.out, HX.out]; simp [ha, hb]⟩, HK.out.drewN _⟩
              case measure => simp [intOf]; omega
            · go_wp2_with (fail)
              go_quiet (fail)
              go_wp2
              go_ret
              exact ⟨.inr ⟨k, ⟨HO.out, fun oo => (by obtain ⟨_, _, o⟩ := oo; rw [HE.out, HX.out] at o; simp at o; omega), fun o => by omega⟩, rfl⟩, HK.out.drewN _⟩
          · go_wp2_with (fail)
            go_quiet (fail)
            go_wp2
            go_ret
            exact ⟨.inr ⟨k, ⟨HO.out, fun oo => (by obtain ⟨_, _, o⟩ := oo; rw [HE.out, HX.out] at o; simp at o; omega), fun o => by omega⟩, rfl⟩, HK.out.drewN _⟩
        · rw [if_neg hd] at HX
          obtain ⟨f, ef⟩ : ∃ f, fc t k = f := ⟨_, rfl⟩
          have hf : f = 58 ∨ f = 59 := by rw [← ef]; unfold fc; rw [if_neg hd]; split <;> omega
          have HX2 : Hid (okc l k x = (x == f)) := Hid.mk (by rw [HX.out, ← ef]; unfold fc; rw [if_neg hd]; split <;> rfl)
          rw [ef] at gf
          have f1 : (f == 100) = false := by simp; omega
          have f2 : (f != 100) = true := by simp; omega
          have f3 : ¬ f = 100 := by omega
          have gn : ¬ F[k].toNat = 100 := by omega
          clear ef HX
          by_cases hx : x = f
          · subst hx
            have f4 : (x != x) = false := by simp
            go_wp2_with (fail)
            go_quiet (fail)
            go_wp2
            go_roundw
            case rel => exact ⟨k + 1, by omega, by go_num, more HO.out ⟨h11, hsz, by rw [HE.out, HX2.out]; simp⟩, HK.out.drewN _⟩
            case measure => simp [intOf]; omega
          · have f4 : (x != f) = true := by simpa using hx
            have f5 : (x == f) = false := by simpa using hx
            go_wp2_with (fail)
            all_goals focus
              go_quiet (fail)
              go_wp2
              go_ret
              exact ⟨.inr ⟨k, ⟨HO.out, fun oo => (by obtain ⟨_, _, o⟩ := oo; rw [HE.out, HX2.out] at o; rw [f5] at o; cases o), fun o => by omega⟩, rfl⟩, HK.out.drewN _⟩
      · go_wp2
        go_ret
        exact ⟨.inr ⟨k, ⟨HO.out, fun oo => hsz oo.2.1, fun o => by omega⟩, rfl⟩, HK.out⟩
    · obtain rfl : k = 11 := by omega
      have hz := (HO.out 10 (by omega)).2.1
      by_cases hz2 : s.size = 11
      · have hz3 : ¬ (11 : Int) < (s.size : Int) := by omega
        go_wp2
        go_ret
        exact ⟨.inl ⟨⟨hz2, HO.out⟩, rfl⟩, HK.out⟩
      · have hz3 : (11 : Int) < (s.size : Int) := by omega
        go_wp2
        go_ret
        exact ⟨.inr ⟨11, ⟨HO.out, fun oo => by have := oo.1; omega, fun o => hz2 o.2⟩, rfl⟩, HK.out⟩
end Go.Proofs.YtdnbjbdokppfnaaDoor
