import Derived.Test.YtplpjpijmnglfaaP7
namespace Go.Proofs.Ytplpjpijmnglfaa
open Go.RowKit

theorem step_any (W w : World) (A : Nat) (kd on n : Int) (s : Wo) (b : Nat) (h : At W w A s) (hw : Wk s b) (hp : 0 < s.c 0 ∨ (kd = 1 ∧ 0 ≤ n ∧ n ≤ 1073741824)) (hb : b ≤ 5864062014700)
    (on0 : -9223372036854775808 ≤ on) (on1 : on ≤ 9223372036854775807) (n0 : -9223372036854775808 ≤ n) (n1 : n ≤ 9223372036854775807) :
    Calls Try.prog 7 #[.pointer (some ⟨A, 0, none⟩), .agg #[.int .i64 kd, .int .i64 on, .int .i64 n]] w fun e w' => SPost W A (b + 1) e w' := by
  by_cases h1 : kd = 1
  · subst h1
    exact step1 W w A on n s b h hw (by rcases hp with hp | hp; exact .inl hp; exact .inr hp.2) hb
  · have hp' : 0 < s.c 0 := by
      rcases hp with hp | hp
      · exact hp
      · exact absurd hp.1 h1
    by_cases h2 : kd = 2
    · subst h2; exact step2 W w A on n s b h hw hp' hb on0 on1
    · by_cases h3 : kd = 3
      · subst h3; exact step3 W w A on n s b h hw hp' hb on0 on1
      · by_cases h4 : kd = 4
        · subst h4; exact step4 W w A on n s b h hw hp' hb on0 on1
        · by_cases h5 : kd = 5
          · subst h5; exact step5 W w A on n s b h hw hp' hb on0 on1 n0 n1
          · by_cases h6 : kd = 6
            · subst h6; exact step6 W w A on n s b h hw hp' hb on0 on1
            · exact stepO W w A kd on n s b h hw hp' hb on0 on1 (Hid.mk ⟨h1, h2, h3, h4, h5, h6⟩)

set_option maxHeartbeats 8000000 in
set_option maxRecDepth 100000 in
theorem same_any (W w : World) (A : Nat) (s : Wo) (b : Nat) (h : At W w A s) (hw : Wk s b) (hb : b ≤ 5864062014800) :
    Calls Try.prog 9 #[.pointer (some ⟨A, 0, none⟩)] w fun e w' => e = .returned (.bool true) ∧ At W w' A s := by
  have HH := Hid.mk h
  have HW := Hid.mk hw
  have hc0 := hw.le0
  clear h hw
  go_enter Try.func9, Try.ntmps9
  go_wp2
  go_loopw [3] (fun i wr => ∃ (k : Nat), k ≤ s.c 0 ∧ i = .int .i64 (k : Int) ∧ At W wr A s) (fun i _ => s.c 0 - (intOf i).toNat)
  case atStart => exact ⟨0, by omega, rfl, HH.out⟩
  case round =>
    obtain ⟨k, hk, rfl, H⟩ := hrel
    have H2 := Hid.mk H
    clear H
    obtain ⟨ao, cp, eS⟩ := H2.out.form 0 (by omega)
    have c0 := H2.out.cells.1 0 (by omega)
    rw [eS, HW.out.r] at c0
    have HES := Hid.mk eS
    clear eS
    by_cases hlt : k < s.c 0
    · obtain ⟨P, Q, m, g, t, l, hG, v0, x0, v1, x1, x2, hl, hlb, hli⟩ := HW.out.ar k hlt
      clear c0
      have c0 := H2.out.cells.1 0 (by omega)
      obtain ⟨G0, p0, e0, y0, -⟩ := H2.out.val 0 k (by omega) (by rw [HW.out.r]; exact hlt)
      rw [e0, HW.out.r] at c0
      rw [v0] at y0
      have c1 := H2.out.cells.1 1 (by omega)
      obtain ⟨G1, p1, e1, y1, -⟩ := H2.out.val 1 k (by omega) (by rw [HW.out.r, HW.out.c1]; exact hlt)
      rw [e1, HW.out.r, HW.out.c1] at c1
      rw [v1] at y1
      have HA : Hid (Ar 62 wr P m g t) := Hid.mk (by have := H2.out.thing 0 k (by omega) hlt; rw [x0] at this; exact this)
      have HQ : Ar 60 wr Q m g t := by have := H2.out.thing 1 k (by omega) (by rw [HW.out.c1]; exact hlt); rw [x1] at this; exact this
      obtain ⟨⟨-, r1, r2⟩, -⟩ := three HQ
      have ix : (k : Int) < (s.c 0 : Int) := by omega
      have C1 := Hid.mk (fun n => given_any P m g t (wr.drewN n) (HA.out.drewN n))
      have C2 := Hid.mk (fun n => peak_any P m g t (wr.drewN n) (HA.out.drewN n))
      have C3 := Hid.mk (fun n => mark_any P m g t (wr.drewN n) (HA.out.drewN n))
      clear v0 x0 v1 x1 x2 hl hlb hli hG e0 e1 HQ
      go_wp2_with (fail)
      go_quiet ((first | (go_at_call 15; exact Calls.quiet_of_same (C1.out _)) | (go_at_call 19; exact Calls.quiet_of_same (C2.out _)) | (go_at_call 18; exact Calls.quiet_of_same (C3.out _))))
      go_wp2
      go_roundw
      case rel => exact ⟨k + 1, by omega, by go_num, H2.out.drewN _⟩
      case measure => simp [intOf]; omega
    · go_wp2
      go_ret
      exact ⟨rfl, H2.out⟩
end Go.Proofs.Ytplpjpijmnglfaa
