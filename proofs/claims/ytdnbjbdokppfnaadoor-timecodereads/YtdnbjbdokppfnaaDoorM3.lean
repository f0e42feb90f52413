import Derived.Test.YtdnbjbdokppfnaaDoorM2
import Derived.Test.YtdnbjbdokppfnaaDoorL4
namespace Go.Proofs.YtdnbjbdokppfnaaDoor
open Go.RowKit Go.Lib

theorem form_ex (l : Int) (s : ByteArray) : Gd l s ∨ ∃ k, Bd l s k := by
  have key : ∀ n : Nat, n ≤ 11 → (∀ i, i < n → Ok l s i) ∨ ∃ k, k < n ∧ (∀ i, i < k → Ok l s i) ∧ ¬ Ok l s k := by
    intro n
    induction n with
    | zero => exact fun _ => .inl fun i hi => by omega
    | succ n ih =>
      intro hn
      rcases ih (by omega) with h | ⟨k, h1, h2⟩
      · by_cases ho : Ok l s n
        · exact .inl (more h ho)
        · exact .inr ⟨n, by omega, h, ho⟩
      · exact .inr ⟨k, by omega, h2⟩
  rcases key 11 (Nat.le_refl _) with h | ⟨k, h1, h2, h3⟩
  · by_cases hz : s.size = 11
    · exact .inl ⟨hz, h⟩
    · exact .inr ⟨11, h, fun o => by have := o.1; omega, fun o => hz o.2⟩
  · exact .inr ⟨k, h2, h3, fun o => by omega⟩
theorem NR_ex (r : Int) (s : ByteArray) : ∃ x A E, NR r s x A E := by
  by_cases hr : 1 ≤ r ∧ r ≤ 7
  · rcases form_ex (rl r) s with g | ⟨k, hk⟩
    · by_cases hc : ckE (rc r) (fv s 11 0) (fv s 11 1) (fv s 11 2) (fv s 11 3) (rl r) = 0
      · exact ⟨_, _, _, .inr (.inr (.inr ⟨hr, g, hc, rfl, rfl, rfl⟩))⟩
      · exact ⟨_, _, _, .inr (.inr (.inl ⟨hr, g, hc, rfl, rfl, rfl⟩))⟩
    · exact ⟨_, _, _, .inr (.inl ⟨hr, k, hk, rfl, rfl, rfl⟩)⟩
  · exact ⟨_, _, _, .inl ⟨by omega, rfl, rfl, rfl⟩⟩
theorem NR_one {r : Int} {s : ByteArray} {x A E x' A' E' : Int} (h : NR r s x A E) (h' : NR r s x' A' E') : x = x' ∧ A = A' ∧ E = E' := by
  rcases h with ⟨a, rfl, rfl, rfl⟩ | ⟨⟨a0, a1⟩, q, hq, rfl, rfl, rfl⟩ | ⟨⟨a0, a1⟩, g, a, rfl, rfl, rfl⟩ | ⟨⟨a0, a1⟩, g, a, rfl, rfl, rfl⟩ <;>
  rcases h' with ⟨b, rfl, rfl, rfl⟩ | ⟨⟨b0, b1⟩, p, hp, rfl, rfl, rfl⟩ | ⟨⟨b0, b1⟩, g', b, rfl, rfl, rfl⟩ | ⟨⟨b0, b1⟩, g', b, rfl, rfl, rfl⟩
  · exact ⟨rfl, rfl, rfl⟩
  · omega
  · omega
  · omega
  · omega
  · rw [bd_bd hq hp]; exact ⟨rfl, rfl, rfl⟩
  · exact (gd_bd g' hq).elim
  · exact (gd_bd g' hq).elim
  · omega
  · exact (gd_bd g hp).elim
  · exact ⟨rfl, rfl, rfl⟩
  · exact (a b).elim
  · omega
  · exact (gd_bd g hp).elim
  · exact (b a).elim
  · exact ⟨rfl, rfl, rfl⟩
theorem Number_is (r : Int) (s : ByteArray) (w : World) (hT : Tb w) (hs : s.size ≤ maxLen) (x A E : Int) (hn : NR r s x A E) : Calls Tryd.prog 18 #[.int .i64 r, .string s] w fun e w' => ∃ v, e = .returned (.tuple #[.int .i64 x, v]) ∧ Er w' v A E ∧ Kept [] w w' := by
  refine (Number_any r s w hT hs).mono ?_
  rintro e w' ⟨x', A', E', v, hn', rfl, he, hk⟩
  obtain ⟨rfl, rfl, rfl⟩ := NR_one hn hn'
  exact ⟨v, rfl, he, hk⟩

set_option maxHeartbeats 8000000 in
set_option maxRecDepth 1000000 in
theorem reads_any (r : Int) (s o : ByteArray) (w : World) (hT : Tb w) (hE : Et w) (hs : s.size ≤ maxLen) (ho : o.size ≤ maxLen) : Calls Tryd.prog 4 #[.int .i64 r, .string s, .string o] w fun e w' => e = .returned (.bool true) ∧ Kept [] w w' := by
  obtain ⟨x, A, E, hn⟩ := NR_ex r s
  obtain ⟨y, B, G, hm⟩ := NR_ex r o
  have CS := Hid.mk (fun u x => shown_any u x)
  have N1 := Hid.mk (fun u t => Number_is r s u t hs x A E hn)
  have N2 := Hid.mk (fun u t => Number_is r o u t ho y B G hm)
  have R1 := Hid.mk (fun u => rTold_any r s u hs x A E hn)
  have R2 := Hid.mk (fun u => rTold_any r o u ho y B G hm)
  have FIN : Hid (∀ w1, Kept [] w w1 → Tb w1 ∧ Et w1) := Hid.mk fun w1 k => ⟨hT.keep k, hE.keep k⟩
  clear hT hE hs ho hn hm
  go_enter Tryd.func4, Tryd.ntmps4
  go_wp2_with (fail)
  refine (CS.out _ (FIN.out _ (Kept.refl _ _)).1).mono ?_
  rintro e w1 ⟨rfl, k1⟩
  have K1 := Hid.mk k1
  clear k1
  go_wp2_with (fail)
  refine (N1.out _ (FIN.out _ K1.out).1).mono ?_
  rintro e w2 ⟨v1, rfl, e1, k2⟩
  have K2 := Hid.mk (K1.out.trans k2)
  clear k2
  go_wp2_with (fail)
  refine (N2.out _ (FIN.out _ K2.out).1).mono ?_
  rintro e w3 ⟨v2, rfl, e2, k3⟩
  have K3 := Hid.mk (K2.out.trans k3)
  have e1 := e1.keep k3
  clear k3
  go_wp2_with (fail)
  refine (N1.out _ (FIN.out _ K3.out).1).mono ?_
  rintro e w4 ⟨v3, rfl, e3, k4⟩
  have K4 := Hid.mk (K3.out.trans k4)
  have T1 := Hid.mk (told_any v1 A E w4 (FIN.out _ K4.out).2 (e1.keep k4))
  have H2 := Hid.mk (e2.keep k4)
  have H3 := Hid.mk e3
  clear k4 e1 e2 e3
  go_wp2_with (fail)
  refine T1.out.mono ?_
  rintro e w5 ⟨rfl, k5⟩
  have K5 := Hid.mk (K4.out.trans k5)
  have T2 := Hid.mk (told_any v2 B G w5 (FIN.out _ K5.out).2 (H2.out.keep k5))
  have H4 := Hid.mk (H3.out.keep k5)
  clear k5
  go_wp2_with (fail)
  refine T2.out.mono ?_
  rintro e w6 ⟨rfl, k6⟩
  have K6 := Hid.mk (K5.out.trans k6)
  have T3 := Hid.mk (told_any v3 A E w6 (FIN.out _ K6.out).2 (H4.out.keep k6))
  clear k6
  go_wp2_with (fail)
  refine T3.out.mono ?_
  rintro e w7 ⟨rfl, k7⟩
  have K7 := Hid.mk (K6.out.trans k7)
  clear k7
  go_wp2_with (fail)
  refine (R1.out _).mono ?_
  rintro e w8 ⟨rfl, k8⟩
  have K8 := Hid.mk (K7.out.trans k8)
  clear k8
  go_wp2_with (fail)
  refine (R2.out _).mono ?_
  rintro e w9 ⟨rfl, k9⟩
  have K9 := Hid.mk (K8.out.trans k9)
  clear k9
  go_wp2
  go_ret
  exact ⟨by first | rfl | simp, K9.out⟩
end Go.Proofs.YtdnbjbdokppfnaaDoor
