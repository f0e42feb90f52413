import Derived.Test.YtbhhkcgicajlcaaGreatDoorqAZ
namespace Go.Proofs.YtbhhkcgicajlcaaGreatDoor.Pc
open Go.RowKit

/-- The first rung that keeps to the cap, as far as it is found. -/
def ff (i0 k : Nat) : Int := if i0 < k then (i0 : Int) else -1

set_option maxHeartbeats 8000000 in
set_option maxRecDepth 1000000 in
theorem top_yes (W H D : Int) (A : Bool) (po : Option Addr) (m d : Nat) (ln : Nat → Nat) (F : Nat → Nat → Nat) (sw sh : Int) (lo : Option Addr) (n c : Nat) (L : Nat → Nat → Int) (cap p : Int) (pn N : Nat) (LN : Nat → Nat) (PS : Nat → List (List Nat)) (RB : Nat → List Nat) (bd : Int) (w : World)
    (hP : Tl.Pl w po m ln F) (hm : m ≤ 9223372036854775807) (hln : ∀ i, i < m → ln i ≤ 9223372036854775807) (hF : ∀ i, i < m → ∀ j, j < ln i → F i j < 65536) (hL : Ldr w lo n L) (n1 : 1 ≤ n) (hn : n ≤ 16) (s0 : -9223372036854775808 ≤ sw) (s1 : sw ≤ 9223372036854775807)
    (hE : jbE W H D A m ln F sw sh n L cap p = 0) (hp : p = (pn : Int)) (hcap : 0 ≤ cap)
    (HW : ∀ u P, Kept [] w u → Tl.Gr u P W H D A sw sh (Tl.cl W sw) (Tl.cl H sh) → Jw u W H D A po m d sw sh lo n c cap pn P N L LN PS RB)
    (hB : ∀ u, Kept [] w u → Calls Tryz.prog 7 #[Tl.shv W H D A, cfv sw sh lo n c cap p] u fun e w' => e = .returned (.tuple #[.int .i64 bd, .int .i64 0]) ∧ Kept [] u w')
    (hLN : ∀ i, i < n → 44 ≤ LN i ∧ (LN i : Int) ≤ bd ∧ LN i ≤ 134217727 ∧ (RB i).length = LN i) :
    Calls Tryz.prog 3 #[Tl.frv W H D A po m d, cfv sw sh lo n c cap p] w fun e w' => e = .returned (.bool true) ∧ Kept [] w w' := by
  obtain ⟨w1, e1⟩ : ∃ w1, w.alloc (.cells #[.int .i64 W, .int .i64 H, .int .i64 D, .bool A, .slice po m d] 26 (0, 0)) = w1 := ⟨_, rfl⟩
  obtain ⟨w2, e2⟩ : ∃ w2, w1.alloc (.cells #[.int .i64 sw, .int .i64 sh, .slice lo n c, .int .i64 cap, .int .i64 p] 29 (0, 0)) = w2 := ⟨_, rfl⟩
  obtain ⟨B, eB⟩ : ∃ B, w.heap.size = B := ⟨_, rfl⟩
  have z1 : w1.heap.size = B + 1 := by rw [← e1, ← eB]; exact Array.size_push _
  have k1 : Kept [] w w1 := by rw [← e1]; exact (Kept.refl [] w).alloc _
  have k2 : Kept [] w1 w2 := by rw [← e2]; exact (Kept.refl [] w1).alloc _
  have HS := Hid.mk (k2.heap (show w1.heap[B]? = some (.cells #[.int .i64 W, .int .i64 H, .int .i64 D, .bool A, .slice po m d] 26 (0, 0)) by rw [← e1, ← eB]; exact heap_alloc_new _ _) (by simp))
  have HC := Hid.mk (show w2.heap[B + 1]? = some (.cells #[.int .i64 sw, .int .i64 sh, .slice lo n c, .int .i64 cap, .int .i64 p] 29 (0, 0)) by rw [← e2, ← z1]; exact heap_alloc_new _ _)
  have K2 := Hid.mk (k1.trans k2)
  have hn9 : n ≤ 9223372036854775807 := by omega
  have C1 := Hid.mk (fun u (ku : Kept [] w u) => Encode_any W H D A po m d ln F sw sh lo n c L cap p pn N LN PS RB u (hP.keep ku) hm hln (hL.keep ku) hn9 s0 s1 (fun _ => ⟨hp, by omega⟩) (fun _ x P kx hG => HW x P (ku.trans kx) hG))
  have C2 := Hid.mk (fun u (ku : Kept [] w u) => right_any W H D A po m d ln F sw sh lo n c L cap p u (hP.keep ku) hm hln hF (hL.keep ku) hn9)
  have C4 := Hid.mk (fun i (hi : i < n) u (ku : Kept [] w u) => At_ok W H D A po m d ln F sw sh lo n c L cap p pn N LN PS RB i u (hP.keep ku) hm hln (hL.keep ku) hn9 s0 s1 (fun _ => ⟨hp, by omega⟩) (fun _ x P kx hG => HW x P (ku.trans kx) hG) hE hi)
  have C3 := Hid.mk hB
  have HLd := Hid.mk hL
  have HLN := Hid.mk hLN
  have hd : decide (Tl.vE W H D A m ln F = 0 ∧ cfE W H D A sw sh n L cap p = 0) = true := decide_eq_true (jbE_zero.1 hE)
  rw [hd] at C2
  rw [hE] at C1
  have HN := Hid.mk (And.intro n1 hn)
  have HCAP := Hid.mk hcap
  obtain ⟨q0, q1, q2, q3, q4⟩ := cel5 HC.out
  obtain ⟨t0, t1, t2, t3, t4⟩ := cel5 HS.out
  clear hP hm hln hF hL hn k1 k2 hE hd s0 s1 hp HW hB hLN hn9 n1 hcap
  go_enter Tryz.func3, Tryz.ntmps3
  go_wp2_with (fail)
  clear e1 e2 z1 eB
  refine (C1.out _ K2.out).mono ?_
  intro e w3 h3
  have h4 : ∃ (i0 : Nat) (xo : Option Addr) (xl xc : Nat) (xi x0 x1 x2 x3 xe : Int), e = .returned (.tuple #[.agg #[.slice xo xl xc, .int .i64 xi, .int .i64 x0, .int .i64 x1, .int .i64 x2, .int .i64 x3], .int .i64 xe]) ∧ Hid (Kept [] w2 w3 ∧ i0 ≤ n ∧ (∀ j, j < i0 → cap ≠ 0 ∧ cap < (LN j : Int)) ∧ (i0 = n → xe = 122 ∧ xl = 0) ∧ (i0 < n → (cap = 0 ∨ (LN i0 : Int) ≤ cap) ∧ xe = 0 ∧ xi = (i0 : Int) ∧ x0 = L i0 0 ∧ x1 = L i0 1 ∧ x2 = L i0 2 ∧ x3 = L i0 3 ∧ xl = LN i0 ∧ Reads w3 xo (RB i0))) := by
    rcases h3 with ⟨_, h3⟩ | ⟨h0, _⟩
    · have hj : ∀ j, j < n → (if cap = 0 then 134217727 else cap) < (LN j : Int) → cap ≠ 0 ∧ cap < (LN j : Int) := fun j hj h => by
        have h9 := (HLN.out j hj).2.2.1
        split at h <;> rename_i hc0
        · omega
        · exact ⟨hc0, h⟩
      rcases h3 with ⟨i, h1, h2, h3, bo, cc, rfl, h5, h6⟩ | ⟨h1, rfl, h6⟩
      · refine ⟨i, bo, LN i, cc, (i : Int), L i 0, L i 1, L i 2, L i 3, 0, rfl, Hid.mk ⟨h6, by omega, fun j hj9 => hj j (by omega) (h3 j hj9), fun h => by omega, fun _ => ⟨?_, rfl, rfl, rfl, rfl, rfl, rfl, rfl, reads_row h5⟩⟩⟩
        split at h2 <;> rename_i hc0
        · exact .inl hc0
        · exact .inr h2
      · exact ⟨n, none, 0, 0, 0, 0, 0, 0, 0, 122, rfl, Hid.mk ⟨h6, Nat.le_refl _, fun j hj9 => hj j hj9 (h1 j hj9), fun _ => ⟨rfl, rfl⟩, fun h => by omega⟩⟩
    · exact absurd rfl h0
  clear h3
  obtain ⟨i0, xo, xl, xc, xi, x0, x1, x2, x3, xe, rfl, HX⟩ := h4
  clear q0 q1 q2 q3 q4 t0 t1 t2 t3 t4
  have K4 : Hid (Kept [] w2 (w3.alloc (.cells #[.slice xo xl xc, .int .i64 xi, .int .i64 x0, .int .i64 x1, .int .i64 x2, .int .i64 x3] 34 (0, 0)))) := Hid.mk (HX.out.1.alloc _)
  have H4 := Hid.mk (show (w3.alloc (.cells #[.slice xo xl xc, .int .i64 xi, .int .i64 x0, .int .i64 x1, .int .i64 x2, .int .i64 x3] 34 (0, 0))).heap[w3.heap.size]? = some (.cells #[.slice xo xl xc, .int .i64 xi, .int .i64 x0, .int .i64 x1, .int .i64 x2, .int .i64 x3] 34 (0, 0)) from heap_alloc_new _ _)
  have K34 : Hid (Kept [] w3 (w3.alloc (.cells #[.slice xo xl xc, .int .i64 xi, .int .i64 x0, .int .i64 x1, .int .i64 x2, .int .i64 x3] 34 (0, 0)))) := Hid.mk ((Kept.refl [] w3).alloc _)
  obtain ⟨q0, q1, q2, q3, q4⟩ := cel5 (K4.out.heap HC.out (by simp))
  obtain ⟨t0, t1, t2, t3, t4⟩ := cel5 (K4.out.heap HS.out (by simp))
  go_wp2_with (fail)
  generalize (w3.alloc (.cells #[.slice xo xl xc, .int .i64 xi, .int .i64 x0, .int .i64 x1, .int .i64 x2, .int .i64 x3] 34 (0, 0))) = w4 at *
  generalize w3.heap.size = S3 at *
  refine (C2.out _ (K2.out.trans K4.out)).mono ?_
  rintro e w5 ⟨rfl, k5⟩
  have K5 := Hid.mk (K4.out.trans k5)
  have K45 := Hid.mk k5
  clear q0 q1 q2 q3 q4 t0 t1 t2 t3 t4 k5
  obtain ⟨q0, q1, q2, q3, q4⟩ := cel5 (K5.out.heap HC.out (by simp))
  obtain ⟨t0, t1, t2, t3, t4⟩ := cel5 (K5.out.heap HS.out (by simp))
  go_wp2_with (fail)
  refine (C3.out _ (K2.out.trans K5.out)).mono ?_
  rintro e w6 ⟨rfl, k6⟩
  have K6 := Hid.mk (K5.out.trans k6)
  have K46 := Hid.mk (K45.out.trans k6)
  clear q0 q1 q2 q3 q4 t0 t1 t2 t3 t4 k6
  go_wp2
  go_loopw [10, 11] (fun a i wr => ∃ k : Nat, k ≤ n ∧ i = .int .i64 (k : Int) ∧ a = .int .i64 (ff i0 k) ∧ Hid (Kept [] w6 wr)) (fun _ i _ => n - (intOf i).toNat)
  case atStart => exact ⟨0, Nat.zero_le _, rfl, by unfold ff; rw [if_neg (by omega)], Hid.mk (Kept.refl _ _)⟩
  case round =>
    obtain ⟨k, hk, rfl, rfl, HI⟩ := hrel
    obtain ⟨q0, q1, q2, q3, q4⟩ := cel5 ((K6.out.trans HI.out).heap HC.out (by simp))
    obtain ⟨t0, t1, t2, t3, t4⟩ := cel5 ((K6.out.trans HI.out).heap HS.out (by simp))
    by_cases hlt : k < n
    · have ik : (k : Int) < (n : Int) := by omega
      have HK := Hid.mk hlt
      clear hlt hk
      go_wp2_with (fail)
      refine (C4.out k HK.out _ (K2.out.trans (K6.out.trans HI.out))).mono ?_
      rintro e w7 ⟨yo, yc, rfl, hy, k7⟩
      have RY := Hid.mk (reads_row hy)
      have K7 := Hid.mk (HI.out.trans k7)
      clear q0 q1 q2 q3 q4 t0 t1 t2 t3 t4 k7 hy
      have HLk := HLN.out k HK.out
      obtain ⟨gl, off, elo, l0, l1, l2, l3⟩ := (HLd.out.keep (K2.out.trans (K6.out.trans K7.out))).at HK.out
      unfold cdv
      have HXk : Hid (i0 = k → (cap = 0 ∨ (LN k : Int) ≤ cap) ∧ xe = 0 ∧ xi = (k : Int) ∧ x0 = L k 0 ∧ x1 = L k 1 ∧ x2 = L k 2 ∧ x3 = L k 3 ∧ xl = LN k ∧ Reads w3 xo (RB k)) := Hid.mk (fun h => by
        have h9 := HX.out.2.2.2.2 (by rw [h]; exact HK.out)
        rw [h] at h9
        exact h9)
      have HXl : Hid (k < i0 → cap ≠ 0 ∧ cap < (LN k : Int)) := Hid.mk (fun h => HX.out.2.2.1 k h)
      obtain ⟨a0, g0⟩ : ∃ a, L k 0 = a := ⟨_, rfl⟩
      obtain ⟨a1, g1⟩ : ∃ a, L k 1 = a := ⟨_, rfl⟩
      obtain ⟨a2, g2⟩ : ∃ a, L k 2 = a := ⟨_, rfl⟩
      obtain ⟨a3, g3⟩ : ∃ a, L k 3 = a := ⟨_, rfl⟩
      obtain ⟨yl, eyl⟩ : ∃ a, LN k = a := ⟨_, rfl⟩
      rw [g0, g1, g2, g3, eyl]
      rw [g0, g1, g2, g3, eyl] at HXk
      rw [eyl] at HXl HLk
      rw [g0] at l0
      rw [g1] at l1
      rw [g2] at l2
      rw [g3] at l3
      have HLk := Hid.mk HLk
      have b1 : decide (bd < (yl : Int)) = false := decide_eq_false (by have := HLk.out; omega)
      have b2 : decide ((yl : Int) < 44) = false := decide_eq_false (by have := HLk.out; omega)
      have LC : Hid (∀ u, Kept [] w7 u → u.cell? ⟨gl, off + k * 4, none⟩ = some (.int .i64 a0) ∧ u.cell? ⟨gl, off + k * 4 + 1, none⟩ = some (.int .i64 a1) ∧ u.cell? ⟨gl, off + k * 4 + 2, none⟩ = some (.int .i64 a2) ∧ u.cell? ⟨gl, off + k * 4 + 3, none⟩ = some (.int .i64 a3)) := Hid.mk (fun u ku => ⟨Tl.cell_keep ku l0 (by simp), Tl.cell_keep ku l1 (by simp), Tl.cell_keep ku l2 (by simp), Tl.cell_keep ku l3 (by simp)⟩)
      have K8 : Hid (Kept [] w7 (w7.alloc (.cells #[.slice yo yl yc, .int .i64 (k : Int), .int .i64 a0, .int .i64 a1, .int .i64 a2, .int .i64 a3] 34 (0, 0)))) := Hid.mk ((Kept.refl [] w7).alloc _)
      have H8 := Hid.mk (show (w7.alloc (.cells #[.slice yo yl yc, .int .i64 (k : Int), .int .i64 a0, .int .i64 a1, .int .i64 a2, .int .i64 a3] 34 (0, 0))).heap[w7.heap.size]? = some (.cells #[.slice yo yl yc, .int .i64 (k : Int), .int .i64 a0, .int .i64 a1, .int .i64 a2, .int .i64 a3] 34 (0, 0)) from heap_alloc_new _ _)
      clear l0 l1 l2 l3 g0 g1 g2 g3 eyl
      subst elo
      go_wp2_with (fail)
      generalize (w7.alloc (.cells #[.slice yo yl yc, .int .i64 (k : Int), .int .i64 a0, .int .i64 a1, .int .i64 a2, .int .i64 a3] 34 (0, 0))) = w8 at *
      generalize w7.heap.size = S7 at *
      obtain ⟨q0, q1, q2, q3, q4⟩ := cel5 ((K6.out.trans (K7.out.trans K8.out)).heap HC.out (by simp))
      obtain ⟨u0, u1, u2, u3, u4, u5⟩ := cel6 ((K46.out.trans (K7.out.trans K8.out)).heap H4.out (by simp))
      obtain ⟨v0, v1, v2, v3, v4, v5⟩ := cel6 H8.out
      obtain ⟨l0, l1, l2, l3⟩ := LC.out _ K8.out
      have REQ := rung_eql a0 a1 a2 a3
      go_quiet (fail)
      have HQ9 := Hid.mk ((Kept.refl [] w8).drewN nq)
      generalize w8.drewN nq = w9 at *
      clear q0 q1 q2 q3 q4 u0 u1 u2 u3 u4 u5 v0 v1 v2 v3 v4 v5 l0 l1 l2 l3 b1 b2
      have K9 : Hid (Kept [] w6 w9) := Hid.mk (K7.out.trans (K8.out.trans HQ9.out))
      obtain ⟨q0, q1, q2, q3, q4⟩ := cel5 ((K6.out.trans K9.out).heap HC.out (by simp))
      obtain ⟨u0, u1, u2, u3, u4, u5⟩ := cel6 ((K46.out.trans K9.out).heap H4.out (by simp))
      obtain ⟨v0, v1, v2, v3, v4, v5⟩ := cel6 (HQ9.out.heap H8.out (by simp))
      have hk1 : wrap64 ((k : Int) + 1) = ((k + 1 : Nat) : Int) := w64_add (b := 1) rfl (by have := HN.out; have := HK.out; omega)
      have fneg : ∀ i : Nat, decide ((i : Int) < 0) = false := fun i => decide_eq_false (by omega)
      clear ik
      rcases Nat.lt_trichotomy k i0 with hki | hki | hki
      · have hf : ff i0 k = -1 := by unfold ff; rw [if_neg (by omega)]
        have hf2 : Hid (ff i0 (k + 1) = -1) := Hid.mk (by unfold ff; rw [if_neg (by omega)])
        obtain ⟨hc1, hc2⟩ := HXl.out hki
        have d2 : decide ((yl : Int) ≤ cap) = false := decide_eq_false (by omega)
        rw [hf]
        clear hf hc2 hki
        go_wp2
        rw [hk1]
        clear hk1
        go_roundw
        case rel => exact ⟨k + 1, HK.out, rfl, by rw [hf2.out], K9⟩
        case measure => (clear fneg; simp [intOf]; have := HK.out; omega)
      · have hf : ff i0 k = -1 := by unfold ff; rw [if_neg (by omega)]
        have hf2 : Hid (ff i0 (k + 1) = (k : Int)) := Hid.mk (by unfold ff; rw [if_pos (by omega), hki])
        obtain ⟨hc1, rfl, rfl, rfl, rfl, rfl, rfl, rfl, hrd⟩ := HXk.out hki.symm
        have r1 := reads_str' (hrd.keep (K34.out.trans (K46.out.trans K9.out))) HLk.out.2.2.2 xc
        have r2 := reads_str' (RY.out.keep (K8.out.trans HQ9.out)) HLk.out.2.2.2 yc
        rw [hf]
        clear hf hki hrd
        by_cases hcz : cap = 0
        · subst hcz
          clear hc1
          go_wp2
          rw [hk1]
          clear hk1
          go_roundw
          case rel => exact ⟨k + 1, HK.out, rfl, by rw [hf2.out], K9⟩
          case measure => (clear fneg; simp [intOf]; have := HK.out; omega)
        · have d2 : decide ((xl : Int) ≤ cap) = true := decide_eq_true (by omega)
          clear hc1
          go_wp2
          rw [hk1]
          clear hk1
          go_roundw
          case rel => exact ⟨k + 1, HK.out, rfl, by rw [hf2.out], K9⟩
          case measure => (clear fneg; simp [intOf]; have := HK.out; omega)
      · have hf : ff i0 k = (i0 : Int) := by unfold ff; rw [if_pos (by omega)]
        have hf2 : Hid (ff i0 (k + 1) = (i0 : Int)) := Hid.mk (by unfold ff; rw [if_pos (by omega)])
        have d1 := fneg i0
        rw [hf]
        clear hf hki
        go_wp2
        rw [hk1]
        clear hk1
        go_roundw
        case rel => exact ⟨k + 1, HK.out, rfl, by rw [hf2.out], K9⟩
        case measure => (clear fneg d1; simp [intOf]; have := HK.out; omega)
    · obtain rfl : n = k := by omega
      have HK9 := Hid.mk (K2.out.trans (K6.out.trans HI.out))
      obtain ⟨u0, u1, u2, u3, u4, u5⟩ := cel6 ((K46.out.trans HI.out).heap H4.out (by simp))
      clear hk hlt
      by_cases hi : i0 < n
      · have hf : ff i0 n = (i0 : Int) := by unfold ff; rw [if_pos hi]
        have d1 : decide ((i0 : Int) < 0) = false := decide_eq_false (by omega)
        rw [hf]
        clear hf hi
        go_wp2
        go_ret
        exact ⟨by first | rfl | (exact ret_bool (by simp)), HK9.out⟩
      · have hin : i0 = n := by have := HX.out.2.1; omega
        have hf : ff i0 n = -1 := by unfold ff; rw [if_neg hi]
        obtain ⟨rfl, rfl⟩ := HX.out.2.2.2.1 hin
        have hcb : cap < bd := by
          have h1 := HX.out.2.2.1 0 (by have := HN.out; omega)
          have h2 := HLN.out 0 (by have := HN.out; omega)
          omega
        have d1 : decide (cap < bd) = true := decide_eq_true hcb
        rw [hf]
        clear hf hi hin hcb
        go_wp2
        go_ret
        exact ⟨by first | rfl | (exact ret_bool (by simp)), HK9.out⟩
end Go.Proofs.YtbhhkcgicajlcaaGreatDoor.Pc

namespace Go.Proofs.YtbhhkcgicajlcaaGreatDoor.Pc
open Go.RowKit

/-- TopLadder holds of every frame and configuration. -/
theorem top_any (W H D : Int) (A : Bool) (po : Option Addr) (m d : Nat) (ln : Nat → Nat) (F : Nat → Nat → Nat) (sw sh : Int) (lo : Option Addr) (n c : Nat) (L : Nat → Nat → Int) (cap p : Int) (w : World)
    (hP : Plc w po m ln F) (hPl : Tl.Pl w po m ln F) (hT : Tab w) (hm : m ≤ 9223372036854775807) (hln : ∀ i, i < m → ln i ≤ 9223372036854775807) (hF : ∀ i, i < m → ∀ j, j < ln i → F i j < 65536) (hL : Ldr w lo n L) (hn : n ≤ 9223372036854775807) (s0 : -9223372036854775808 ≤ sw) (s1 : sw ≤ 9223372036854775807) :
    Calls Tryz.prog 3 #[Tl.frv W H D A po m d, cfv sw sh lo n c cap p] w fun e w' => e = .returned (.bool true) ∧ Kept [] w w' := by
  by_cases hE : jbE W H D A m ln F sw sh n L cap p = 0
  · have hz := jbE_zero.1 hE
    have hv := Tl.vE_zero.1 hz.1
    have hc := cfE_zero.1 hz.2
    have g := hc.gd
    have hpr : 0 ≤ p ∧ p ≤ 16 := by have h9 := hc.pr; unfold pmb at h9; exact (of_decide_eq_true h9).1
    obtain ⟨pn, rfl⟩ : ∃ pn : Nat, p = (pn : Int) := ⟨p.toNat, by omega⟩
    have hcr0 : 0 ≤ Tl.cl W sw * Tl.cl H sh := Int.mul_nonneg (by have := g.c0; omega) (by have := g.r0; omega)
    have hX0 : ∀ i, ∃ X, Cod W H D sw sh (Tl.cl W sw) (Tl.cl W sw * Tl.cl H sh).toNat m F (L i) X := fun i => cod_ex hv g (by omega) (L i)
    have hX := fun i => (hX0 i).choose_spec
    have hld := (lmb_yes.1 hc.ld).1
    refine top_yes W H D A po m d ln F sw sh lo n c L cap (pn : Int) pn _ _ _ _ (bnd W H D sw sh A (pn : Int)) w hPl hm hln hF hL hld.1 hld.2 s0 s1 hE rfl hc.cp
      (fun u P ku hG => jw_ok W H D A po m d ln F sw sh lo n c L cap pn (Tl.cl W sw * Tl.cl H sh).toNat (fun i => (hX0 i).choose) w hv hc rfl (fun i _ => hX i) hP hT u P ku hG)
      (fun u ku => rBound_ok W H D A sw sh lo n c L cap (pn : Int) u (hL.keep ku) hn hc)
      (fun i hi => ?_)
    have h1 := rcl_bd hv hc rfl (fun i _ => hX i) hi
    have h2 := rcl_top hv hc rfl (fun i _ => hX i) hi
    refine ⟨h1.1, h1.2.1, h2, ?_⟩
    rw [recB_len, psv_len]
  · exact top_no W H D A po m d ln F sw sh lo n c L cap p w hPl hm hln hF hL hn s0 s1 hE

/-- The same, as the card asks it. -/
theorem top_row (W H D : Int) (A : Bool) (po : Option Addr) (m d : Nat) (ln : Nat → Nat) (F : Nat → Nat → Nat) (sw sh : Int) (lo : Option Addr) (n c : Nat) (L : Nat → Nat → Int) (cap p : Int) (w : World) (hT : Tab w)
    (hP : Plc w po m ln F) (hm : m ≤ 9223372036854775807) (hln : ∀ i, i < m → ln i ≤ 9223372036854775807) (hF : ∀ i, i < m → ∀ j, j < ln i → F i j < 65536) (hL : Ldr w lo n L) (hn : n ≤ 9223372036854775807) (s : -9223372036854775808 ≤ sw ∧ sw ≤ 9223372036854775807)
    (_ : -9223372036854775808 ≤ sh ∧ sh ≤ 9223372036854775807) (_ : -9223372036854775808 ≤ cap ∧ cap ≤ 9223372036854775807) (_ : -9223372036854775808 ≤ p ∧ p ≤ 9223372036854775807) :
    Calls Tryz.prog 3 #[Tl.frv W H D A po m d, cfv sw sh lo n c cap p] w fun e w' => e = .returned (.bool true) ∧ Kept [] w w' :=
  top_any W H D A po m d ln F sw sh lo n c L cap p w hP hP.pl hT hm hln hF hL hn s.1 s.2
end Go.Proofs.YtbhhkcgicajlcaaGreatDoor.Pc
