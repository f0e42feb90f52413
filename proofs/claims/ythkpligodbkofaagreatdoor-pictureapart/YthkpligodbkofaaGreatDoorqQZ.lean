import Derived.Test.YthkpligodbkofaaGreatDoorqBZ
import Derived.Test.YthkpligodbkofaaGreatDoorqMZ
namespace Go.Proofs.YthkpligodbkofaaGreatDoor.Pc
open Go.RowKit

theorem byts_app {a b : List Nat} (ha : Byts a) (hb : Byts b) : Byts (a ++ b) := fun x hx => by
  rcases List.mem_append.1 hx with h | h
  · exact ha x h
  · exact hb x h
theorem tbB_byts (L R : List (List Nat)) : Byts (tbB L R) := by
  unfold tbB tbA
  exact byts_app (byts_app (fds_byts _) (fds_byts _)) (big_lt _ _)
theorem flat_byts {L : List (List Nat)} (h : ∀ i, i < L.length → Byts (L.getD i [])) : Byts L.flatten := fun x hx => by
  obtain ⟨l, hl, hx⟩ := List.mem_flatten.1 hx
  obtain ⟨i, hi, e⟩ := List.mem_iff_getElem.1 hl
  have := h i hi x
  rw [List.getD_eq_getElem?_getD, List.getElem?_eq_getElem hi, e] at this
  exact this hx
theorem psv_byts {W H D : Int} {A : Bool} {m : Nat} {ln : Nat → Nat} {F : Nat → Nat → Nat} {sw sh c r : Int} (hv : Tl.Vld W H D A m ln F) (g : Tl.Gd W H sw sh c r) {N : Nat} (hN : (N : Int) ≤ c * r) {rr : Nat → Int} (hr : ∀ q, q < 4 → 0 ≤ rr q ∧ rr q ≤ 63) {X : Nat → Nat → Nat × Nat} (hX : Cod W H D sw sh c N m F rr X) : Byts (psv N m X).flatten :=
  flat_byts (fun i hi => by
    rw [psv_len] at hi
    rw [psv_at hi]
    exact (pay_le hv g hN hr hX hi).2)

theorem shp16 : Tl.Shp 16 16 10 false := ⟨⟨by decide, by decide⟩, ⟨by decide, by decide⟩, .inl rfl, by decide⟩
theorem vld16 : Tl.Vld 16 16 10 false 3 (Tl.pz 16 16) (fun _ _ => 0) :=
  ⟨shp16, rfl, fun i _ => by
    unfold Tl.pz
    refine Int.toNat_of_nonneg ?_
    unfold Tl.wp
    split <;> decide, fun _ _ _ _ => Nat.zero_le _⟩
theorem cfg16 : Cfg 16 16 10 false 16 16 1 (fun _ _ => 0) 0 ((0 : Nat) : Int) := ⟨shp16, by decide, by decide, by decide, by decide⟩

/-- The document's first example, coded. -/
theorem enc_shown (po lo : Option Addr) (w : World) (hP : Plc w po 3 (Tl.pz 16 16) (fun _ _ => 0)) (hL : Ldr w lo 1 (fun _ _ => 0)) (hT : Tab w) :
    Calls Tryz.prog 17 #[Tl.frv 16 16 10 false po 3 3, cfv 16 16 lo 1 1 0 0] w fun e w' => ∃ g c ln t, e = .returned (.tuple #[.agg #[.slice (some ⟨g, 0, none⟩) ln c, .int .i64 0, .int .i64 0, .int .i64 0, .int .i64 0, .int .i64 0], .int .i64 0]) ∧
      Reads w' (some ⟨g, 0, none⟩) (hdB 16 16 10 16 16 false (fun _ => 0) 1 0 ln ++ t) ∧ Byts t ∧ 32 + t.length = ln ∧ ln ≤ c ∧ c ≤ 9223372036854775807 ∧ 44 ≤ ln ∧ ln ≤ 134217727 ∧ Kept [] w w' := by
  have hv := vld16
  have hc := cfg16
  have hN : (1 : Nat) = (Tl.cl 16 16 * Tl.cl 16 16).toNat := by decide
  have hN1 : ((1 : Nat) : Int) ≤ Tl.cl 16 16 * Tl.cl 16 16 := by decide
  obtain ⟨X, hX⟩ := cod_ex hv hc.gd hN1 (fun _ => 0)
  have hE : jbE 16 16 10 false 3 (Tl.pz 16 16) (fun _ _ => 0) 16 16 1 (fun _ _ => 0) 0 0 = 0 := by
    unfold jbE
    rw [if_pos (Tl.vE_zero.2 hv)]
    exact cfE_zero.2 hc
  have hb := rcl_bd (X := fun _ => X) hv hc hN (fun _ _ => hX) (i := 0) (by decide)
  have ht := rcl_top (X := fun _ => X) hv hc hN (fun _ _ => hX) (i := 0) (by decide)
  refine (Encode_any 16 16 10 false po 3 3 (Tl.pz 16 16) (fun _ _ => 0) 16 16 lo 1 1 (fun _ _ => 0) 0 0 0 1 _ _ _ w hP.pl (by decide) (fun i hi => ?_) hL (by decide) (by decide) (by decide) (fun _ => ⟨rfl, by decide⟩)
    (fun _ u P ku hG => jw_ok 16 16 10 false po 3 3 (Tl.pz 16 16) (fun _ _ => 0) 16 16 lo 1 1 (fun _ _ => 0) 0 0 1 (fun _ => X) w hv hc hN (fun _ _ => hX) hP hT u P ku hG)).mono ?_
  · have h9 : (Tl.pz 16 16 i : Int) = Tl.wp 16 (i : Int) * 16 := hv.len i hi
    have h8 : Tl.wp 16 (i : Int) ≤ 16 := by unfold Tl.wp; split <;> decide
    omega
  rintro e w' (⟨_, h⟩ | ⟨h, _⟩)
  · rcases h with ⟨i, hi, hle, _, bo, c, rfl, ho, hk⟩ | ⟨hall, _⟩
    · obtain rfl : i = 0 := by omega
      obtain ⟨L9, eL⟩ : ∃ x, rcl (lnf (psv 1 3 X)) 1 0 = x := ⟨_, rfl⟩
      rw [eL] at hb ht
      simp only [eL] at ho ⊢
      rcases ho.2 with ⟨_, h0⟩ | ⟨g, cap, cur, h1, _, _, h4, h5, _⟩
      · omega
      cases h1
      have hml : maxLen ≤ 9223372036854775807 := by unfold maxLen; decide
      have hrd := reads_row ho
      have hpl := psv_len 1 3 X
      have hlen := recB_len 16 16 10 16 16 false (fun _ => 0) 0 (psv 1 3 X)
      rw [hpl, eL] at hlen
      refine ⟨g, c, L9, tbB (psv 1 3 X) (parR (psv 1 3 X) 0) ++ ((psv 1 3 X).flatten ++ (parR (psv 1 3 X) 0).flatten), rfl, ?_, ?_, ?_, h4, by omega, hb.1, ht, hk⟩
      · have e9 : recB 16 16 10 16 16 false (fun _ => 0) 0 (psv 1 3 X) (parR (psv 1 3 X) 0) = hdB 16 16 10 16 16 false (fun _ => 0) 1 0 L9 ++ (tbB (psv 1 3 X) (parR (psv 1 3 X) 0) ++ ((psv 1 3 X).flatten ++ (parR (psv 1 3 X) 0).flatten)) := by
          unfold recB
          rw [hpl, eL]
        rw [← e9]
        exact hrd
      · refine byts_app (tbB_byts _ _) (byts_app (psv_byts hv hc.gd hN1 (fun _ _ => ⟨by decide, by decide⟩) hX) ?_)
        intro x hx
        simp [parR] at hx
      · unfold recB at hlen
        rw [List.length_append, hdB_len] at hlen
        exact hlen
    · exfalso
      have h9 := hall 0 (by decide)
      rw [if_pos rfl] at h9
      dsimp only at h9
      omega
  · exact absurd hE h
end Go.Proofs.YthkpligodbkofaaGreatDoor.Pc

namespace Go.Proofs.YthkpligodbkofaaGreatDoor.Pc
open Go.RowKit

theorem rgt16 {ln : Nat} (h0 : 44 ≤ ln) (h1 : ln ≤ 134217727) : rgt 16 16 10 false 16 16 (fun _ => 0) ((1 : Nat) : Int) ((0 : Nat) : Int) (ln : Int) = true := by
  unfold rgt
  have a1 : decide (Tl.nwE 16 16 10 16 16 false = 0) = true := by decide
  have a2 : rmb (fun _ => 0) false = true := by decide
  have a3 : decide (((1 : Nat) : Int) = Tl.cl 16 16 * Tl.cl 16 16) = true := by decide
  have a4 : pmb ((0 : Nat) : Int) ((1 : Nat) : Int) = true := by decide
  rw [a1, a2, a3, a4]
  simp only [Bool.true_and, Bool.and_eq_true, decide_eq_true_eq]
  omega
theorem head_shown (ln : Nat) (t : List Nat) (ht : Byts t) (g c : Nat) (w : World) (hrd : Reads w (some ⟨g, 0, none⟩) (hdB 16 16 10 16 16 false (fun _ => 0) 1 0 ln ++ t)) (hm : 32 + t.length = ln) (hc : ln ≤ c) (hcap : c ≤ 9223372036854775807) (h0 : 44 ≤ ln) (h1 : ln ≤ 134217727) :
    Calls Tryz.prog 26 #[.slice (some ⟨g, 0, none⟩) ln c] w fun e w' => e = .returned (.tuple #[.agg #[.int .i64 16, .int .i64 16, .int .i64 10, .bool false, .int .i64 16, .int .i64 16, .int .i64 0, .int .i64 0, .int .i64 0, .int .i64 0, .int .i64 1, .int .i64 0, .int .i64 (ln : Int)], .int .i64 0]) ∧ Kept [] w w' :=
  head_of 16 16 10 16 16 false (fun _ => 0) 1 0 ln t (by decide) (by decide) (by decide) (by decide) (by decide) (fun _ _ => by decide) (by decide) (by decide) (by omega) (rgt16 h0 h1) ht g 0 c ln w hrd hm hc hcap
theorem tsize_shown (ln : Nat) (w : World) (h0 : 44 ≤ ln) (h1 : ln ≤ 134217727) :
    Calls Tryz.prog 28 #[.agg #[.int .i64 16, .int .i64 16, .int .i64 10, .bool false, .int .i64 16, .int .i64 16, .int .i64 0, .int .i64 0, .int .i64 0, .int .i64 0, .int .i64 1, .int .i64 0, .int .i64 (ln : Int)]] w fun e w' => e = .returned (.int .i64 12) ∧ Kept [] w w' :=
  tsize_ok 16 16 10 false 16 16 (fun _ => 0) 1 0 (ln : Int) w (by decide) (by decide) (rgt16 h0 h1) (by decide) (by decide)
theorem bnd16 : bnd 16 16 10 16 16 false 0 = 696 := by decide
theorem mk_plc {w0 w : World} {G n : Nat} {bs ln : Nat → Nat} {F : Nat → Nat → Nat} (h : Tl.Mk w0 w G n n bs ln F) : Plc w (some ⟨G, 0, none⟩) n ln F :=
  .inr ⟨G, 0, rfl, fun i hi => ⟨_, _, by rw [Nat.zero_add]; exact h.cell hi (Nat.le_refl _), Nat.le_refl _, (h.row i hi).rd⟩⟩

set_option maxHeartbeats 8000000 in
set_option maxRecDepth 1000000 in
theorem pshown_any (w : World) (hT : Tab w) : Calls Tryz.prog 7 #[] w fun e w' => e = .returned (.bool true) ∧ Kept [] w w' := by
  obtain ⟨B, eB⟩ : ∃ B, w.heap.size = B := ⟨_, rfl⟩
  obtain ⟨w1, e1⟩ : ∃ w1, w.alloc (.cells #[.int .i64 16, .int .i64 16, .int .i64 10, .bool false] 26 (0, 0)) = w1 := ⟨_, rfl⟩
  obtain ⟨w2, e2⟩ : ∃ w2, w1.alloc (.cells #[.int .i64 0, .int .i64 0, .int .i64 0, .int .i64 0] 43 (0, 0)) = w2 := ⟨_, rfl⟩
  obtain ⟨w3, e3⟩ : ∃ w3, w2.alloc (.cells #[.int .i64 16, .int .i64 16, .slice (some ⟨B + 1, 0, none⟩) 1 1, .int .i64 0, .int .i64 0] 24 (0, 0)) = w3 := ⟨_, rfl⟩
  have z1 : w1.heap.size = B + 1 := by rw [← e1, ← eB]; exact Array.size_push _
  have z2 : w2.heap.size = B + 1 + 1 := by rw [← z1, ← e2]; exact Array.size_push _
  have k1 : Kept [] w w1 := by rw [← e1]; exact (Kept.refl [] w).alloc _
  have k2 : Kept [] w1 w2 := by rw [← e2]; exact (Kept.refl [] w1).alloc _
  have k3 : Kept [] w2 w3 := by rw [← e3]; exact (Kept.refl [] w2).alloc _
  have HS := Hid.mk ((k2.trans k3).heap (show w1.heap[B]? = some (.cells #[.int .i64 16, .int .i64 16, .int .i64 10, .bool false] 26 (0, 0)) by rw [← e1, ← eB]; exact heap_alloc_new _ _) (by simp))
  have HR := Hid.mk (k3.heap (show w2.heap[B + 1]? = some (.cells #[.int .i64 0, .int .i64 0, .int .i64 0, .int .i64 0] 43 (0, 0)) by rw [← e2, ← z1]; exact heap_alloc_new _ _) (by simp))
  have HC := Hid.mk (show w3.heap[B + 1 + 1]? = some (.cells #[.int .i64 16, .int .i64 16, .slice (some ⟨B + 1, 0, none⟩) 1 1, .int .i64 0, .int .i64 0] 24 (0, 0)) by rw [← e3, ← z2]; exact heap_alloc_new _ _)
  have K3 := Hid.mk ((k1.trans k2).trans k3)
  have HL : Hid (Ldr w3 (some ⟨B + 1, 0, none⟩) 1 (fun _ _ => 0)) := Hid.mk (.inr ⟨B + 1, 0, rfl, fun i hi j hj => by
    obtain ⟨a0, a1, a2, a3⟩ := cel4 HR.out
    obtain rfl : i = 0 := by omega
    rcases (show j = 0 ∨ j = 1 ∨ j = 2 ∨ j = 3 by omega) with rfl | rfl | rfl | rfl <;> assumption⟩)
  have HT := Hid.mk (fun u (ku : Kept [] w3 u) => (hT.kept K3.out (by simp)).kept ku (by simp))
  have C1 := pBound_ok 16 16 10 false 16 16 (some ⟨B + 1, 0, none⟩) 1 1 (fun _ _ => 0) 0 0 w3 HL.out (by decide) (by decide) (by decide) cfg16
  rw [bnd16] at C1
  have C1 := Hid.mk C1
  have C2 : Hid (∀ u, Calls Tryz.prog 27 #[Tl.shv 16 16 10 false] u fun e w' => ∃ gp bs, e = .returned (.tuple #[Tl.frv 16 16 10 false (some ⟨gp, 0, none⟩) 3 3, .int .i64 0]) ∧ Tl.Mk u w' gp 3 3 bs (Tl.pz 16 16) (fun _ _ => 0)) := Hid.mk (fun u => (Tl.new_any 16 16 10 false u).mono fun e w' h => h.1 (Tl.shE_ok shp16))
  obtain ⟨s0, s1, s2, s3⟩ := cel4 HS.out
  obtain ⟨q0, q1, q2, q3, q4⟩ := cel5 HC.out
  clear k1 k2 k3 hT z1 z2
  subst e3 e2 e1 eB
  go_enter Tryz.func7, Tryz.ntmps7
  go_wp2_with (fail)
  generalize ((w.alloc (.cells #[.int .i64 16, .int .i64 16, .int .i64 10, .bool false] 26 (0, 0))).alloc (.cells #[.int .i64 0, .int .i64 0, .int .i64 0, .int .i64 0] 43 (0, 0))).alloc (.cells #[.int .i64 16, .int .i64 16, .slice (some ⟨w.heap.size + 1, 0, none⟩) 1 1, .int .i64 0, .int .i64 0] 24 (0, 0)) = w3 at *
  generalize w.heap.size = B at *
  refine C1.out.mono ?_
  rintro e w4 ⟨rfl, k4⟩
  have K4 := Hid.mk k4
  clear s0 s1 s2 s3 q0 q1 q2 q3 q4 k4 C1
  obtain ⟨s0, s1, s2, s3⟩ := cel4 (K4.out.heap HS.out (by simp))
  go_wp2_with (fail)
  refine (C2.out _).mono ?_
  rintro e w5 ⟨gp, bs, rfl, hM⟩
  have K5 := Hid.mk (K4.out.trans hM.kept)
  have HM := Hid.mk hM
  clear s0 s1 s2 s3 hM C2
  obtain ⟨w6, e6⟩ : ∃ w6, w5.alloc (.cells #[.int .i64 16, .int .i64 16, .int .i64 10, .bool false, .slice (some ⟨gp, 0, none⟩) 3 3] 38 (0, 0)) = w6 := ⟨_, rfl⟩
  obtain ⟨Bf, eBf⟩ : ∃ B, w5.heap.size = B := ⟨_, rfl⟩
  have k6 : Kept [] w5 w6 := by rw [← e6]; exact (Kept.refl [] w5).alloc _
  have HF := show w6.heap[Bf]? = some (.cells #[.int .i64 16, .int .i64 16, .int .i64 10, .bool false, .slice (some ⟨gp, 0, none⟩) 3 3] 38 (0, 0)) by rw [← e6, ← eBf]; exact heap_alloc_new _ _
  have K6 := Hid.mk (K5.out.trans k6)
  obtain ⟨f0, f1, f2, f3, f4⟩ := cel5 HF
  obtain ⟨q0, q1, q2, q3, q4⟩ := cel5 (K6.out.heap HC.out (by simp))
  have C3 := Hid.mk (enc_shown (some ⟨gp, 0, none⟩) (some ⟨B + 1, 0, none⟩) w6 (mk_plc (HM.out.keep k6)) (HL.out.keep K6.out) (HT.out _ K6.out))
  clear HF k6
  subst e6 eBf
  go_wp2_with (fail)
  generalize w5.alloc (.cells #[.int .i64 16, .int .i64 16, .int .i64 10, .bool false, .slice (some ⟨gp, 0, none⟩) 3 3] 38 (0, 0)) = w6 at *
  generalize w5.heap.size = Bf at *
  refine C3.out.mono ?_
  rintro e w7 ⟨g7, c7, ln, t, rfl, hrd, ht, hm, hlc, hcc, h44, h27, k7⟩
  have K7 := Hid.mk (K6.out.trans k7)
  clear f0 f1 f2 f3 f4 q0 q1 q2 q3 q4 C3
  obtain ⟨w8, e8⟩ : ∃ x, w7.alloc (.cells #[.slice (some ⟨g7, 0, none⟩) ln c7, .int .i64 0, .int .i64 0, .int .i64 0, .int .i64 0, .int .i64 0] 45 (0, 0)) = x := ⟨_, rfl⟩
  obtain ⟨Bc, eBc⟩ : ∃ B, w7.heap.size = B := ⟨_, rfl⟩
  have k8 : Kept [] w7 w8 := by rw [← e8]; exact (Kept.refl [] w7).alloc _
  have HD := Hid.mk (show w8.heap[Bc]? = some (.cells #[.slice (some ⟨g7, 0, none⟩) ln c7, .int .i64 0, .int .i64 0, .int .i64 0, .int .i64 0, .int .i64 0] 45 (0, 0)) by rw [← e8, ← eBc]; exact heap_alloc_new _ _)
  have d0 := cellAt (i := 0) HD.out rfl
  have K8 := Hid.mk (K7.out.trans k8)
  have C4 := Hid.mk (head_shown ln t ht g7 c7 w8 (hrd.keep k8) hm hlc hcc h44 h27)
  have C5 := Hid.mk (fun u => tsize_shown ln u h44 h27)
  have HLN := Hid.mk h27
  clear k7 k8 hrd ht hm hlc hcc h44 h27
  subst e8 eBc
  go_wp2_with (fail)
  generalize w7.alloc (.cells #[.slice (some ⟨g7, 0, none⟩) ln c7, .int .i64 0, .int .i64 0, .int .i64 0, .int .i64 0, .int .i64 0] 45 (0, 0)) = w8 at *
  generalize w7.heap.size = Bc at *
  refine C4.out.mono ?_
  rintro e w9 ⟨rfl, k9⟩
  have K9 := Hid.mk (K8.out.trans k9)
  obtain ⟨wA, eA⟩ : ∃ x, w9.alloc (.cells #[.int .i64 16, .int .i64 16, .int .i64 10, .bool false, .int .i64 16, .int .i64 16, .int .i64 0, .int .i64 0, .int .i64 0, .int .i64 0, .int .i64 1, .int .i64 0, .int .i64 (ln : Int)] 75 (0, 0)) = x := ⟨_, rfl⟩
  obtain ⟨Bh, eBh⟩ : ∃ B, w9.heap.size = B := ⟨_, rfl⟩
  have kA : Kept [] w9 wA := by rw [← eA]; exact (Kept.refl [] w9).alloc _
  have HH := show wA.heap[Bh]? = some (.cells #[.int .i64 16, .int .i64 16, .int .i64 10, .bool false, .int .i64 16, .int .i64 16, .int .i64 0, .int .i64 0, .int .i64 0, .int .i64 0, .int .i64 1, .int .i64 0, .int .i64 (ln : Int)] 75 (0, 0)) by rw [← eA, ← eBh]; exact heap_alloc_new _ _
  obtain ⟨y0, y1, y2, y3, y4, y5, y6, y7, y8, y9, y10, y11, y12⟩ := cel13 HH
  have x0 := cellAt (i := 0) ((k9.trans kA).heap HD.out (by simp)) rfl
  have KA := Hid.mk (K9.out.trans kA)
  clear d0 C4 HH k9 kA
  subst eA eBh
  go_wp2_with (fail)
  generalize w9.alloc (.cells #[.int .i64 16, .int .i64 16, .int .i64 10, .bool false, .int .i64 16, .int .i64 16, .int .i64 0, .int .i64 0, .int .i64 0, .int .i64 0, .int .i64 1, .int .i64 0, .int .i64 (ln : Int)] 75 (0, 0)) = wA at *
  generalize w9.heap.size = Bh at *
  refine (C5.out _).mono ?_
  rintro e wB ⟨rfl, kB⟩
  clear y0 y1 y2 y3 y4 y5 y6 y7 y8 y9 y10 y11 y12 x0
  go_wp2
  go_ret
  exact ⟨rfl, (K3.out.trans KA.out).trans kB⟩
end Go.Proofs.YthkpligodbkofaaGreatDoor.Pc
