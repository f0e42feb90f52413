import Derived.Test.YthkpligodbkofaaGreatDoorqY
import Derived.Test.YthkpligodbkofaaGreatDoortB2Z
namespace Go.Proofs.YthkpligodbkofaaGreatDoor.Pc
open Go.RowKit

theorem jbE_z {W H D : Int} {A : Bool} {m : Nat} {ln : Nat → Nat} {F : Nat → Nat → Nat} {sw sh : Int} {n : Nat} {L : Nat → Nat → Int} {cap p : Int} (h1 : Tl.vE W H D A m ln F = 0) (h2 : cfE W H D A sw sh n L cap p = 0) : jbE W H D A m ln F sw sh n L cap p = 0 := by
  unfold jbE; rw [if_pos h1]; exact h2
theorem cfE_cap {W H D : Int} {A : Bool} {sw sh : Int} {n : Nat} {L : Nat → Nat → Int} {cap cap' p : Int} (h : cfE W H D A sw sh n L cap p = 0) (h0 : 0 ≤ cap') : cfE W H D A sw sh n L cap' p = 0 := by
  have hc := cfE_zero.1 h
  exact cfE_zero.2 ⟨hc.shp, hc.sd, hc.ld, h0, hc.pr⟩
/-- The cap that is tried. -/
def tcap (bd : Int) (LN : Nat → Nat) (n : Nat) (raw : Int) : Int := if (pick raw (n + 1)).toNat < n then (LN (pick raw (n + 1)).toNat : Int) + pick (raw.tdiv 64) 3 - 1 else bd

set_option maxHeartbeats 16000000 in
set_option maxRecDepth 1000000 in
theorem ladder_yes (W H D : Int) (A : Bool) (po : Option Addr) (m d : Nat) (ln : Nat → Nat) (F : Nat → Nat → Nat) (sw sh : Int) (lo : Option Addr) (n c : Nat) (L : Nat → Nat → Int) (cap p raw : Int) (pn N : Nat) (LN : Nat → Nat) (PS : Nat → List (List Nat)) (RB : Nat → List Nat) (bd : Int) (w : World) (hT : Tab w)
    (hP : Tl.Pl w po m ln F) (hm : m ≤ 9223372036854775807) (hln : ∀ i, i < m → ln i ≤ 9223372036854775807) (hF : ∀ i, i < m → ∀ j, j < ln i → F i j < 65536) (hL : Ldr w lo n L) (n1 : 1 ≤ n) (hn : n ≤ 16) (s0 : -9223372036854775808 ≤ sw) (s1 : sw ≤ 9223372036854775807) (x0 : -9223372036854775808 ≤ raw) (x1 : raw ≤ 9223372036854775807)
    (hV : Tl.vE W H D A m ln F = 0) (hE : cfE W H D A sw sh n L cap p = 0) (hp : p = (pn : Int))
    (HW : ∀ cap', 0 ≤ cap' → ∀ u P, Kept [] w u → Tl.Gr u P W H D A sw sh (Tl.cl W sw) (Tl.cl H sh) → Jw u W H D A po m d sw sh lo n c cap' pn P N L LN PS RB)
    (hB : ∀ u, Kept [] w u → Calls Tryz.prog 10 #[Tl.shv W H D A, cfv sw sh lo n c cap p] u fun e w' => e = .returned (.tuple #[.int .i64 bd, .int .i64 0]) ∧ Kept [] u w')
    (hLN : ∀ i, i < n → 44 ≤ LN i ∧ (LN i : Int) ≤ bd ∧ LN i ≤ 134217727 ∧ (RB i).length = LN i) (hbd : bd ≤ 1000000000) :
    Calls Tryz.prog 4 #[Tl.frv W H D A po m d, cfv sw sh lo n c cap p, .int .i64 raw] w fun e w' => e = .returned (.bool true) ∧ Kept [] w w' := by
  have hcp : 0 ≤ cap := (cfE_zero.1 hE).cp
  obtain ⟨w1, e1⟩ : ∃ w1, w.alloc (.cells #[.int .i64 W, .int .i64 H, .int .i64 D, .bool A, .slice po m d] 38 (0, 0)) = w1 := ⟨_, rfl⟩
  obtain ⟨w2, e2⟩ : ∃ w2, w1.alloc (.cells #[.int .i64 sw, .int .i64 sh, .slice lo n c, .int .i64 cap, .int .i64 p] 24 (0, 0)) = w2 := ⟨_, rfl⟩
  obtain ⟨B, eB⟩ : ∃ B, w.heap.size = B := ⟨_, rfl⟩
  have z1 : w1.heap.size = B + 1 := by rw [← e1, ← eB]; exact Array.size_push _
  have k1 : Kept [] w w1 := by rw [← e1]; exact (Kept.refl [] w).alloc _
  have k2 : Kept [] w1 w2 := by rw [← e2]; exact (Kept.refl [] w1).alloc _
  have HS := Hid.mk (k2.heap (show w1.heap[B]? = some (.cells #[.int .i64 W, .int .i64 H, .int .i64 D, .bool A, .slice po m d] 38 (0, 0)) by rw [← e1, ← eB]; exact heap_alloc_new _ _) (by simp))
  have HC := Hid.mk (show w2.heap[B + 1]? = some (.cells #[.int .i64 sw, .int .i64 sh, .slice lo n c, .int .i64 cap, .int .i64 p] 24 (0, 0)) by rw [← e2, ← z1]; exact heap_alloc_new _ _)
  have K2 := Hid.mk (k1.trans k2)
  have HB := Hid.mk eB
  have hn9 : n ≤ 9223372036854775807 := by omega
  have C0 := Hid.mk (pshown_any w2 (hT.kept K2.out (by simp)))
  have C1 := Hid.mk (fun u (ku : Kept [] w u) => rValid_any W H D A sw sh lo n c L cap p u (hL.keep ku) hn9)
  have C2 := Hid.mk (fun u (ku : Kept [] w u) => Tl.rvalid_any W H D A po m d ln F u (hP.keep ku) hm hln hF)
  have C3 := Hid.mk hB
  have C4 := Hid.mk (fun i (hi : i < n) u (ku : Kept [] w u) => At_ok W H D A po m d ln F sw sh lo n c L cap p pn N LN PS RB i u (hP.keep ku) hm hln (hL.keep ku) hn9 s0 s1 (fun _ => ⟨hp, by omega⟩) (fun _ x P kx hG => HW cap hcp x P (ku.trans kx) hG) (jbE_z hV hE) hi)
  have C5 := Hid.mk (fun cap' (h0 : 0 ≤ cap') u (ku : Kept [] w u) => Encode_any W H D A po m d ln F sw sh lo n c L cap' p pn N LN PS RB u (hP.keep ku) hm hln (hL.keep ku) hn9 s0 s1 (fun _ => ⟨hp, by omega⟩) (fun _ x P kx hG => HW cap' h0 x P (ku.trans kx) hG))
  have C5E := Hid.mk (fun cap' (h0 : 0 ≤ cap') => jbE_z hV (cfE_cap hE h0))
  rw [hE] at C1
  rw [hV] at C2
  have HLN := Hid.mk hLN
  have HN := Hid.mk (And.intro n1 hn)
  have HX := Hid.mk (And.intro x0 x1)
  have HBD := Hid.mk hbd
  obtain ⟨q0, q1, q2, q3, q4⟩ := cel5 HC.out
  obtain ⟨t0, t1, t2, t3, t4⟩ := cel5 HS.out
  clear hT hP hm hln hF hL n1 hn s0 s1 x0 x1 hV hE hp HW hB hLN hbd k1 k2 hn9 hcp
  go_enter Tryz.func4, Tryz.ntmps4
  go_wp2_with (fail)
  clear e1 e2 z1 eB q0 q1 q2 q3 q4 t0 t1 t2 t3 t4
  refine C0.out.mono ?_
  rintro e w3 ⟨rfl, k3⟩
  have K3 := Hid.mk k3
  clear k3 C0
  obtain ⟨q0, q1, q2, q3, q4⟩ := cel5 (K3.out.heap HC.out (by simp))
  obtain ⟨t0, t1, t2, t3, t4⟩ := cel5 (K3.out.heap HS.out (by simp))
  go_wp2_with (fail)
  refine (C1.out _ (K2.out.trans K3.out)).mono ?_
  rintro e w4 ⟨rfl, k4⟩
  have K4 := Hid.mk (K3.out.trans k4)
  clear k4 q0 q1 q2 q3 q4 t0 t1 t2 t3 t4
  obtain ⟨t0, t1, t2, t3, t4⟩ := cel5 (K4.out.heap HS.out (by simp))
  go_wp2_with (fail)
  refine (C2.out _ (K2.out.trans K4.out)).mono ?_
  rintro e w5 ⟨rfl, k5⟩
  have K5 := Hid.mk (K4.out.trans k5)
  clear k5 t0 t1 t2 t3 t4
  obtain ⟨q0, q1, q2, q3, q4⟩ := cel5 (K5.out.heap HC.out (by simp))
  obtain ⟨t0, t1, t2, t3, t4⟩ := cel5 (K5.out.heap HS.out (by simp))
  go_wp2_with (fail)
  refine (C3.out _ (K2.out.trans K5.out)).mono ?_
  rintro e w6 ⟨rfl, k6⟩
  have K6 := Hid.mk (K5.out.trans k6)
  clear k6 q0 q1 q2 q3 q4 t0 t1 t2 t3 t4 C1 C2 C3
  go_wp2
  obtain ⟨S, eS⟩ : ∃ S, w6.heap.size = S := ⟨_, rfl⟩
  have ES := Hid.mk eS
  clear eS
  go_loopw [10, 11] (fun v i wr => ∃ (k : Nat) (vo : Option Addr) (vc : Nat) (bo : Nat → Option Addr) (cc : Nat → Nat), k ≤ n ∧ i = .int .i64 (k : Int) ∧ v = .slice vo k vc ∧ Hid (Kept [] w6 wr ∧ wr.ownsRow S 45 6 (.slice vo k vc) k (cdC LN L bo cc k) ∧ ∀ i, i < k → wr.ownsRow S 5 1 (.slice (bo i) (LN i) (cc i)) (LN i) ((RB i).map byt))) (fun _ i _ => n - (intOf i).toNat)
  case atStart => exact ⟨0, none, 0, fun _ => none, fun _ => 0, Nat.zero_le _, rfl, rfl, Hid.mk ⟨Kept.refl _ _, ⟨rfl, .inl ⟨rfl, rfl⟩⟩, fun i hi => by omega⟩⟩
  case round =>
    obtain ⟨k, vo, vc, bo, cc, hk, rfl, rfl, HI⟩ := hrel
    obtain ⟨q0, q1, q2, q3, q4⟩ := cel5 ((K6.out.trans HI.out.1).heap HC.out (by simp))
    obtain ⟨t0, t1, t2, t3, t4⟩ := cel5 ((K6.out.trans HI.out.1).heap HS.out (by simp))
    by_cases hlt : k < n
    · have ik : (k : Int) < (n : Int) := by omega
      have HK := Hid.mk hlt
      clear hlt hk
      go_wp2_with (fail)
      refine (C4.out k HK.out _ (K2.out.trans (K6.out.trans HI.out.1))).mono ?_
      rintro e w7 ⟨yo, yc, rfl, hy, k7⟩
      have HY := Hid.mk (own_base hy (show S ≤ wr.heap.size by have := HI.out.1.size; have := ES.out; omega))
      have K7 := Hid.mk k7
      have HLk := HLN.out k HK.out
      unfold cdv
      have HSX : Hid (six LN L (fun j => if j = k then yo else bo j) (fun j => if j = k then yc else cc j) k = [.slice yo (LN k) yc, .int .i64 (k : Int), .int .i64 (L k 0), .int .i64 (L k 1), .int .i64 (L k 2), .int .i64 (L k 3)]) := Hid.mk (by unfold six; simp only [if_true])
      obtain ⟨a0, g0⟩ : ∃ a, L k 0 = a := ⟨_, rfl⟩
      obtain ⟨a1, g1⟩ : ∃ a, L k 1 = a := ⟨_, rfl⟩
      obtain ⟨a2, g2⟩ : ∃ a, L k 2 = a := ⟨_, rfl⟩
      obtain ⟨a3, g3⟩ : ∃ a, L k 3 = a := ⟨_, rfl⟩
      obtain ⟨yl, eyl⟩ : ∃ a, LN k = a := ⟨_, rfl⟩
      rw [g0, g1, g2, g3, eyl]
      rw [g0, g1, g2, g3, eyl] at HSX
      rw [eyl] at HLk HY
      have EYL := Hid.mk eyl
      have HLk := Hid.mk HLk
      have b1 : decide (bd < (yl : Int)) = false := decide_eq_false (by have := HLk.out; omega)
      have hkb : k + 1 ≤ 100000000 := by have := HN.out; have := HK.out; omega
      have HK9 : Hid (k ≤ 1000) := Hid.mk (by have := HN.out; have := HK.out; omega)
      obtain ⟨w8, e8⟩ : ∃ x, w7.alloc (.cells #[.slice yo yl yc, .int .i64 (k : Int), .int .i64 a0, .int .i64 a1, .int .i64 a2, .int .i64 a3] 45 (0, 0)) = x := ⟨_, rfl⟩
      obtain ⟨w9, e9⟩ : ∃ x, w8.alloc (.cells #[.slice yo yl yc, .int .i64 (k : Int), .int .i64 a0, .int .i64 a1, .int .i64 a2, .int .i64 a3] 45 (0, 0)) = x := ⟨_, rfl⟩
      have k8 : Kept [] w7 w8 := by rw [← e8]; exact (Kept.refl [] w7).alloc _
      have k9 : Kept [] w8 w9 := by rw [← e9]; exact (Kept.refl [] w8).alloc _
      have z8 : w8.heap.size = w7.heap.size + 1 := by rw [← e8]; exact Array.size_push _
      obtain ⟨u0, u1, u2, u3, u4, u5⟩ := cel6 (show w8.heap[w7.heap.size]? = some (.cells #[.slice yo yl yc, .int .i64 (k : Int), .int .i64 a0, .int .i64 a1, .int .i64 a2, .int .i64 a3] 45 (0, 0)) by rw [← e8]; exact heap_alloc_new _ _)
      have H9 := Hid.mk (show w9.heap[w7.heap.size + 1]? = some (.cells #[.slice yo yl yc, .int .i64 (k : Int), .int .i64 a0, .int .i64 a1, .int .i64 a2, .int .i64 a3] 45 (0, 0)) by rw [← e9, ← z8]; exact heap_alloc_new _ _)
      have K9 := Hid.mk (HI.out.1.trans ((k7.trans k8).trans k9))
      have O9 := Hid.mk (((k7.trans k8).trans k9).row HI.out.2.1 (by simp))
      have R9 := Hid.mk (fun i (hi : i < k) => ((k7.trans k8).trans k9).row (HI.out.2.2 i hi) (by simp))
      have Y9 := Hid.mk ((k8.trans k9).row HY.out (by simp))
      have S9 : Hid (S ≤ w9.heap.size) := Hid.mk (by have := K9.out.size; have := ES.out; omega)
      clear k7 k8 k9 z8 hy g0 g1 g2 g3 eyl q0 q1 q2 q3 q4 t0 t1 t2 t3 t4
      subst e9 e8
      have hk1 : wrap64 ((k : Int) + 1) = ((k + 1 : Nat) : Int) := w64_add (b := 1) rfl hkb
      have hk2 : IntKind.i64.wrap ((k : Int) + 1) = ((k + 1 : Nat) : Int) := wi_add (b := 1) rfl hkb
      clear hkb
      go_wp2_with (at_builtin; refine wpList_cd S _ rfl _ _ rfl (.slice vo k vc) k _ rfl O9.out (w7.heap.size + 1) _ _ _ _ _ _ rfl H9.out (by simp [Value.oneCell']) HK9.out S9.out ?_; intro g gc wA hoA kA)
      clear hk1 hk2
      have E9 := Hid.mk (fun (j : Nat) (hj : j < k) => show j ≠ k by omega)
      refine ⟨⟨k + 1, some ⟨g, 0, none⟩, gc, fun j => if j = k then yo else bo j, fun j => if j = k then yc else cc j, HK.out, rfl, rfl, Hid.mk ⟨list_new O9.out K9.out (Nat.le_of_eq ES.out) kA, ?_, fun i hi => ?_⟩⟩, ?_⟩
      · have e1 : cdC LN L (fun j => if j = k then yo else bo j) (fun j => if j = k then yc else cc j) (k + 1) = cdC LN L bo cc k ++ [.slice yo yl yc, .int .i64 (k : Int), .int .i64 a0, .int .i64 a1, .int .i64 a2, .int .i64 a3] := by
          rw [← HSX.out]
          show cdC LN L _ _ k ++ six LN L _ _ k = _
          rw [cdC_congr (bo' := bo) (cc' := cc) (fun i hi => ⟨if_neg (E9.out i hi), if_neg (E9.out i hi)⟩)]
        rw [e1]
        exact hoA
      · by_cases e : i = k
        · subst e
          simp only [if_true]
          rw [EYL.out]
          exact rec_keep O9.out kA Y9.out (by decide)
        · simp only [if_neg e]
          exact rec_keep O9.out kA (R9.out i (by omega)) (by decide)
      · clear ik
        have h9 := HK.out
        simp [intOf]
        omega
    · obtain rfl : n = k := by omega
      clear q0 q1 q2 q3 q4 t0 t1 t2 t3 t4 hlt hk
      have HRL := Hid.mk HI.out.2.1
      have HREC := Hid.mk HI.out.2.2
      have K7 := Hid.mk HI.out.1
      clear HI
      obtain ⟨g, vc', hVe, hSg, _⟩ := own_some6 HRL.out (by have := HN.out; omega)
      cases hVe
      have HSB : Hid (B + 1 < S ∧ S ≤ g) := Hid.mk ⟨by rw [← ES.out]; exact Nat.lt_of_lt_of_le (lt_of_block HC.out) K6.out.size, hSg⟩
      obtain ⟨kk, ekk⟩ : ∃ kk : Nat, pick raw ((n + 1 : Nat) : Int) = (kk : Int) := ⟨(pick raw ((n + 1 : Nat) : Int)).toNat, (Int.toNat_of_nonneg (pick_lo _ _ (by omega))).symm⟩
      have HKK : Hid (kk ≤ n) := Hid.mk (by have := pick_hi raw ((n + 1 : Nat) : Int) (by omega); omega)
      have D1 := Hid.mk (fun u => pplace_any raw ((n + 1 : Nat) : Int) u HX.out.1 HX.out.2 (by omega))
      rw [ekk] at D1
      have hn1 : wrap64 ((n : Int) + 1) = ((n + 1 : Nat) : Int) := w64_add (b := 1) rfl (by have := HN.out; omega)
      have hn2 : IntKind.i64.wrap ((n : Int) + 1) = ((n + 1 : Nat) : Int) := wi_add (b := 1) rfl (by have := HN.out; omega)
      have HC7 := Hid.mk ((K6.out.trans K7.out).heap HC.out (by simp))
      obtain ⟨q0, q1, q2, q3, q4⟩ := cel5 HC7.out
      have zz := row_fz HC7.out
      have S7 := Hid.mk (heap_setCell_at (i := 3) (u := .int .i64 bd) HC7.out)
      have KS7 := Hid.mk ((Kept.refl [B + 1] wr).setCell (p := ⟨B + 1, 3, none⟩) (.inl (by simp)) (.int .i64 bd))
      obtain ⟨w8, e8⟩ : ∃ x, wr.setCell ⟨B + 1, 3, none⟩ (.int .i64 bd) = x := ⟨_, rfl⟩
      rw [e8] at S7 KS7
      clear ekk hSg
      go_wp2_with (fail)
      refine (D1.out _).mono ?_
      rintro e w' ⟨rfl, hw'⟩
      obtain rfl := hw'.symm
      clear hw'
      go_upto_if 87 with (fail)
      have S7b : Hid (w8.heap[B + 1]? = some (.cells #[.int .i64 sw, .int .i64 sh, .slice lo n c, .int .i64 bd, .int .i64 p] 24 (0, 0))) := Hid.mk S7.out
      clear q0 q1 q2 q3 q4 zz S7 e8 hn1 hn2 D1
      go_cut [] (fun wc => ∃ cp : Int, Hid (wc.heap[B + 1]? = some (.cells #[.int .i64 sw, .int .i64 sh, .slice lo n c, .int .i64 cp, .int .i64 p] 24 (0, 0)) ∧ Kept [B + 1] wr wc ∧ 43 ≤ cp ∧ cp ≤ 1000000000 ∧ (¬ kk < n → cp = bd)))
      case first =>
        by_cases hkk : kk < n
        · have ikk : (kk : Int) < (n : Int) := by omega
          have HKL := Hid.mk hkk
          obtain ⟨g', vc', hVe, _, hcell⟩ := own_some6 (KS7.out.row HRL.out (fun b hb hm => by
            simp [Value.ownBlock] at hb hm
            have := HSB.out
            omega)) (by have := HN.out; omega)
          cases hVe
          have l0 : w8.cell? ⟨g, kk * 6, none⟩ = some (.slice (bo kk) (LN kk) (cc kk)) := hcell (kk * 6) _ (cdC_at (j := 0) hkk (by decide))
          obtain ⟨bk, ebk⟩ : ∃ x, bo kk = x := ⟨_, rfl⟩
          obtain ⟨lk, elk⟩ : ∃ x, LN kk = x := ⟨_, rfl⟩
          obtain ⟨ck, eck⟩ : ∃ x, cc kk = x := ⟨_, rfl⟩
          rw [ebk, elk, eck] at l0
          have HLk := HLN.out kk hkk
          rw [elk] at HLk
          have HLk := Hid.mk HLk
          obtain ⟨qv, eqv⟩ : ∃ x, raw.tdiv 64 = x := ⟨_, rfl⟩
          have hqb : -9223372036854775808 ≤ qv ∧ qv ≤ 9223372036854775807 := by
            have h1 := HX.out
            rw [← eqv]
            rcases Int.le_total 0 raw with h0 | h0
            · rw [Int.tdiv_eq_ediv_of_nonneg h0]
              constructor <;> omega
            · have e9 : raw.tdiv 64 = -((-raw).tdiv 64) := by rw [Int.neg_tdiv, Int.neg_neg]
              rw [e9, Int.tdiv_eq_ediv_of_nonneg (by omega)]
              constructor <;> omega
          have v1 : wrap64 (raw.tdiv 64) = qv := by rw [eqv]; exact Tl.w64_in hqb.1 hqb.2
          have v2 : IntKind.i64.wrap (raw.tdiv 64) = qv := by rw [eqv]; exact Tl.wrap_i hqb.1 hqb.2
          have D2 := Hid.mk (fun u => pplace_any qv 3 u hqb.1 hqb.2 (by decide))
          have hpv := And.intro (pick_lo qv 3 (by decide)) (pick_hi qv 3 (by decide))
          obtain ⟨pv, epv⟩ : ∃ x, pick qv 3 = x := ⟨_, rfl⟩
          rw [epv] at D2 hpv
          obtain ⟨sv, esv⟩ : ∃ x, (lk : Int) + pv = x := ⟨_, rfl⟩
          obtain ⟨cp, ecp⟩ : ∃ x, sv - 1 = x := ⟨_, rfl⟩
          have HCP : Hid (43 ≤ cp ∧ cp ≤ 1000000000) := Hid.mk (by have := HLk.out; omega)
          have v3 := wq2 esv (by have := HLk.out; omega)
          have v4 := wq2 ecp (by have := HCP.out; omega)
          obtain ⟨v3a, v3b⟩ := v3
          obtain ⟨v4a, v4b⟩ := v4
          have q3 := cellAt (i := 3) S7b.out rfl
          have zz := row_fz S7b.out
          have S9 := Hid.mk (heap_setCell_at (i := 3) (u := .int .i64 cp) S7b.out)
          have KS9 := Hid.mk (((Kept.refl [B + 1] w8).setCell (p := ⟨B + 1, 3, none⟩) (.inl (by simp)) (.int .i64 cp)).drew)
          have l0d : w8.drew.cell? ⟨g, kk * 6, none⟩ = some (.slice bk lk ck) := l0
          have q3d : w8.drew.cell? ⟨B + 1, 3, none⟩ = some (.int .i64 bd) := q3
          have zzd : ∀ i, w8.drew.frozen? ⟨B + 1, i, none⟩ = false := zz
          clear hcell ebk elk eck eqv hqb epv esv ecp hkk hpv q3 zz
          go_wp2_with (fail)
          refine wp_region_held_drew (S := fun u => u.cell? ⟨g, kk * 6, none⟩ = some (.slice bk lk ck)) (by kernel_rfl) l0d (fun hH0 => ?_)
          refine wpAnyH_take (i := 0) (oi := _) (v := ?_) rfl (by kernel_rfl) (by kernel_rfl) (by kernel_rfl) (fun _ _ _ h => h) (Or.inl ⟨by rfl, ?y0⟩) (by assumption) ?r0
          case y0 => (intro w hSw; (try dsimp only at hSw); go_simp; try with_reducible rfl)
          refine wpAnyH_take (i := 1) (oi := _) (v := ?_) rfl (by kernel_rfl) (by kernel_rfl) (by kernel_rfl) (fun _ _ _ h => h) (Or.inl ⟨by rfl, ?y1⟩) (by assumption) ?r1
          case y1 => (intro w hSw; (try dsimp only at hSw); go_simp; try with_reducible rfl)
          refine wpAnyH_take (i := 2) (oi := _) (v := ?_) rfl (by kernel_rfl) (by kernel_rfl) (by kernel_rfl) (fun _ _ _ h => h) (Or.inl ⟨by rfl, ?y2⟩) (by assumption) ?r2
          case y2 => (intro w hSw; (try dsimp only at hSw); go_simp; try with_reducible rfl)
          refine wpAnyH_take (i := 3) (oi := _) (v := ?_) rfl (by kernel_rfl) (by kernel_rfl) (by kernel_rfl) (fun _ _ _ h => h) (Or.inl ⟨by rfl, ?y3⟩) (by assumption) ?r3
          case y3 => (intro w hSw; (try dsimp only at hSw); go_simp; try with_reducible rfl)
          refine wpAnyH_take (i := 4) (oi := _) (v := ?_) rfl (by kernel_rfl) (by kernel_rfl) (by kernel_rfl) (fun _ _ _ h => h) (Or.inl ⟨by rfl, ?y4⟩) (by assumption) ?r4
          case y4 => (intro w hSw; (try dsimp only at hSw); go_simp; try with_reducible rfl)
          refine wpAnyH_take (i := 5) (oi := _) (v := ?_) rfl (by kernel_rfl) (by kernel_rfl) (by kernel_rfl) (fun _ _ _ h => h) (Or.inl ⟨by rfl, ?y5⟩) (by assumption) ?r5
          case y5 => (intro w hSw; (try dsimp only at hSw); go_simp; try with_reducible rfl)
          refine wpAnyH_take (i := 6) (oi := _) (v := ?_) rfl (by kernel_rfl) (by kernel_rfl) (by kernel_rfl) (fun _ _ _ h => h) (Or.inl ⟨by rfl, ?y6⟩) (by assumption) ?r6
          case y6 => (intro w hSw; (try dsimp only at hSw); go_simp; try with_reducible rfl)
          refine wpAnyH_take (i := 7) (oi := _) (v := ?_) rfl (by kernel_rfl) (by kernel_rfl) (by kernel_rfl) (fun _ _ _ h => h) (Or.inl ⟨by rfl, ?y7⟩) (by assumption) ?r7
          case y7 => (intro w hSw; (try dsimp only at hSw); go_simp; try with_reducible rfl)
          refine wpAnyH_ready (rs := [8]) (by kernel_rfl) (by simp) ?_
          refine AllReadyH.cons rfl (fun K hK => ?_) AllReadyH.nil
          go_simp
          go_at_call 16
          refine (D2.out _).mono ?_
          rintro e w' ⟨rfl, hw'⟩
          obtain rfl := hw'.symm
          clear hw'
          refine hK.out _ _ l0d (fun hH1 => ?_)
          clear hK K hH0
          refine wpAnyH_take (i := 9) (oi := _) (v := ?_) rfl (by kernel_rfl) (by kernel_rfl) (by kernel_rfl) (fun _ _ _ h => h) (Or.inl ⟨by rfl, ?y9⟩) (by assumption) ?r9
          case y9 => (intro w hSw; (try dsimp only at hSw); go_simp; try with_reducible rfl)
          refine wpAnyH_take (i := 10) (oi := _) (v := ?_) rfl (by kernel_rfl) (by kernel_rfl) (by kernel_rfl) (fun _ _ _ h => h) (Or.inl ⟨by rfl, ?y10⟩) (by assumption) ?r10
          case y10 => (intro w hSw; (try dsimp only at hSw); go_simp; try with_reducible rfl)
          refine wpAnyH_take (i := 11) (oi := _) (v := ?_) rfl (by kernel_rfl) (by kernel_rfl) (by kernel_rfl) (fun _ _ _ h => h) (Or.inl ⟨by rfl, ?y11⟩) (by assumption) ?r11
          case y11 => (intro w hSw; (try dsimp only at hSw); go_simp; try with_reducible rfl)
          refine wpAnyH_ready (rs := [12]) (by kernel_rfl) (by simp) ?_
          refine AllReadyH.cons rfl (fun K hK => ?_) AllReadyH.nil
          go_simp
          refine hK.out _ _ (Tl.cell_keep KS9.out l0 (by have := HSB.out; simp; omega)) (fun hH2 => ?_)
          clear hK K hH1
          refine wpAnyH_done (by kernel_rfl) ?_ _
          go_wp2
          go_meet
          exact ⟨cp, Hid.mk ⟨S9.out, KS7.out.trans KS9.out, HCP.out.1, HCP.out.2, fun h => absurd HKL.out h⟩⟩
        · have ikk : decide ((kk : Int) < (n : Int)) = false := decide_eq_false (by omega)
          have HNK := Hid.mk hkk
          clear hkk
          go_wp2
          go_meet
          exact ⟨bd, Hid.mk ⟨S7b.out, KS7.out, by have h1 := HLN.out 0 (by have := HN.out; omega); omega, HBD.out, fun _ => rfl⟩⟩
      case rest =>
        obtain ⟨cp, hcut⟩ := hcut
        generalize wc = w9 at *
        have HC9 := Hid.mk hcut.out.1
        have KS := Hid.mk hcut.out.2.1
        have HCP := Hid.mk hcut.out.2.2
        have KW9 : Hid (Kept [] w w9) := Hid.mk ((K2.out.trans (K6.out.trans K7.out)).step KS.out (fun x hx => by simp at hx; subst hx; exact .inr (by have := HB.out; omega)))
        have HS9 := Hid.mk (KS.out.heap ((K6.out.trans K7.out).heap HS.out (by simp)) (by simp))
        have HR9 := Hid.mk (KS.out.row HRL.out (fun b hb hm => by
          simp [Value.ownBlock] at hb hm
          have := HSB.out
          omega))
        have HREC9 := Hid.mk (fun i (hi : i < n) => KS.out.row (HREC.out i hi) (fun b hb hm => by
          have h1 := (own_lo (HREC.out i hi) hb).1
          simp at hm
          have := HSB.out
          omega))
        clear hcut HREC HRL HC7 S7b KS7
        obtain ⟨q0, q1, q2, q3, q4⟩ := cel5 HC9.out
        obtain ⟨t0, t1, t2, t3, t4⟩ := cel5 HS9.out
        go_wp2_with (fail)
        refine (C5.out cp (by have := HCP.out.1; omega) w9 KW9.out).mono ?_
        intro e wA hA
        have h4 : ∃ (i0 : Nat) (xo : Option Addr) (xl xc : Nat) (xi x0 x1 x2 x3 xe : Int), e = .returned (.tuple #[.agg #[.slice xo xl xc, .int .i64 xi, .int .i64 x0, .int .i64 x1, .int .i64 x2, .int .i64 x3], .int .i64 xe]) ∧ Hid (Kept [] w9 wA ∧ i0 ≤ n ∧ (∀ j, j < i0 → cp < (LN j : Int)) ∧ (i0 = n → xe = 122 ∧ xl = 0) ∧ (i0 < n → (LN i0 : Int) ≤ cp ∧ xe = 0 ∧ xi = (i0 : Int) ∧ x0 = L i0 0 ∧ x1 = L i0 1 ∧ x2 = L i0 2 ∧ x3 = L i0 3 ∧ xl = LN i0 ∧ Reads wA xo (RB i0))) := by
          rcases hA with ⟨_, h3⟩ | ⟨h0, _⟩
          · rw [if_neg (by have := HCP.out.1; omega)] at h3
            rcases h3 with ⟨i, h1, h2, h3, bo', cc', rfl, h5, h6⟩ | ⟨h1, rfl, h6⟩
            · exact ⟨i, bo', LN i, cc', (i : Int), L i 0, L i 1, L i 2, L i 3, 0, rfl, Hid.mk ⟨h6, by omega, h3, fun h => by omega, fun _ => ⟨h2, rfl, rfl, rfl, rfl, rfl, rfl, rfl, reads_row h5⟩⟩⟩
            · exact ⟨n, none, 0, 0, 0, 0, 0, 0, 0, 122, rfl, Hid.mk ⟨h6, Nat.le_refl _, h1, fun _ => ⟨rfl, rfl⟩, fun h => by omega⟩⟩
          · exact absurd (C5E.out cp (by have := HCP.out.1; omega)) h0
        clear hA q0 q1 q2 q3 q4 t0 t1 t2 t3 t4
        obtain ⟨i0, xo, xl, xc, xi, x0, x1, x2, x3, xe, rfl, HX9⟩ := h4
        have KB : Hid (Kept [] wA (wA.alloc (.cells #[.slice xo xl xc, .int .i64 xi, .int .i64 x0, .int .i64 x1, .int .i64 x2, .int .i64 x3] 45 (0, 0)))) := Hid.mk ((Kept.refl [] wA).alloc _)
        have HXB := Hid.mk (show (wA.alloc (.cells #[.slice xo xl xc, .int .i64 xi, .int .i64 x0, .int .i64 x1, .int .i64 x2, .int .i64 x3] 45 (0, 0))).heap[wA.heap.size]? = some (.cells #[.slice xo xl xc, .int .i64 xi, .int .i64 x0, .int .i64 x1, .int .i64 x2, .int .i64 x3] 45 (0, 0)) from heap_alloc_new _ _)
        have HGI : Hid (i0 = n → kk < n) := Hid.mk (fun h => by
          by_cases hk : kk < n
          · exact hk
          · exfalso
            have h1 := HCP.out.2.2 hk
            have h2 := HX9.out.2.2.1 0 (by have := HN.out; omega)
            have h3 := HLN.out 0 (by have := HN.out; omega)
            omega)
        go_wp2
        generalize wA.alloc (.cells #[.slice xo xl xc, .int .i64 xi, .int .i64 x0, .int .i64 x1, .int .i64 x2, .int .i64 x3] 45 (0, 0)) = wB at *
        generalize wA.heap.size = SA at *
        have K9B := Hid.mk (HX9.out.1.trans KB.out)
        go_loopw [17] (fun i wq => ∃ k : Nat, k ≤ n ∧ i = .int .i64 (k : Int) ∧ Hid (Kept [] wB wq ∧ k ≤ i0)) (fun i _ => n - (intOf i).toNat)
        case atStart => exact ⟨0, Nat.zero_le _, rfl, Hid.mk ⟨Kept.refl _ _, Nat.zero_le _⟩⟩
        case round =>
          obtain ⟨k, hk, rfl, HI⟩ := hrel
          by_cases hlt : k < n
          · have ik : (k : Int) < (n : Int) := by omega
            have HK := Hid.mk hlt
            have K9q := Hid.mk (K9B.out.trans HI.out.1)
            have LC : Hid (∀ u, Kept [] wr u → (u.cell? ⟨g, k * 6, none⟩ = some (.slice (bo k) (LN k) (cc k)) ∧ u.cell? ⟨g, k * 6 + 1, none⟩ = some (.int .i64 (k : Int)) ∧ u.cell? ⟨g, k * 6 + 2, none⟩ = some (.int .i64 (L k 0)) ∧ u.cell? ⟨g, k * 6 + 3, none⟩ = some (.int .i64 (L k 1)) ∧ u.cell? ⟨g, k * 6 + 4, none⟩ = some (.int .i64 (L k 2)) ∧ u.cell? ⟨g, k * 6 + 5, none⟩ = some (.int .i64 (L k 3))) ∧ u.cell? ⟨B + 1, 3, none⟩ = some (.int .i64 cp)) := Hid.mk (fun u ku => by
              obtain ⟨g', vc', hVe, _, hcell⟩ := own_some6 ((K9q.out.trans ku).row HR9.out (by simp)) (by have := HN.out; omega)
              cases hVe
              exact ⟨⟨hcell (k * 6) _ (cdC_at (j := 0) hlt (by decide)), hcell (k * 6 + 1) _ (cdC_at (j := 1) hlt (by decide)), hcell (k * 6 + 2) _ (cdC_at (j := 2) hlt (by decide)), hcell (k * 6 + 3) _ (cdC_at (j := 3) hlt (by decide)), hcell (k * 6 + 4) _ (cdC_at (j := 4) hlt (by decide)), hcell (k * 6 + 5) _ (cdC_at (j := 5) hlt (by decide))⟩, cellAt (i := 3) ((K9q.out.trans ku).heap HC9.out (by simp)) rfl⟩)
            have HRk := Hid.mk (HREC9.out k hlt)
            have HLk := Hid.mk (HLN.out k hlt)
            have HXl : Hid (k < i0 → cp < (LN k : Int)) := Hid.mk (fun h => HX9.out.2.2.1 k h)
            have HXk : Hid (i0 = k → (LN k : Int) ≤ cp ∧ xe = 0 ∧ xi = (k : Int) ∧ x0 = L k 0 ∧ x1 = L k 1 ∧ x2 = L k 2 ∧ x3 = L k 3 ∧ xl = LN k ∧ Reads wA xo (RB k)) := Hid.mk (fun h => by
              have h9 := HX9.out.2.2.2.2 (by rw [h]; exact HK.out)
              rw [h] at h9
              exact h9)
            obtain ⟨bk, ebk⟩ : ∃ x, bo k = x := ⟨_, rfl⟩
            obtain ⟨lk, elk⟩ : ∃ x, LN k = x := ⟨_, rfl⟩
            obtain ⟨ck, eck⟩ : ∃ x, cc k = x := ⟨_, rfl⟩
            obtain ⟨a0, g0⟩ : ∃ a, L k 0 = a := ⟨_, rfl⟩
            obtain ⟨a1, g1⟩ : ∃ a, L k 1 = a := ⟨_, rfl⟩
            obtain ⟨a2, g2⟩ : ∃ a, L k 2 = a := ⟨_, rfl⟩
            obtain ⟨a3, g3⟩ : ∃ a, L k 3 = a := ⟨_, rfl⟩
            rw [ebk, elk, eck, g0, g1, g2, g3] at LC
            rw [ebk, elk, eck] at HRk
            rw [elk] at HXl HLk
            rw [elk, g0, g1, g2, g3] at HXk
            have hkb : k + 1 ≤ 100000000 := by have := HN.out; omega
            obtain ⟨⟨l0, l1, l2, l3, l4, l5⟩, q3⟩ := LC.out wr (Kept.refl _ _)
            clear ebk elk eck g0 g1 g2 g3 hlt hk
            rcases Nat.lt_or_ge k i0 with hki | hki
            · have dk : decide ((lk : Int) ≤ cp) = false := decide_eq_false (by have := HXl.out hki; omega)
              have HKI := Hid.mk hki
              clear hki
              go_wp2_with (fail)
              go_quiet (fail)
              have HQ9 := Hid.mk ((Kept.refl [] wr).drewN nq)
              generalize wr.drewN nq = wq at *
              have hk1 : wrap64 ((k : Int) + 1) = ((k + 1 : Nat) : Int) := w64_add (b := 1) rfl hkb
              have hk2 : IntKind.i64.wrap ((k : Int) + 1) = ((k + 1 : Nat) : Int) := wi_add (b := 1) rfl hkb
              clear hkb l0 l1 l2 l3 l4 l5 q3 ik
              go_wp2
              clear hk1 hk2
              go_roundw
              case rel => exact ⟨k + 1, HK.out, rfl, Hid.mk ⟨HI.out.1.trans HQ9.out, HKI.out⟩⟩
              case measure => (simp [intOf]; have := HK.out; omega)
            · have hik : i0 = k := by have := HI.out.2; omega
              obtain ⟨hle, rfl, rfl, rfl, rfl, rfl, rfl, rfl, hrd⟩ := HXk.out hik
              have dk : decide ((xl : Int) ≤ cp) = true := decide_eq_true hle
              have HRD := Hid.mk hrd
              clear hki hik hle hrd hkb
              go_wp2_with (fail)
              go_quiet (fail)
              have HQ9 := Hid.mk ((Kept.refl [] wr).drewN nq)
              generalize wr.drewN nq = wq at *
              clear l0 l1 l2 l3 l4 l5 q3
              have KQ := Hid.mk (HI.out.1.trans HQ9.out)
              have RP := Hid.mk (fun q : KW wq => LC.out q.u (HQ9.out.trans q.h))
              have RX := Hid.mk (fun q : KW wq => cel6 ((KQ.out.trans q.h).heap HXB.out (by simp)))
              have c0 := fun q : KW wq => (RP.out q).1.1
              have c1 := fun q : KW wq => (RP.out q).1.2.1
              have c2 := fun q : KW wq => (RP.out q).1.2.2.1
              have c3 := fun q : KW wq => (RP.out q).1.2.2.2.1
              have c4 := fun q : KW wq => (RP.out q).1.2.2.2.2.1
              have c5 := fun q : KW wq => (RP.out q).1.2.2.2.2.2
              have d0 := fun q : KW wq => (RX.out q).1
              have d1 := fun q : KW wq => (RX.out q).2.1
              have d2 := fun q : KW wq => (RX.out q).2.2.1
              have d3 := fun q : KW wq => (RX.out q).2.2.2.1
              have d4 := fun q : KW wq => (RX.out q).2.2.2.2.1
              have d5 := fun q : KW wq => (RX.out q).2.2.2.2.2
              have QS : Hid (∀ q : KW wq, Calls Tryz.prog 18 #[.agg #[.slice xo xl xc, .int .i64 (k : Int), .int .i64 x0, .int .i64 x1, .int .i64 x2, .int .i64 x3], .agg #[.slice bk xl ck, .int .i64 (k : Int), .int .i64 x0, .int .i64 x1, .int .i64 x2, .int .i64 x3]] q.u fun r w' => r = .returned (.bool true) ∧ ∃ q' : KW wq, w' = q'.u) := Hid.mk fun q => (sameCoded_yes xo bk xl xc ck (RB k) (k : Int) x0 x1 x2 x3 q.u (HRD.out.keep (KB.out.trans (KQ.out.trans q.h))) (reads_row ((K9B.out.trans (KQ.out.trans q.h)).row HRk.out (by simp))) HLk.out.2.2.2).mono fun r w' ⟨h1, h2⟩ => ⟨h1, ⟨w', q.h.trans h2⟩, rfl⟩
              have NE : Nonempty (KW wq) := ⟨⟨wq, Kept.refl _ _⟩⟩
              go_wp2_with (fail)
              refine wp_region_kept (by kernel_rfl) (by kernel_rfl) ?_
              repeat (go_big_quiet_step ((go_at_call 18; exact QS.out _)))
              refine wpQuiet_nil ?_
              rintro _ ⟨q, rfl⟩
              go_wp2
              go_ret
              exact ⟨by first | rfl | (exact ret_bool (by simp)), KW9.out.trans (K9B.out.trans (KQ.out.trans q.h))⟩
          · obtain rfl : n = k := by omega
            have hi0 : i0 = n := by have := HI.out.2; have := HX9.out.2.1; omega
            obtain ⟨rfl, rfl⟩ := HX9.out.2.2.2.1 hi0
            have HGK := Hid.mk (HGI.out hi0)
            have ikk : decide ((kk : Int) < (n : Int)) = true := decide_eq_true (by have := HGK.out; omega)
            obtain ⟨u0, u1, u2, u3, u4, u5⟩ := cel6 (HI.out.1.heap HXB.out (by simp))
            have HK9 := Hid.mk (KW9.out.trans (K9B.out.trans HI.out.1))
            clear hlt hk hi0
            go_wp2
            go_ret
            exact ⟨by first | rfl | (exact ret_bool (by simp; exact HGK.out)), HK9.out⟩
end Go.Proofs.YthkpligodbkofaaGreatDoor.Pc
