import Derived.Test.YthhegomjipbdbaaGreatDoorpEZ
import Derived.Test.YthhegomjipbdbaaGreatDoorNZ
namespace Go.Proofs.YthhegomjipbdbaaGreatDoor.Pc
open Go.RowKit

/-- What so many bytes from a place on stand for. -/
def nb (l : List Nat) (a k : Nat) : Nat := num ((l.drop a).take k)
theorem byts_cut {l : List Nat} (h : Byts l) (a k : Nat) : Byts ((l.drop a).take k) := fun b hb => h b (List.mem_of_mem_drop (List.mem_of_mem_take hb))
theorem nb_lt {l : List Nat} (h : Byts l) {a k : Nat} (hk : a + k ≤ l.length) : nb l a k < 256 ^ k := by
  have h1 := num_lt _ (byts_cut h a k)
  rw [show ((l.drop a).take k).length = k by simp; omega] at h1
  exact h1
theorem reads_cut {w : World} {g off : Nat} {l : List Nat} (h : Reads w (some ⟨g, off, none⟩) l) (a k : Nat) (hk : a + k ≤ l.length) : Reads w (some ⟨g, off + a, none⟩) ((l.drop a).take k) := by
  rcases h with rfl | ⟨g', off', e, hc⟩
  · exact .inl (by simp)
  · cases e
    refine .inr ⟨g, off + a, rfl, fun i hi => ?_⟩
    have hik : i < k := by simp at hi; omega
    have h1 := hc (a + i) (by omega)
    rw [← Nat.add_assoc] at h1
    rw [h1]
    congr 2
    rw [List.getD_eq_getElem?_getD, List.getD_eq_getElem?_getD, List.getElem?_take_of_lt hik, List.getElem?_drop]

set_option maxHeartbeats 4000000 in
set_option maxRecDepth 1000000 in
theorem pnum_any (g off cap m a k : Nat) (l : List Nat) (w : World) (hr : Reads w (some ⟨g, off, none⟩) l) (hb : Byts l) (hm : l.length = m) (hc : m ≤ cap) (hcap : cap ≤ 9223372036854775807) (h1 : 1 ≤ k) (h2 : k ≤ 4) (h : a + k ≤ m) :
    Calls Tryz.prog 28 #[.slice (some ⟨g, off, none⟩) m cap, .int .i64 (a : Int), .int .i64 (k : Int)] w fun e w' => e = .returned (.int .i64 (nb l a k : Int)) ∧ w' = w := by
  have hx : nb l a k < 4294967296 := by
    have h3 := nb_lt hb (a := a) (k := k) (by omega)
    have h4 : 256 ^ k ≤ 256 ^ 4 := Nat.pow_le_pow_right (by decide) h2
    omega
  have C1 := Hid.mk (number_at (some ⟨g, off + a, none⟩) (cap - a) k ((l.drop a).take k) (nb l a k : Int) w (reads_cut hr a k (by omega)) (byts_cut hb a k) (by simp; omega) rfl h1 (by omega))
  obtain ⟨x, ex⟩ : ∃ x, nb l a k = x := ⟨_, rfl⟩
  rw [ex] at C1 hx ⊢
  obtain ⟨z, ez⟩ : ∃ z, a + k = z := ⟨_, rfl⟩
  have v1 : wrap64 ((a : Int) + (k : Int)) = (z : Int) := by rw [← Int.natCast_add, ez]; exact Tl.w64_in (by omega) (by omega)
  have v2 : IntKind.i64.wrap ((a : Int) + (k : Int)) = (z : Int) := by rw [← Int.natCast_add, ez]; exact Tl.wrap_i (by omega) (by omega)
  have v3 : IntKind.i64.wrap (x : Int) = (x : Int) := Tl.wrap_i (by omega) (by omega)
  have v4 : (z : Int) - (a : Int) = (k : Int) := by omega
  have i1 : (a : Int) ≤ (z : Int) := by omega
  have i2 : (z : Int) ≤ (cap : Int) := by omega
  have n1 : z - a = k := by omega
  clear hr hb ex hx
  go_enter Tryz.func28, Tryz.ntmps28
  go_wp2_with (fail)
  refine C1.out.mono ?_
  rintro e w1 ⟨rfl, hw⟩
  obtain rfl := hw.symm
  go_wp2
  go_ret
  exact ⟨rfl, rfl⟩




set_option maxHeartbeats 4000000 in
set_option maxRecDepth 1000000 in
theorem equal_any (ao bo : Option Addr) (m n c d : Nat) (l k : List Nat) (w : World) (hl : Reads w ao l) (hk : Reads w bo k) (hm : l.length = m) (hn : k.length = n) :
    Calls Tryz.prog 53 #[.slice ao m c, .slice bo n d] w fun e w' => e = .returned (.bool ((bstr l).toList == (bstr k).toList)) ∧ w' = w := by
  have s1 := reads_str' hl hm c
  have s2 := reads_str' hk hn d
  clear hl hk
  go_enter Tryz.func53, Tryz.ntmps53
  go_wp2
  go_ret
  exact ⟨rfl, rfl⟩
end Go.Proofs.YthhegomjipbdbaaGreatDoor.Pc

namespace Go.Proofs.YthhegomjipbdbaaGreatDoor.Pc
open Go.RowKit

set_option maxHeartbeats 4000000 in
theorem ptz_any (N p : Nat) (w : World) (hN : N ≤ 1000000) (hp : p ≤ 1000) : Calls Tryz.prog 26 #[.int .i64 (N : Int), .int .i64 (p : Int)] w fun e w' => e = .returned (.int .i64 ((8 * N + 4 * p + 4 : Nat) : Int)) ∧ w' = w := by
  go_enter Tryz.func26, Tryz.ntmps26
  go_wp2
  go_ret
  exact ⟨ret_int (by omega), rfl⟩

/-- A head, as a value. -/
abbrev hvv (W H D : Int) (A : Bool) (sw sh : Int) (r : Nat → Int) (N p ln : Int) : Value := .agg #[.int .i64 W, .int .i64 H, .int .i64 D, .bool A, .int .i64 sw, .int .i64 sh, .int .i64 (r 0), .int .i64 (r 1), .int .i64 (r 2), .int .i64 (r 3), .int .i64 N, .int .i64 p, .int .i64 ln]
/-- May a record have this head? -/
def rgt (W H D : Int) (A : Bool) (sw sh : Int) (r : Nat → Int) (N p ln : Int) : Bool :=
  decide (Tl.nwE W H D sw sh A = 0) && rmb r A && decide (N = Tl.cl W sw * Tl.cl H sh) && pmb p N && decide (36 + 8 * N + 4 * p ≤ ln) && decide (ln ≤ 134217727)

set_option maxHeartbeats 8000000 in
set_option maxRecDepth 1000000 in
theorem pright_any (W H D : Int) (A : Bool) (sw sh : Int) (r : Nat → Int) (N p ln : Int) (w : World) (s0 : -9223372036854775808 ≤ sw) (s1 : sw ≤ 9223372036854775807) :
    Calls Tryz.prog 25 #[hvv W H D A sw sh r N p ln] w fun e w' => e = .returned (.bool (rgt W H D A sw sh r N p ln)) ∧ Kept [] w w' := by
  obtain ⟨r0, er0⟩ : ∃ x, r 0 = x := ⟨_, rfl⟩
  obtain ⟨r1, er1⟩ : ∃ x, r 1 = x := ⟨_, rfl⟩
  obtain ⟨r2, er2⟩ : ∃ x, r 2 = x := ⟨_, rfl⟩
  obtain ⟨r3, er3⟩ : ∃ x, r 3 = x := ⟨_, rfl⟩
  have CR := fun u => rungMayBe_any r W H D A u
  rw [show rgv r = .agg #[.int .i64 r0, .int .i64 r1, .int .i64 r2, .int .i64 r3] by unfold rgv; rw [er0, er1, er2, er3]] at CR
  have CR := Hid.mk CR
  show Calls Tryz.prog 25 #[.agg #[.int .i64 W, .int .i64 H, .int .i64 D, .bool A, .int .i64 sw, .int .i64 sh, .int .i64 (r 0), .int .i64 (r 1), .int .i64 (r 2), .int .i64 (r 3), .int .i64 N, .int .i64 p, .int .i64 ln]] w _
  rw [er0, er1, er2, er3]
  obtain ⟨R, eR⟩ : ∃ R, rgt W H D A sw sh r N p ln = R := ⟨_, rfl⟩
  rw [eR]
  unfold rgt at eR
  obtain ⟨rb, erb⟩ : ∃ b, rmb r A = b := ⟨_, rfl⟩
  rw [erb] at CR eR
  clear er0 er1 er2 er3 erb
  obtain ⟨B, eB⟩ : ∃ B, w.heap.size = B := ⟨_, rfl⟩
  obtain ⟨w1, e1⟩ : ∃ w1, w.alloc (.cells #[.int .i64 W, .int .i64 H, .int .i64 D, .bool A, .int .i64 sw, .int .i64 sh, .int .i64 r0, .int .i64 r1, .int .i64 r2, .int .i64 r3, .int .i64 N, .int .i64 p, .int .i64 ln] 27 (0, 0)) = w1 := ⟨_, rfl⟩
  have K1 : Hid (Kept [] w w1) := Hid.mk (by rw [← e1]; exact (Kept.refl [] w).alloc _)
  have HB1 := Hid.mk (show w1.heap[B]? = some (.cells #[.int .i64 W, .int .i64 H, .int .i64 D, .bool A, .int .i64 sw, .int .i64 sh, .int .i64 r0, .int .i64 r1, .int .i64 r2, .int .i64 r3, .int .i64 N, .int .i64 p, .int .i64 ln] 27 (0, 0)) by rw [← e1, ← eB]; exact heap_alloc_new _ _)
  obtain ⟨h0, h1, h2, h3, h4, h5, h6, h7, h8, h9, h10, h11, h12⟩ := cel13 HB1.out
  by_cases hw : Tl.nwE W H D sw sh A = 0
  · obtain ⟨hsh, hsd⟩ := nwE_zero hw
    have C2 := Hid.mk (fun u => Tl.tnew_ok W H D sw sh A u hsh hsd.1.1 hsd.1.2 hsd.2.1 hsd.2.2.1 hsd.2.2.2)
    have G := Tl.Gd.of hsh.1.1 hsh.1.2 hsh.2.1.1 hsh.2.1.2 hsd.1.1 hsd.1.2 hsd.2.1 hsd.2.2.1 hsd.2.2.2
    have HCnt := Hid.mk (fun P u (h : Tl.Gr u P W H D A sw sh (Tl.cl W sw) (Tl.cl H sh)) => Tl.count_any' P W H D sw sh _ _ A u h G.c0 G.c1 G.r0 G.r1)
    have hcr : Tl.cl W sw * Tl.cl H sh ≤ 65536 := Int.mul_le_mul (a := Tl.cl W sw) (b := Tl.cl H sh) (c := 256) (d := 256) G.c1 G.r1 (by have := G.r0; omega) (by omega)
    have hcr0 : 0 ≤ Tl.cl W sw * Tl.cl H sh := Int.mul_nonneg (by have := G.c0; omega) (by have := G.r0; omega)
    have HPm := Hid.mk (fun u => parityMayBe_any p N u)
    rw [decide_eq_true hw, Bool.true_and] at eR
    obtain ⟨cw, ecw⟩ : ∃ x, Tl.cl W sw = x := ⟨_, rfl⟩
    obtain ⟨ch, ech⟩ : ∃ x, Tl.cl H sh = x := ⟨_, rfl⟩
    simp only [ecw, ech] at C2 HCnt hcr hcr0 eR
    obtain ⟨M, eM⟩ : ∃ N, cw * ch = N := ⟨_, rfl⟩
    simp only [eM] at HCnt hcr hcr0 eR
    have HM := Hid.mk (show 0 ≤ M ∧ M ≤ 65536 from ⟨hcr0, hcr⟩)
    have HPB : Hid (pmb p N = true → 0 ≤ p ∧ p ≤ 16) := Hid.mk (fun h => by unfold pmb at h; exact (of_decide_eq_true h).1)
    obtain ⟨pb, epb⟩ : ∃ b, pmb p N = b := ⟨_, rfl⟩
    rw [epb] at HPm eR HPB
    have ER := Hid.mk eR
    clear hw hsh hsd G ecw ech eM epb s0 s1 eR hcr hcr0
    go_enter Tryz.func25, Tryz.ntmps25
    go_wp2_with (fail)
    clear e1 eB
    refine (C2.out _).mono ?_
    rintro e w4 ⟨P, rfl, K4, hP, hG⟩
    have K4 := Hid.mk K4
    have HG := Hid.mk hG
    clear h0 h1 h2 h3 h4 h5 h6 h7 h8 h9 h10 h11 h12 hP hG
    obtain ⟨h0, h1, h2, h3, h4, h5, h6, h7, h8, h9, h10, h11, h12⟩ := cel13 (K4.out.heap HB1.out (by simp))
    go_wp2_with (fail)
    refine (CR.out _).mono ?_
    rintro e w5 ⟨rfl, K5⟩
    have K5 := Hid.mk K5
    clear h0 h1 h2 h3 h4 h5 h6 h7 h8 h9 h10 h11 h12
    have KK := Hid.mk ((K1.out.trans K4.out).trans K5.out)
    cases rb
    · go_wp2
      go_ret
      exact ⟨by have := ER.out; simp at this; rw [this]; rfl, KK.out⟩
    · have RP := Hid.mk (fun q : KW w5 => cel13 (((K4.out.trans K5.out).trans q.h).heap HB1.out (by simp)))
      have c10 := fun q : KW w5 => (RP.out q).2.2.2.2.2.2.2.2.2.2.1
      have c11 := fun q : KW w5 => (RP.out q).2.2.2.2.2.2.2.2.2.2.2.1
      have c12 := fun q : KW w5 => (RP.out q).2.2.2.2.2.2.2.2.2.2.2.2
      have Q2 : Hid (∀ q : KW w5, Calls Tryz.prog 43 #[.pointer (some ⟨P, 0, none⟩)] q.u fun r w' => r = .returned (.int .i64 M) ∧ ∃ q' : KW w5, w' = q'.u) := Hid.mk fun q => (HCnt.out P q.u ((HG.out.keep K5.out (by simp)).keep q.h (by simp))).mono fun r w' ⟨h1, h2⟩ => ⟨h1, ⟨w', q.h.trans h2⟩, rfl⟩
      have Q3 : Hid (∀ q : KW w5, Calls Tryz.prog 56 #[.int .i64 p, .int .i64 N] q.u fun r w' => r = .returned (.bool pb) ∧ ∃ q' : KW w5, w' = q'.u) := Hid.mk fun q => (HPm.out q.u).mono fun r w' ⟨h1, h2⟩ => ⟨h1, q, h2⟩
      have NE : Nonempty (KW w5) := ⟨⟨w5, Kept.refl _ _⟩⟩
      by_cases hN : N = M
      · subst hN
        cases pb
        · go_wp2_with (fail)
          refine wp_region_kept (by kernel_rfl) (by kernel_rfl) ?_
          repeat (go_big_quiet_step ((first | (go_at_call 43; exact Q2.out _) | (go_at_call 56; exact Q3.out _))))
          refine wpQuiet_nil ?_
          rintro _ ⟨q, rfl⟩
          go_wp2
          go_ret
          exact ⟨by have := ER.out; simp at this; rw [this]; rfl, KK.out.trans q.h⟩
        · obtain ⟨p0, p1⟩ := HPB.out rfl
          have HMM := HM.out
          obtain ⟨Nn, rfl⟩ : ∃ Nn : Nat, N = (Nn : Int) := ⟨N.toNat, by omega⟩
          obtain ⟨pn, rfl⟩ : ∃ pn : Nat, p = (pn : Int) := ⟨p.toNat, by omega⟩
          have CT := Hid.mk (fun u => ptz_any Nn pn u (by omega) (by omega))
          obtain ⟨tz, etz⟩ : ∃ t, 8 * Nn + 4 * pn + 4 = t := ⟨_, rfl⟩
          rw [etz] at CT
          have v1 : wrap64 (32 + (tz : Int)) = ((32 + tz : Nat) : Int) := by rw [show (32 : Int) + (tz : Int) = ((32 + tz : Nat) : Int) by omega]; exact Tl.w64_in (by omega) (by omega)
          have v2 : IntKind.i64.wrap (32 + (tz : Int)) = ((32 + tz : Nat) : Int) := by rw [show (32 : Int) + (tz : Int) = ((32 + tz : Nat) : Int) by omega]; exact Tl.wrap_i (by omega) (by omega)
          have HF : Hid ((decide (((32 + tz : Nat) : Int) ≤ ln) && decide (ln ≤ 134217727)) = R) := Hid.mk (by
            have h9 := ER.out
            simp only [decide_true, Bool.true_and, Bool.and_true] at h9
            rw [← h9]
            congr 2
            simp only [eq_iff_iff]
            omega)
          obtain ⟨Z, eZ⟩ : ∃ Z : Int, ((32 + tz : Nat) : Int) = Z := ⟨_, rfl⟩
          rw [eZ] at v1 v2 HF
          clear eZ etz HMM p0 p1
          go_wp2_with (fail)
          refine wp_region_kept (by kernel_rfl) (by kernel_rfl) ?_
          repeat (go_big_quiet_step ((first | (go_at_call 43; exact Q2.out _) | (go_at_call 56; exact Q3.out _))))
          refine wpQuiet_nil ?_
          rintro wx ⟨q, hq⟩
          obtain ⟨w6, k6⟩ := q
          obtain rfl : wx = w6 := hq
          have d10 := fun q : KW wx => c10 ⟨q.u, k6.trans q.h⟩
          have d11 := fun q : KW wx => c11 ⟨q.u, k6.trans q.h⟩
          have d12 := fun q : KW wx => c12 ⟨q.u, k6.trans q.h⟩
          have Q4 : Hid (∀ q : KW wx, Calls Tryz.prog 26 #[.int .i64 (Nn : Int), .int .i64 (pn : Int)] q.u fun r w' => r = .returned (.int .i64 (tz : Int)) ∧ ∃ q' : KW wx, w' = q'.u) := Hid.mk fun q => (CT.out q.u).mono fun r w' ⟨h1, h2⟩ => ⟨h1, q, h2⟩
          have NE6 : Nonempty (KW wx) := ⟨⟨wx, Kept.refl _ _⟩⟩
          clear c10 c11 c12
          by_cases hZ : Z ≤ ln
          · have dZ : decide (Z ≤ ln) = true := decide_eq_true hZ
            go_wp2_with (fail)
            refine wp_region_kept (by kernel_rfl) (by kernel_rfl) ?_
            repeat (go_big_quiet_step ((go_at_call 26; exact Q4.out _)))
            refine wpQuiet_nil ?_
            rintro _ ⟨q, rfl⟩
            go_wp2
            go_ret
            exact ⟨by rw [← HF.out, dZ]; rfl, (KK.out.trans k6).trans q.h⟩
          · have dZ : decide (Z ≤ ln) = false := decide_eq_false hZ
            go_wp2_with (fail)
            refine wp_region_kept (by kernel_rfl) (by kernel_rfl) ?_
            repeat (go_big_quiet_step ((go_at_call 26; exact Q4.out _)))
            refine wpQuiet_nil ?_
            rintro _ ⟨q, rfl⟩
            go_wp2
            go_ret
            exact ⟨by rw [← HF.out, dZ]; rfl, (KK.out.trans k6).trans q.h⟩
      · have dN : (N == M) = false := by simpa using hN
        have dN2 : (N != M) = true := by simpa using hN
        go_wp2_with (fail)
        refine wp_region_kept (by kernel_rfl) (by kernel_rfl) ?_
        repeat (go_big_quiet_step ((first | (go_at_call 43; exact Q2.out _) | (go_at_call 56; exact Q3.out _))))
        refine wpQuiet_nil ?_
        rintro _ ⟨q, rfl⟩
        go_wp2
        go_ret
        exact ⟨by have := ER.out; rw [decide_eq_false hN] at this; simp at this; rw [this]; rfl, KK.out.trans q.h⟩
  · have C2 := Hid.mk (fun u => tnew_no W H D sw sh A u hw s0 s1)
    rw [decide_eq_false hw] at eR
    simp only [Bool.false_and] at eR
    subst eR
    have hw0 : (Tl.nwE W H D sw sh A != 0) = true := by simpa using hw
    obtain ⟨E, eE⟩ : ∃ E, Tl.nwE W H D sw sh A = E := ⟨_, rfl⟩
    rw [eE] at C2 hw0
    clear hw eE s0 s1
    go_enter Tryz.func25, Tryz.ntmps25
    go_wp2_with (fail)
    clear e1 eB
    refine (C2.out _).mono ?_
    rintro e w4 ⟨rfl, K4⟩
    have K4 := Hid.mk K4
    clear h0 h1 h2 h3 h4 h5 h6 h7 h8 h9 h10 h11 h12
    obtain ⟨h0, h1, h2, h3, h4, h5, h6, h7, h8, h9, h10, h11, h12⟩ := cel13 (K4.out.heap HB1.out (by simp))
    go_wp2
    go_ret
    exact ⟨rfl, K1.out.trans K4.out⟩
end Go.Proofs.YthhegomjipbdbaaGreatDoor.Pc

namespace Go.Proofs.YthhegomjipbdbaaGreatDoor.Pc
open Go.RowKit

theorem Tryz.infoHd : (Tryz.prog.info? 27).map (·.size) = some 13 := by kernel_rfl
/-- What a head's bytes say. -/
abbrev tldv (l : List Nat) : Value := hvv (nb l 4 2 : Int) (nb l 6 2 : Int) (nb l 8 1 : Int) (!(((nb l 9 1 : Nat) : Int) == 0)) (nb l 10 2 : Int) (nb l 12 2 : Int) (fun i => (nb l (14 + i) 1 : Int)) (nb l 18 4 : Int) (nb l 22 1 : Int) (nb l 24 4 : Int)

set_option maxHeartbeats 8000000 in
set_option maxRecDepth 1000000 in
theorem told_any (g off cap m : Nat) (l : List Nat) (w : World) (hr : Reads w (some ⟨g, off, none⟩) l) (hb : Byts l) (hm : l.length = m) (hc : m ≤ cap) (hcap : cap ≤ 9223372036854775807) (h32 : 32 ≤ m) :
    Calls Tryz.prog 52 #[.slice (some ⟨g, off, none⟩) m cap] w fun e w' => e = .returned (tldv l) ∧ Kept [] w w' := by
  obtain ⟨w1, e1⟩ : ∃ w1, w.alloc (.cells #[.int .i64 0, .int .i64 0, .int .i64 0, .bool false, .int .i64 0, .int .i64 0, .int .i64 0, .int .i64 0, .int .i64 0, .int .i64 0, .int .i64 0, .int .i64 0, .int .i64 0] 27 (0, 0)) = w1 := ⟨_, rfl⟩
  have k1 : Kept [] w w1 := by rw [← e1]; exact (Kept.refl [] w).alloc _
  obtain ⟨B, eB⟩ : ∃ B, w.heap.size = B := ⟨_, rfl⟩
  have b1 : w1.heap[B]? = some (.cells #[.int .i64 0, .int .i64 0, .int .i64 0, .bool false, .int .i64 0, .int .i64 0, .int .i64 0, .int .i64 0, .int .i64 0, .int .i64 0, .int .i64 0, .int .i64 0, .int .i64 0] 27 (0, 0)) := by rw [← e1, ← eB]; exact heap_alloc_new _ _
  have C := fun a k (x1 : 1 ≤ k) (x2 : k ≤ 4) (x3 : a + k ≤ m) => pnum_any g off cap m a k l w1 (hr.keep k1) hb hm hc hcap x1 x2 x3
  have C0 : Hid (Calls Tryz.prog 28 #[.slice (some ⟨g, off, none⟩) m cap, .int .i64 4, .int .i64 2] w1 fun e w' => e = .returned (.int .i64 (nb l 4 2 : Int)) ∧ w' = w1) := Hid.mk (C 4 2 (by decide) (by decide) (by omega))
  obtain ⟨x0, ex0⟩ : ∃ x, nb l 4 2 = x := ⟨_, rfl⟩
  rw [ex0] at C0
  have C1 : Hid (Calls Tryz.prog 28 #[.slice (some ⟨g, off, none⟩) m cap, .int .i64 6, .int .i64 2] w1 fun e w' => e = .returned (.int .i64 (nb l 6 2 : Int)) ∧ w' = w1) := Hid.mk (C 6 2 (by decide) (by decide) (by omega))
  obtain ⟨x1, ex1⟩ : ∃ x, nb l 6 2 = x := ⟨_, rfl⟩
  rw [ex1] at C1
  have C2 : Hid (Calls Tryz.prog 28 #[.slice (some ⟨g, off, none⟩) m cap, .int .i64 8, .int .i64 1] w1 fun e w' => e = .returned (.int .i64 (nb l 8 1 : Int)) ∧ w' = w1) := Hid.mk (C 8 1 (by decide) (by decide) (by omega))
  obtain ⟨x2, ex2⟩ : ∃ x, nb l 8 1 = x := ⟨_, rfl⟩
  rw [ex2] at C2
  have C3 : Hid (Calls Tryz.prog 28 #[.slice (some ⟨g, off, none⟩) m cap, .int .i64 9, .int .i64 1] w1 fun e w' => e = .returned (.int .i64 (nb l 9 1 : Int)) ∧ w' = w1) := Hid.mk (C 9 1 (by decide) (by decide) (by omega))
  obtain ⟨x3, ex3⟩ : ∃ x, nb l 9 1 = x := ⟨_, rfl⟩
  rw [ex3] at C3
  have C4 : Hid (Calls Tryz.prog 28 #[.slice (some ⟨g, off, none⟩) m cap, .int .i64 10, .int .i64 2] w1 fun e w' => e = .returned (.int .i64 (nb l 10 2 : Int)) ∧ w' = w1) := Hid.mk (C 10 2 (by decide) (by decide) (by omega))
  obtain ⟨x4, ex4⟩ : ∃ x, nb l 10 2 = x := ⟨_, rfl⟩
  rw [ex4] at C4
  have C5 : Hid (Calls Tryz.prog 28 #[.slice (some ⟨g, off, none⟩) m cap, .int .i64 12, .int .i64 2] w1 fun e w' => e = .returned (.int .i64 (nb l 12 2 : Int)) ∧ w' = w1) := Hid.mk (C 12 2 (by decide) (by decide) (by omega))
  obtain ⟨x5, ex5⟩ : ∃ x, nb l 12 2 = x := ⟨_, rfl⟩
  rw [ex5] at C5
  have C6 : Hid (Calls Tryz.prog 28 #[.slice (some ⟨g, off, none⟩) m cap, .int .i64 14, .int .i64 1] w1 fun e w' => e = .returned (.int .i64 (nb l 14 1 : Int)) ∧ w' = w1) := Hid.mk (C 14 1 (by decide) (by decide) (by omega))
  obtain ⟨x6, ex6⟩ : ∃ x, nb l 14 1 = x := ⟨_, rfl⟩
  rw [ex6] at C6
  have C7 : Hid (Calls Tryz.prog 28 #[.slice (some ⟨g, off, none⟩) m cap, .int .i64 15, .int .i64 1] w1 fun e w' => e = .returned (.int .i64 (nb l 15 1 : Int)) ∧ w' = w1) := Hid.mk (C 15 1 (by decide) (by decide) (by omega))
  obtain ⟨x7, ex7⟩ : ∃ x, nb l 15 1 = x := ⟨_, rfl⟩
  rw [ex7] at C7
  have C8 : Hid (Calls Tryz.prog 28 #[.slice (some ⟨g, off, none⟩) m cap, .int .i64 16, .int .i64 1] w1 fun e w' => e = .returned (.int .i64 (nb l 16 1 : Int)) ∧ w' = w1) := Hid.mk (C 16 1 (by decide) (by decide) (by omega))
  obtain ⟨x8, ex8⟩ : ∃ x, nb l 16 1 = x := ⟨_, rfl⟩
  rw [ex8] at C8
  have C9 : Hid (Calls Tryz.prog 28 #[.slice (some ⟨g, off, none⟩) m cap, .int .i64 17, .int .i64 1] w1 fun e w' => e = .returned (.int .i64 (nb l 17 1 : Int)) ∧ w' = w1) := Hid.mk (C 17 1 (by decide) (by decide) (by omega))
  obtain ⟨x9, ex9⟩ : ∃ x, nb l 17 1 = x := ⟨_, rfl⟩
  rw [ex9] at C9
  have C10 : Hid (Calls Tryz.prog 28 #[.slice (some ⟨g, off, none⟩) m cap, .int .i64 18, .int .i64 4] w1 fun e w' => e = .returned (.int .i64 (nb l 18 4 : Int)) ∧ w' = w1) := Hid.mk (C 18 4 (by decide) (by decide) (by omega))
  obtain ⟨x10, ex10⟩ : ∃ x, nb l 18 4 = x := ⟨_, rfl⟩
  rw [ex10] at C10
  have C11 : Hid (Calls Tryz.prog 28 #[.slice (some ⟨g, off, none⟩) m cap, .int .i64 22, .int .i64 1] w1 fun e w' => e = .returned (.int .i64 (nb l 22 1 : Int)) ∧ w' = w1) := Hid.mk (C 22 1 (by decide) (by decide) (by omega))
  obtain ⟨x11, ex11⟩ : ∃ x, nb l 22 1 = x := ⟨_, rfl⟩
  rw [ex11] at C11
  have C12 : Hid (Calls Tryz.prog 28 #[.slice (some ⟨g, off, none⟩) m cap, .int .i64 24, .int .i64 4] w1 fun e w' => e = .returned (.int .i64 (nb l 24 4 : Int)) ∧ w' = w1) := Hid.mk (C 24 4 (by decide) (by decide) (by omega))
  obtain ⟨x12, ex12⟩ : ∃ x, nb l 24 4 = x := ⟨_, rfl⟩
  rw [ex12] at C12
  have ET : Hid (tldv l = .agg #[.int .i64 (x0 : Int), .int .i64 (x1 : Int), .int .i64 (x2 : Int), .bool (!((x3 : Int) == 0)), .int .i64 (x4 : Int), .int .i64 (x5 : Int), .int .i64 (x6 : Int), .int .i64 (x7 : Int), .int .i64 (x8 : Int), .int .i64 (x9 : Int), .int .i64 (x10 : Int), .int .i64 (x11 : Int), .int .i64 (x12 : Int)]) := Hid.mk (by unfold tldv hvv; simp only [Nat.add_zero, Nat.reduceAdd, ex0, ex1, ex2, ex3, ex4, ex5, ex6, ex7, ex8, ex9, ex10, ex11, ex12])
  have K1 := Hid.mk k1
  have HB := Hid.mk b1
  have HBB := Hid.mk eB
  obtain ⟨z0, z1, z2, z3, z4, z5, z6, z7, z8, z9, z10, z11, z12⟩ := cel13 b1
  have zz := row_fz b1
  clear C hr hb hm hc hcap h32 k1 b1 ex0 ex1 ex2 ex3 ex4 ex5 ex6 ex7 ex8 ex9 ex10 ex11 ex12
  have S9 := setAll_row [.int .i64 (x0 : Int), .int .i64 (x1 : Int), .int .i64 (x2 : Int), .bool (!((x3 : Int) == 0)), .int .i64 (x4 : Int), .int .i64 (x5 : Int), .int .i64 (x6 : Int), .int .i64 (x7 : Int), .int .i64 (x8 : Int), .int .i64 (x9 : Int), .int .i64 (x10 : Int), .int .i64 (x11 : Int), .int .i64 (x12 : Int)] 0 w1 [] _ HB.out rfl rfl
  simp only [setAll] at S9
  have S9 := Hid.mk S9
  go_enter Tryz.func52, Tryz.ntmps52
  go_wp2_with (fail)
  clear e1 eB
  refine C0.out.mono ?_
  rintro e w' ⟨rfl, hw'⟩
  obtain rfl := hw'.symm
  clear hw' C0
  go_wp2_with (fail)
  refine C1.out.mono ?_
  rintro e w' ⟨rfl, hw'⟩
  obtain rfl := hw'.symm
  clear hw' C1
  go_wp2_with (fail)
  refine C2.out.mono ?_
  rintro e w' ⟨rfl, hw'⟩
  obtain rfl := hw'.symm
  clear hw' C2
  go_wp2_with (fail)
  refine C3.out.mono ?_
  rintro e w' ⟨rfl, hw'⟩
  obtain rfl := hw'.symm
  clear hw' C3
  go_wp2_with (fail)
  refine C4.out.mono ?_
  rintro e w' ⟨rfl, hw'⟩
  obtain rfl := hw'.symm
  clear hw' C4
  go_wp2_with (fail)
  refine C5.out.mono ?_
  rintro e w' ⟨rfl, hw'⟩
  obtain rfl := hw'.symm
  clear hw' C5
  go_wp2_with (fail)
  refine C6.out.mono ?_
  rintro e w' ⟨rfl, hw'⟩
  obtain rfl := hw'.symm
  clear hw' C6
  go_wp2_with (fail)
  refine C7.out.mono ?_
  rintro e w' ⟨rfl, hw'⟩
  obtain rfl := hw'.symm
  clear hw' C7
  go_wp2_with (fail)
  refine C8.out.mono ?_
  rintro e w' ⟨rfl, hw'⟩
  obtain rfl := hw'.symm
  clear hw' C8
  go_wp2_with (fail)
  refine C9.out.mono ?_
  rintro e w' ⟨rfl, hw'⟩
  obtain rfl := hw'.symm
  clear hw' C9
  go_wp2_with (fail)
  refine C10.out.mono ?_
  rintro e w' ⟨rfl, hw'⟩
  obtain rfl := hw'.symm
  clear hw' C10
  go_wp2_with (fail)
  refine C11.out.mono ?_
  rintro e w' ⟨rfl, hw'⟩
  obtain rfl := hw'.symm
  clear hw' C11
  go_wp2_with (fail)
  refine C12.out.mono ?_
  rintro e w' ⟨rfl, hw'⟩
  obtain rfl := hw'.symm
  clear hw' C12
  go_wp2
  rw [ET.out]
  refine bodyPost_ret (v := .agg #[.int .i64 (x0 : Int), .int .i64 (x1 : Int), .int .i64 (x2 : Int), .bool (!((x3 : Int) == 0)), .int .i64 (x4 : Int), .int .i64 (x5 : Int), .int .i64 (x6 : Int), .int .i64 (x7 : Int), .int .i64 (x8 : Int), .int .i64 (x9 : Int), .int .i64 (x10 : Int), .int .i64 (x11 : Int), .int .i64 (x12 : Int)]) ?_ rfl ⟨rfl, ?_⟩
  · exact results_cell_row rfl _ _ B 27 _ (0, 0) _ rfl S9.out.1 Tryz.underlying27 rfl Tryz.infoHd
  · exact K1.out.step S9.out.2 (fun x hx => by simp at hx; subst hx; exact .inr (Nat.le_of_eq HBB.out))
end Go.Proofs.YthhegomjipbdbaaGreatDoor.Pc
