import Derived.Test.YthhegomjipbdbaaGreatDoorpBZ
import Derived.Test.YthhegomjipbdbaaGreatDoortA3Z
import Derived.Laws.Tables
namespace Go.Proofs.YthhegomjipbdbaaGreatDoor.Pc
open Go.RowKit

/-- A world that is w but for new blocks. -/
structure KW (w : World) where
  u : World
  h : Kept [] w u
theorem wp_region_kept {P : Program} {id : Nat} {Q : Exit → Act → World → Prop} {a : Act} {w : World} {l : List Oper} (hm : P.follows .mixedOrders = true) (hB : Region.lexB .any l.toArray = true)
    (h : wpQuiet P l.toArray (fun w' => ∃ p : KW w, w' = p.u) (fun a' => ∀ w', (∃ p : KW w, w' = p.u) → Q .normal a' w') l a) : (Code.region id l.toArray true).wp P Q a w :=
  wp_region_quiet (C := fun w' => ∃ p : KW w, w' = p.u) hm hB ⟨⟨_, (Kept.refl [] w).drew⟩, rfl⟩ (by simpa using h)

/-- What is wrong with a configuration. -/
def cfE (W H D : Int) (A : Bool) (sw sh : Int) (n : Nat) (L : Nat → Nat → Int) (cap p : Int) : Int :=
  if Tl.shE W H D A = 0 then (if Tl.nwE W H D sw sh A = 0 ∧ lmb n L A = true ∧ 0 ≤ cap ∧ pmb p (Tl.cl W sw * Tl.cl H sh) = true then 0 else 121) else 61
/-- A configuration may be. -/
structure Cfg (W H D : Int) (A : Bool) (sw sh : Int) (n : Nat) (L : Nat → Nat → Int) (cap p : Int) : Prop where
  shp : Tl.Shp W H D A
  sd : (16 ≤ sw ∧ sw ≤ 4096) ∧ sw % 2 = 0 ∧ (16 ≤ sh ∧ sh ≤ 4096)
  ld : lmb n L A = true
  cp : 0 ≤ cap
  pr : pmb p (Tl.cl W sw * Tl.cl H sh) = true
theorem shp_of {W H D : Int} {A : Bool} (h : Tl.shE W H D A = 0) : Tl.Shp W H D A := by
  unfold Tl.shE at h; unfold Tl.Shp
  split at h
  · assumption
  · cases h
theorem nwE_zero {W H D sw sh : Int} {A : Bool} (h : Tl.nwE W H D sw sh A = 0) : Tl.Shp W H D A ∧ (16 ≤ sw ∧ sw ≤ 4096) ∧ sw % 2 = 0 ∧ (16 ≤ sh ∧ sh ≤ 4096) := by
  unfold Tl.nwE at h
  split at h
  · rename_i h1
    split at h
    · exact ⟨shp_of h1, by assumption⟩
    · cases h
  · cases h
theorem nwE_ok {W H D sw sh : Int} {A : Bool} (h : Tl.Shp W H D A) (s : (16 ≤ sw ∧ sw ≤ 4096) ∧ sw % 2 = 0 ∧ (16 ≤ sh ∧ sh ≤ 4096)) : Tl.nwE W H D sw sh A = 0 := by
  unfold Tl.nwE; rw [if_pos (Tl.shE_ok h), if_pos s]
theorem cfE_zero {W H D : Int} {A : Bool} {sw sh : Int} {n : Nat} {L : Nat → Nat → Int} {cap p : Int} : cfE W H D A sw sh n L cap p = 0 ↔ Cfg W H D A sw sh n L cap p := by
  constructor
  · intro h
    unfold cfE at h
    split at h
    · split at h
      · rename_i h1 h2
        exact ⟨shp_of h1, (nwE_zero h2.1).2, h2.2.1, h2.2.2.1, h2.2.2.2⟩
      · cases h
    · cases h
  · intro h
    unfold cfE
    rw [if_pos (Tl.shE_ok h.shp), if_pos ⟨nwE_ok h.shp h.sd, h.ld, h.cp, h.pr⟩]
theorem Cfg.gd {W H D : Int} {A : Bool} {sw sh : Int} {n : Nat} {L : Nat → Nat → Int} {cap p : Int} (h : Cfg W H D A sw sh n L cap p) : Tl.Gd W H sw sh (Tl.cl W sw) (Tl.cl H sh) :=
  Tl.Gd.of h.shp.1.1 h.shp.1.2 h.shp.2.1.1 h.shp.2.1.2 h.sd.1.1 h.sd.1.2 h.sd.2.1 h.sd.2.2.1 h.sd.2.2.2

/-- What cut leaves. -/
def CutPost (w : World) (W H D : Int) (A : Bool) (sw sh : Int) (E : Int) (e : Ending) (w' : World) : Prop :=
  (E = 0 ∧ ∃ P, e = .returned (.tuple #[.pointer (some ⟨P, 0, none⟩), .int .i64 0]) ∧ Kept [] w w' ∧ w.heap.size ≤ P ∧ Tl.Gr w' P W H D A sw sh (Tl.cl W sw) (Tl.cl H sh)) ∨
  (E ≠ 0 ∧ e = .returned (.tuple #[.pointer none, .int .i64 E]) ∧ Kept [] w w')

set_option maxHeartbeats 8000000 in
set_option maxRecDepth 1000000 in
theorem cut_any (W H D : Int) (A : Bool) (sw sh : Int) (lo : Option Addr) (n c : Nat) (L : Nat → Nat → Int) (cap p : Int) (w : World) (hL : Ldr w lo n L) (hn : n ≤ 9223372036854775807) (s0 : -9223372036854775808 ≤ sw) (s1 : sw ≤ 9223372036854775807) :
    Calls Tryz.prog 47 #[Tl.shv W H D A, cfv sw sh lo n c cap p] w fun e w' => CutPost w W H D A sw sh (cfE W H D A sw sh n L cap p) e w' := by
  obtain ⟨w1, e1⟩ : ∃ w1, w.alloc (.cells #[.int .i64 W, .int .i64 H, .int .i64 D, .bool A] 23 (0, 0)) = w1 := ⟨_, rfl⟩
  obtain ⟨w2, e2⟩ : ∃ w2, w1.alloc (.cells #[.int .i64 sw, .int .i64 sh, .slice lo n c, .int .i64 cap, .int .i64 p] 45 (0, 0)) = w2 := ⟨_, rfl⟩
  have K2 : Hid (Kept [] w w2) := Hid.mk (by rw [← e2, ← e1]; exact ((Kept.refl [] w).alloc _).alloc _)
  have z1 : w1.heap.size = w.heap.size + 1 := by rw [← e1]; exact Array.size_push _
  obtain ⟨B, eB⟩ : ∃ B, w.heap.size = B := ⟨_, rfl⟩
  have RR : w2.cell? ⟨B, 0, none⟩ = some (.int .i64 W) ∧ w2.cell? ⟨B, 1, none⟩ = some (.int .i64 H) ∧ w2.cell? ⟨B, 2, none⟩ = some (.int .i64 D) ∧ w2.cell? ⟨B, 3, none⟩ = some (.bool A) ∧ w2.cell? ⟨B + 1, 0, none⟩ = some (.int .i64 sw) ∧ w2.cell? ⟨B + 1, 1, none⟩ = some (.int .i64 sh) ∧ w2.cell? ⟨B + 1, 2, none⟩ = some (.slice lo n c) ∧ w2.cell? ⟨B + 1, 3, none⟩ = some (.int .i64 cap) ∧ w2.cell? ⟨B + 1, 4, none⟩ = some (.int .i64 p) := by
    subst e2 e1 eB
    refine ⟨?_, ?_, ?_, ?_, ?_, ?_, ?_, ?_, ?_⟩ <;> go_simp
  have RK : Hid (∀ u, Kept [] w2 u → u.cell? ⟨B, 0, none⟩ = some (.int .i64 W) ∧ u.cell? ⟨B, 1, none⟩ = some (.int .i64 H) ∧ u.cell? ⟨B, 2, none⟩ = some (.int .i64 D) ∧ u.cell? ⟨B, 3, none⟩ = some (.bool A) ∧ u.cell? ⟨B + 1, 0, none⟩ = some (.int .i64 sw) ∧ u.cell? ⟨B + 1, 1, none⟩ = some (.int .i64 sh) ∧ u.cell? ⟨B + 1, 2, none⟩ = some (.slice lo n c) ∧ u.cell? ⟨B + 1, 3, none⟩ = some (.int .i64 cap) ∧ u.cell? ⟨B + 1, 4, none⟩ = some (.int .i64 p)) := Hid.mk (fun u k => by
    obtain ⟨a0, a1, a2, a3, b0, b1, b2, b3, b4⟩ := RR
    exact ⟨Tl.cell_keep k a0 (by simp), Tl.cell_keep k a1 (by simp), Tl.cell_keep k a2 (by simp), Tl.cell_keep k a3 (by simp), Tl.cell_keep k b0 (by simp), Tl.cell_keep k b1 (by simp), Tl.cell_keep k b2 (by simp), Tl.cell_keep k b3 (by simp), Tl.cell_keep k b4 (by simp)⟩)
  have HL := Hid.mk (hL.keep K2.out)
  have C1 := Hid.mk (fun u => Tl.shaped_any W H D A u)
  obtain ⟨a0, a1, a2, a3, b0, b1, b2, b3, b4⟩ := RR
  rw [eB] at z1
  clear hL
  by_cases hs : Tl.shE W H D A = 0
  · rw [hs] at C1
    by_cases hw : Tl.nwE W H D sw sh A = 0
    · obtain ⟨hsh, hsd⟩ := nwE_zero hw
      have C2 := Hid.mk (fun u => Tl.tnew_ok W H D sw sh A u hsh hsd.1.1 hsd.1.2 hsd.2.1 hsd.2.2.1 hsd.2.2.2)
      have G := Tl.Gd.of hsh.1.1 hsh.1.2 hsh.2.1.1 hsh.2.1.2 hsd.1.1 hsd.1.2 hsd.2.1 hsd.2.2.1 hsd.2.2.2
      have e9 : cfE W H D A sw sh n L cap p = if lmb n L A = true ∧ 0 ≤ cap ∧ pmb p (Tl.cl W sw * Tl.cl H sh) = true then 0 else 121 := by
        unfold cfE; rw [if_pos hs]; simp only [hw, true_and]
      have HCnt := Hid.mk (fun P u (h : Tl.Gr u P W H D A sw sh (Tl.cl W sw) (Tl.cl H sh)) => Tl.count_any' P W H D sw sh _ _ A u h G.c0 G.c1 G.r0 G.r1)
      have HLm := Hid.mk (fun u (h : Ldr u lo n L) => ladderMayBe_any lo n c L W H D A u h hn)
      have HPm := Hid.mk (fun u => parityMayBe_any p (Tl.cl W sw * Tl.cl H sh) u)
      obtain ⟨cw, ecw⟩ : ∃ x, Tl.cl W sw = x := ⟨_, rfl⟩
      obtain ⟨ch, ech⟩ : ∃ x, Tl.cl H sh = x := ⟨_, rfl⟩
      have EC := Hid.mk ecw
      have EH := Hid.mk ech
      simp only [ecw, ech] at C2 e9 HCnt HPm
      obtain ⟨N, eN⟩ : ∃ N, cw * ch = N := ⟨_, rfl⟩
      simp only [eN] at e9 HCnt HPm
      obtain ⟨lb, elb⟩ : ∃ b, lmb n L A = b := ⟨_, rfl⟩
      obtain ⟨pb, epb⟩ : ∃ b, pmb p N = b := ⟨_, rfl⟩
      rw [elb] at e9 HLm
      rw [epb] at e9 HPm
      have E9 := Hid.mk e9
      have fin : Hid (∀ u e, Kept [] w u → (cfE W H D A sw sh n L cap p = 121) → e = .returned (.tuple #[.pointer none, .int .i64 121]) → CutPost w W H D A sw sh (cfE W H D A sw sh n L cap p) e u) := Hid.mk (fun u e k h1 h2 => .inr ⟨by rw [h1]; decide, by rw [h1]; exact h2, k⟩)
      have fin0 : Hid (∀ u e P, Kept [] w u → (cfE W H D A sw sh n L cap p = 0) → e = .returned (.tuple #[.pointer (some ⟨P, 0, none⟩), .int .i64 0]) → w.heap.size ≤ P → Tl.Gr u P W H D A sw sh cw ch → CutPost w W H D A sw sh (cfE W H D A sw sh n L cap p) e u) := Hid.mk (fun u e P k h1 h2 h3 h4 => .inl ⟨h1, P, h2, k, h3, by rw [EC.out, EH.out]; exact h4⟩)
      obtain ⟨E, eE⟩ : ∃ E, cfE W H D A sw sh n L cap p = E := ⟨_, rfl⟩
      rw [eE] at E9 fin fin0
      have HE := Hid.mk eE
      have HB := Hid.mk eB
      clear hs hw hsh hsd G e9 ecw ech eN elb epb hn s0 s1
      rw [eE]
      clear eE
      go_enter Tryz.func47, Tryz.ntmps47
      go_wp2_with (fail)
      clear e1 e2 z1 eB
      refine (C1.out _).mono ?_
      rintro e w3 ⟨rfl, K3⟩
      have K3 := Hid.mk K3
      clear a0 a1 a2 a3 b0 b1 b2 b3 b4
      obtain ⟨a0, a1, a2, a3, b0, b1, b2, b3, b4⟩ := RK.out _ K3.out
      go_wp2_with (fail)
      refine (C2.out _).mono ?_
      rintro e w4 ⟨P, rfl, K4, hP, hG⟩
      have K4 := Hid.mk K4
      have HP : Hid (w.heap.size ≤ P) := Hid.mk (by have := K2.out.size; have := K3.out.size; omega)
      have HG := Hid.mk hG
      clear a0 a1 a2 a3 b0 b1 b2 b3 b4 hP hG
      have RP : Hid (∀ p : KW w4, _) := Hid.mk (fun p => RK.out p.u ((K3.out.trans K4.out).trans p.h))
      have r0 := fun q : KW w4 => (RP.out q).1
      have r1 := fun q : KW w4 => (RP.out q).2.1
      have r2 := fun q : KW w4 => (RP.out q).2.2.1
      have r3 := fun q : KW w4 => (RP.out q).2.2.2.1
      have r6 := fun q : KW w4 => (RP.out q).2.2.2.2.2.2.1
      have r7 := fun q : KW w4 => (RP.out q).2.2.2.2.2.2.2.1
      have r8 := fun q : KW w4 => (RP.out q).2.2.2.2.2.2.2.2
      have Q1 : Hid (∀ q : KW w4, Calls Tryz.prog 74 #[.slice lo n c, .agg #[.int .i64 W, .int .i64 H, .int .i64 D, .bool A]] q.u fun r w' => r = .returned (.bool lb) ∧ ∃ q' : KW w4, w' = q'.u) := Hid.mk fun q => (HLm.out q.u (HL.out.keep ((K3.out.trans K4.out).trans q.h))).mono fun r w' ⟨h1, h2⟩ => ⟨h1, ⟨w', q.h.trans h2⟩, rfl⟩
      have Q2 : Hid (∀ q : KW w4, Calls Tryz.prog 43 #[.pointer (some ⟨P, 0, none⟩)] q.u fun r w' => r = .returned (.int .i64 N) ∧ ∃ q' : KW w4, w' = q'.u) := Hid.mk fun q => (HCnt.out P q.u (HG.out.keep q.h (by simp))).mono fun r w' ⟨h1, h2⟩ => ⟨h1, ⟨w', q.h.trans h2⟩, rfl⟩
      have Q3 : Hid (∀ q : KW w4, Calls Tryz.prog 56 #[.int .i64 p, .int .i64 N] q.u fun r w' => r = .returned (.bool pb) ∧ ∃ q' : KW w4, w' = q'.u) := Hid.mk fun q => (HPm.out q.u).mono fun r w' ⟨h1, h2⟩ => ⟨h1, q, h2⟩
      have KK := Hid.mk ((K2.out.trans K3.out).trans K4.out)
      have NE : Nonempty (KW w4) := ⟨⟨w4, Kept.refl _ _⟩⟩
      cases lb
      · go_wp2_with (fail)
        refine wp_region_kept (by kernel_rfl) (by kernel_rfl) ?_
        repeat (go_big_quiet_step ((first | (go_at_call 74; exact Q1.out _) | (go_at_call 43; exact Q2.out _) | (go_at_call 56; exact Q3.out _))))
        refine wpQuiet_nil ?_
        rintro _ ⟨q, rfl⟩
        go_wp2
        go_ret2
        exact fin.out _ _ (KK.out.trans q.h) (by have := E9.out; simpa using this) rfl
      · by_cases hcap : cap < 0
        · go_wp2_with (fail)
          refine wp_region_kept (by kernel_rfl) (by kernel_rfl) ?_
          repeat (go_big_quiet_step ((first | (go_at_call 74; exact Q1.out _) | (go_at_call 43; exact Q2.out _) | (go_at_call 56; exact Q3.out _))))
          refine wpQuiet_nil ?_
          rintro _ ⟨q, rfl⟩
          go_wp2
          go_ret2
          exact fin.out _ _ (KK.out.trans q.h) (by have := E9.out; rw [if_neg (fun h => by omega)] at this; exact this) rfl
        · have dcap : decide (cap < 0) = false := by simpa using hcap
          cases pb
          · go_wp2_with (fail)
            refine wp_region_kept (by kernel_rfl) (by kernel_rfl) ?_
            repeat (go_big_quiet_step ((first | (go_at_call 74; exact Q1.out _) | (go_at_call 43; exact Q2.out _) | (go_at_call 56; exact Q3.out _))))
            refine wpQuiet_nil ?_
            rintro _ ⟨q, rfl⟩
            go_wp2
            go_ret2
            exact fin.out _ _ (KK.out.trans q.h) (by have := E9.out; simpa using this) rfl
          · go_wp2_with (fail)
            refine wp_region_kept (by kernel_rfl) (by kernel_rfl) ?_
            repeat (go_big_quiet_step ((first | (go_at_call 74; exact Q1.out _) | (go_at_call 43; exact Q2.out _) | (go_at_call 56; exact Q3.out _))))
            refine wpQuiet_nil ?_
            rintro _ ⟨q, rfl⟩
            go_wp2
            go_ret2
            exact fin0.out _ _ P (KK.out.trans q.h) (by have := E9.out; rw [if_pos ⟨by first | rfl | trivial, by omega, by first | rfl | trivial⟩] at this; exact this) rfl HP.out (HG.out.keep q.h (by simp))
    · have C2 := Hid.mk (fun u => tnew_no W H D sw sh A u hw s0 s1)
      have e9 : cfE W H D A sw sh n L cap p = 121 := by unfold cfE; rw [if_pos hs, if_neg (fun h => hw h.1)]
      rw [e9]
      have hw0 : (Tl.nwE W H D sw sh A == 0) = false := by simpa using hw
      obtain ⟨E, eE⟩ : ∃ E, Tl.nwE W H D sw sh A = E := ⟨_, rfl⟩
      rw [eE] at C2 hw0
      clear hs hw e9 eE hn s0 s1
      go_enter Tryz.func47, Tryz.ntmps47
      go_wp2_with (fail)
      clear e1 e2 z1 eB
      refine (C1.out _).mono ?_
      rintro e w3 ⟨rfl, K3⟩
      have K3 := Hid.mk K3
      clear a0 a1 a2 a3 b0 b1 b2 b3 b4
      obtain ⟨a0, a1, a2, a3, b0, b1, b2, b3, b4⟩ := RK.out _ K3.out
      go_wp2_with (fail)
      refine (C2.out _).mono ?_
      rintro e w4 ⟨rfl, K4⟩
      have K4 := Hid.mk K4
      clear a0 a1 a2 a3 b0 b1 b2 b3 b4
      go_wp2
      go_ret2
      exact .inr ⟨by decide, rfl, (K2.out.trans K3.out).trans K4.out⟩
  · have f61 : Tl.shE W H D A = 61 := by unfold Tl.shE at hs ⊢; split at hs; exact absurd rfl hs; rename_i h9; rw [if_neg h9]
    have e9 : cfE W H D A sw sh n L cap p = 61 := by unfold cfE; rw [if_neg hs]
    rw [e9]
    rw [f61] at C1
    clear hs e9 f61 hn s0 s1
    go_enter Tryz.func47, Tryz.ntmps47
    go_wp2_with (fail)
    clear e1 e2 z1 eB
    refine (C1.out _).mono ?_
    rintro e w3 ⟨rfl, K3⟩
    have K3 := Hid.mk K3
    clear a0 a1 a2 a3 b0 b1 b2 b3 b4
    go_wp2
    go_ret2
    exact .inr ⟨by decide, rfl, K2.out.trans K3.out⟩
end Go.Proofs.YthhegomjipbdbaaGreatDoor.Pc

namespace Go.Proofs.YthhegomjipbdbaaGreatDoor.Pc
open Go.RowKit

theorem cellAt {w : World} {B t i : Nat} {cs : Array Value} {v : Value} (h : w.heap[B]? = some (.cells cs t (0, 0))) (hv : cs[i]? = some v) : w.cell? ⟨B, i, none⟩ = some v := by
  rw [cell_of_row _ _ _ _ _ _ h]; exact hv
theorem cel4 {w : World} {B t : Nat} {v0 v1 v2 v3 : Value} (h : w.heap[B]? = some (.cells #[v0, v1, v2, v3] t (0, 0))) : w.cell? ⟨B, 0, none⟩ = some v0 ∧ w.cell? ⟨B, 1, none⟩ = some v1 ∧ w.cell? ⟨B, 2, none⟩ = some v2 ∧ w.cell? ⟨B, 3, none⟩ = some v3 :=
  ⟨cellAt h rfl, cellAt h rfl, cellAt h rfl, cellAt h rfl⟩
theorem cel5 {w : World} {B t : Nat} {v0 v1 v2 v3 v4 : Value} (h : w.heap[B]? = some (.cells #[v0, v1, v2, v3, v4] t (0, 0))) : w.cell? ⟨B, 0, none⟩ = some v0 ∧ w.cell? ⟨B, 1, none⟩ = some v1 ∧ w.cell? ⟨B, 2, none⟩ = some v2 ∧ w.cell? ⟨B, 3, none⟩ = some v3 ∧ w.cell? ⟨B, 4, none⟩ = some v4 :=
  ⟨cellAt h rfl, cellAt h rfl, cellAt h rfl, cellAt h rfl, cellAt h rfl⟩
theorem cel6 {w : World} {B t : Nat} {v0 v1 v2 v3 v4 v5 : Value} (h : w.heap[B]? = some (.cells #[v0, v1, v2, v3, v4, v5] t (0, 0))) : w.cell? ⟨B, 0, none⟩ = some v0 ∧ w.cell? ⟨B, 1, none⟩ = some v1 ∧ w.cell? ⟨B, 2, none⟩ = some v2 ∧ w.cell? ⟨B, 3, none⟩ = some v3 ∧ w.cell? ⟨B, 4, none⟩ = some v4 ∧ w.cell? ⟨B, 5, none⟩ = some v5 :=
  ⟨cellAt h rfl, cellAt h rfl, cellAt h rfl, cellAt h rfl, cellAt h rfl, cellAt h rfl⟩
theorem cel11 {w : World} {B t : Nat} {v0 v1 v2 v3 v4 v5 v6 v7 v8 v9 v10 : Value} (h : w.heap[B]? = some (.cells #[v0, v1, v2, v3, v4, v5, v6, v7, v8, v9, v10] t (0, 0))) : w.cell? ⟨B, 0, none⟩ = some v0 ∧ w.cell? ⟨B, 1, none⟩ = some v1 ∧ w.cell? ⟨B, 2, none⟩ = some v2 ∧ w.cell? ⟨B, 3, none⟩ = some v3 ∧ w.cell? ⟨B, 4, none⟩ = some v4 ∧ w.cell? ⟨B, 5, none⟩ = some v5 ∧ w.cell? ⟨B, 6, none⟩ = some v6 ∧ w.cell? ⟨B, 7, none⟩ = some v7 ∧ w.cell? ⟨B, 8, none⟩ = some v8 ∧ w.cell? ⟨B, 9, none⟩ = some v9 ∧ w.cell? ⟨B, 10, none⟩ = some v10 :=
  ⟨cellAt h rfl, cellAt h rfl, cellAt h rfl, cellAt h rfl, cellAt h rfl, cellAt h rfl, cellAt h rfl, cellAt h rfl, cellAt h rfl, cellAt h rfl, cellAt h rfl⟩
theorem cel13 {w : World} {B t : Nat} {v0 v1 v2 v3 v4 v5 v6 v7 v8 v9 v10 v11 v12 : Value} (h : w.heap[B]? = some (.cells #[v0, v1, v2, v3, v4, v5, v6, v7, v8, v9, v10, v11, v12] t (0, 0))) : w.cell? ⟨B, 0, none⟩ = some v0 ∧ w.cell? ⟨B, 1, none⟩ = some v1 ∧ w.cell? ⟨B, 2, none⟩ = some v2 ∧ w.cell? ⟨B, 3, none⟩ = some v3 ∧ w.cell? ⟨B, 4, none⟩ = some v4 ∧ w.cell? ⟨B, 5, none⟩ = some v5 ∧ w.cell? ⟨B, 6, none⟩ = some v6 ∧ w.cell? ⟨B, 7, none⟩ = some v7 ∧ w.cell? ⟨B, 8, none⟩ = some v8 ∧ w.cell? ⟨B, 9, none⟩ = some v9 ∧ w.cell? ⟨B, 10, none⟩ = some v10 ∧ w.cell? ⟨B, 11, none⟩ = some v11 ∧ w.cell? ⟨B, 12, none⟩ = some v12 :=
  ⟨cellAt h rfl, cellAt h rfl, cellAt h rfl, cellAt h rfl, cellAt h rfl, cellAt h rfl, cellAt h rfl, cellAt h rfl, cellAt h rfl, cellAt h rfl, cellAt h rfl, cellAt h rfl, cellAt h rfl⟩
theorem cel14 {w : World} {B t : Nat} {v0 v1 v2 v3 v4 v5 v6 v7 v8 v9 v10 v11 v12 v13 : Value} (h : w.heap[B]? = some (.cells #[v0, v1, v2, v3, v4, v5, v6, v7, v8, v9, v10, v11, v12, v13] t (0, 0))) : w.cell? ⟨B, 0, none⟩ = some v0 ∧ w.cell? ⟨B, 1, none⟩ = some v1 ∧ w.cell? ⟨B, 2, none⟩ = some v2 ∧ w.cell? ⟨B, 3, none⟩ = some v3 ∧ w.cell? ⟨B, 4, none⟩ = some v4 ∧ w.cell? ⟨B, 5, none⟩ = some v5 ∧ w.cell? ⟨B, 6, none⟩ = some v6 ∧ w.cell? ⟨B, 7, none⟩ = some v7 ∧ w.cell? ⟨B, 8, none⟩ = some v8 ∧ w.cell? ⟨B, 9, none⟩ = some v9 ∧ w.cell? ⟨B, 10, none⟩ = some v10 ∧ w.cell? ⟨B, 11, none⟩ = some v11 ∧ w.cell? ⟨B, 12, none⟩ = some v12 ∧ w.cell? ⟨B, 13, none⟩ = some v13 :=
  ⟨cellAt h rfl, cellAt h rfl, cellAt h rfl, cellAt h rfl, cellAt h rfl, cellAt h rfl, cellAt h rfl, cellAt h rfl, cellAt h rfl, cellAt h rfl, cellAt h rfl, cellAt h rfl, cellAt h rfl, cellAt h rfl⟩

theorem row_set {w : World} {B t : Nat} {old : Array Value} (cs : Array Value) (h : w.heap[B]? = some (.cells old t (0, 0))) : ∃ w', w.setRow B cs = w' ∧ w'.heap[B]? = some (.cells cs t (0, 0)) ∧ Kept [B] w w' :=
  ⟨_, rfl, setRow_heap w B old cs t (0, 0) h, ⟨rfl, rfl, rfl, by simp [World.setRow], fun k _ hk => setRow_other w B k _ (by simpa using hk)⟩⟩
/-- Cells that are set one by one. -/
def setAll (w : World) (B : Nat) : Nat → List Value → World
  | _, [] => w
  | i, v :: t => setAll (w.setCell ⟨B, i, none⟩ v) B (i + 1) t
theorem setAll_row {B t : Nat} (vs : List Value) : ∀ (i : Nat) (w : World) (pre old : List Value), w.heap[B]? = some (.cells (pre ++ old).toArray t (0, 0)) → pre.length = i → old.length = vs.length → (setAll w B i vs).heap[B]? = some (.cells (pre ++ vs).toArray t (0, 0)) ∧ Kept [B] w (setAll w B i vs) := by
  induction vs with
  | nil =>
    intro i w pre old h hi hl
    have : old = [] := List.eq_nil_of_length_eq_zero hl
    subst this
    exact ⟨h, Kept.refl _ _⟩
  | cons v vs ih =>
    intro i w pre old h hi hl
    cases old with
    | nil => simp at hl
    | cons x old =>
      have h1 := heap_setCell_at (i := i) (u := v) h
      have e : (pre ++ x :: old).toArray.setIfInBounds i v = ((pre ++ [v]) ++ old).toArray := by
        rw [List.setIfInBounds_toArray, set_mid pre old x v i hi]; simp
      rw [e] at h1
      have h2 := ih (i + 1) _ (pre ++ [v]) old h1 (by simp [hi]) (by simpa using hl)
      refine ⟨?_, ((Kept.refl [B] w).setCell (p := ⟨B, i, none⟩) (.inl (by simp)) v).trans h2.2⟩
      have h3 := h2.1
      rw [List.append_assoc] at h3
      exact h3
theorem row_fz {w : World} {B t : Nat} {cs : Array Value} (h : w.heap[B]? = some (.cells cs t (0, 0))) (i : Nat) : w.frozen? ⟨B, i, none⟩ = false := by simp [World.frozen?, h]
theorem Tryz.infoJ : (Tryz.prog.info? 97).map (·.size) = some 11 := by kernel_rfl

/-- A job as a value. -/
abbrev jbv (W H D : Int) (A : Bool) (po : Option Addr) (m d : Nat) (sw sh : Int) (lo : Option Addr) (n c : Nat) (cap p : Int) (G : Option Addr) : Value :=
  .agg #[.int .i64 W, .int .i64 H, .int .i64 D, .bool A, .slice po m d, .int .i64 sw, .int .i64 sh, .slice lo n c, .int .i64 cap, .int .i64 p, .pointer G]
/-- What is wrong with a frame and a configuration. -/
def jbE (W H D : Int) (A : Bool) (m : Nat) (ln : Nat → Nat) (F : Nat → Nat → Nat) (sw sh : Int) (n : Nat) (L : Nat → Nat → Int) (cap p : Int) : Int :=
  if Tl.vE W H D A m ln F = 0 then cfE W H D A sw sh n L cap p else Tl.vE W H D A m ln F
/-- What newJob leaves. -/
def JobPost (w : World) (W H D : Int) (A : Bool) (po : Option Addr) (m d : Nat) (sw sh : Int) (lo : Option Addr) (n c : Nat) (cap p : Int) (E : Int) (e : Ending) (w' : World) : Prop :=
  (E = 0 ∧ ∃ P, e = .returned (.tuple #[jbv W H D A po m d sw sh lo n c cap p (some ⟨P, 0, none⟩), .int .i64 0]) ∧ Kept [] w w' ∧ w.heap.size ≤ P ∧ Tl.Gr w' P W H D A sw sh (Tl.cl W sw) (Tl.cl H sh)) ∨
  (E ≠ 0 ∧ e = .returned (.tuple #[jbv 0 0 0 false none 0 0 0 0 none 0 0 0 0 none, .int .i64 E]) ∧ Kept [] w w')

set_option maxHeartbeats 8000000 in
set_option maxRecDepth 1000000 in
theorem newJob_any (W H D : Int) (A : Bool) (po : Option Addr) (m d : Nat) (ln : Nat → Nat) (F : Nat → Nat → Nat) (sw sh : Int) (lo : Option Addr) (n c : Nat) (L : Nat → Nat → Int) (cap p : Int) (w : World) (hP : Tl.Pl w po m ln F) (hm : m ≤ 9223372036854775807) (hln : ∀ i, i < m → ln i ≤ 9223372036854775807) (hL : Ldr w lo n L) (hn : n ≤ 9223372036854775807) (s0 : -9223372036854775808 ≤ sw) (s1 : sw ≤ 9223372036854775807) :
    Calls Tryz.prog 41 #[Tl.frv W H D A po m d, cfv sw sh lo n c cap p] w fun e w' => JobPost w W H D A po m d sw sh lo n c cap p (jbE W H D A m ln F sw sh n L cap p) e w' := by
  obtain ⟨w1, e1⟩ : ∃ w1, w.alloc (.cells #[.int .i64 W, .int .i64 H, .int .i64 D, .bool A, .slice po m d] 42 (0, 0)) = w1 := ⟨_, rfl⟩
  obtain ⟨w2, e2⟩ : ∃ w2, w1.alloc (.cells #[.int .i64 sw, .int .i64 sh, .slice lo n c, .int .i64 cap, .int .i64 p] 45 (0, 0)) = w2 := ⟨_, rfl⟩
  obtain ⟨w3, e3⟩ : ∃ w3, w2.alloc (.cells #[.int .i64 0, .int .i64 0, .int .i64 0, .bool false, .slice none 0 0, .int .i64 0, .int .i64 0, .slice none 0 0, .int .i64 0, .int .i64 0, .pointer none] 97 (0, 0)) = w3 := ⟨_, rfl⟩
  obtain ⟨B, eB⟩ : ∃ B, w.heap.size = B := ⟨_, rfl⟩
  have z1 : w1.heap.size = B + 1 := by rw [← e1, ← eB]; exact Array.size_push _
  have z2 : w2.heap.size = B + 1 + 1 := by rw [← z1, ← e2]; exact Array.size_push _
  have k1 : Kept [] w w1 := by rw [← e1]; exact (Kept.refl [] w).alloc _
  have k2 : Kept [] w1 w2 := by rw [← e2]; exact (Kept.refl [] w1).alloc _
  have k3 : Kept [] w2 w3 := by rw [← e3]; exact (Kept.refl [] w2).alloc _
  have HF : w3.heap[B]? = some (.cells #[.int .i64 W, .int .i64 H, .int .i64 D, .bool A, .slice po m d] 42 (0, 0)) := (k2.trans k3).heap (by rw [← e1, ← eB]; exact heap_alloc_new _ _) (by simp)
  have HC : w3.heap[B + 1]? = some (.cells #[.int .i64 sw, .int .i64 sh, .slice lo n c, .int .i64 cap, .int .i64 p] 45 (0, 0)) := k3.heap (by rw [← e2, ← z1]; exact heap_alloc_new _ _) (by simp)
  have HJ : w3.heap[B + 1 + 1]? = some (.cells #[.int .i64 0, .int .i64 0, .int .i64 0, .bool false, .slice none 0 0, .int .i64 0, .int .i64 0, .slice none 0 0, .int .i64 0, .int .i64 0, .pointer none] 97 (0, 0)) := by rw [← e3, ← z2]; exact heap_alloc_new _ _
  have K3 : Hid (Kept [] w w3) := Hid.mk ((k1.trans k2).trans k3)
  have HP := Hid.mk (hP.keep K3.out)
  have HL := Hid.mk (hL.keep K3.out)
  have C1 := Hid.mk (fun u (h : Tl.Pl u po m ln F) => Tl.valid_any W H D A po m d ln F u h hm hln)
  obtain ⟨f0, f1, f2, f3, f4⟩ := cel5 HF
  obtain ⟨q0, q1, q2, q3, q4⟩ := cel5 HC
  have HF := Hid.mk HF
  have HC := Hid.mk HC
  have HJ := Hid.mk HJ
  clear hP hL k1 k2 k3
  by_cases hv : Tl.vE W H D A m ln F = 0
  · have C2 := Hid.mk (fun u (h : Ldr u lo n L) => cut_any W H D A sw sh lo n c L cap p u h hn s0 s1)
    have ej : jbE W H D A m ln F sw sh n L cap p = cfE W H D A sw sh n L cap p := if_pos hv
    rw [ej]
    rw [hv] at C1
    clear hv ej hm hln hn s0 s1
    go_enter Tryz.func41, Tryz.ntmps41
    go_wp2_with (fail)
    clear e1 e2 e3 z1 z2
    refine (C1.out _ HP.out).mono ?_
    rintro e w4 ⟨rfl, K4⟩
    have K4 := Hid.mk K4
    clear f0 f1 f2 f3 f4 q0 q1 q2 q3 q4
    obtain ⟨f0, f1, f2, f3, f4⟩ := cel5 (K4.out.heap HF.out (by simp))
    obtain ⟨q0, q1, q2, q3, q4⟩ := cel5 (K4.out.heap HC.out (by simp))
    go_wp2_with (fail)
    refine (C2.out _ (HL.out.keep K4.out)).mono ?_
    rintro e w5 h5
    clear f0 f1 f2 f3 f4 q0 q1 q2 q3 q4
    rcases h5 with ⟨hE, P, rfl, K5, hP, hG⟩ | ⟨hE, rfl, K5⟩
    · have K5 := Hid.mk (K4.out.trans K5)
      have hJ5 := K5.out.heap HJ.out (by simp)
      obtain ⟨f0, f1, f2, f3, f4⟩ := cel5 (K5.out.heap HF.out (by simp))
      obtain ⟨q0, q1, q2, q3, q4⟩ := cel5 (K5.out.heap HC.out (by simp))
      have HE := Hid.mk hE
      have HPP := Hid.mk hP
      have HG := Hid.mk hG
      clear hE hP hG
      have S6 := Hid.mk (setAll_row [.int .i64 W, .int .i64 H, .int .i64 D, .bool A, .slice po m d, .int .i64 sw, .int .i64 sh, .slice lo n c, .int .i64 cap, .int .i64 p, .pointer (some ⟨P, 0, none⟩)] 0 _ [] _ hJ5 rfl rfl)
      simp only [setAll] at S6
      obtain ⟨j0, j1, j2, j3, j4, j5, j6, j7, j8, j9, j10⟩ := cel11 hJ5
      have jz := row_fz hJ5
      clear hJ5
      go_wp2
      refine bodyPost_ret (v := .tuple #[jbv W H D A po m d sw sh lo n c cap p (some ⟨P, 0, none⟩), .int .i64 0]) ?_ rfl (.inl ⟨HE.out, P, rfl, ?_, ?_, ?_⟩)
      · exact Tl.results_two rfl _ _ (B + 1 + 1) 97 _ (0, 0) _ _ rfl S6.out.1 Tryz.underlying97 Tryz.infoJ rfl
      · exact (K3.out.trans K5.out).step S6.out.2 (fun x hx => by simp at hx; subst hx; exact .inr (by omega))
      · have := HPP.out; have := K4.out.size; have := K3.out.size; omega
      · exact HG.out.keep S6.out.2 (by have := HPP.out; have := K4.out.size; have := lt_of_block HJ.out; simp; omega)
    · have K5 := Hid.mk (K4.out.trans K5)
      have hJ5 := K5.out.heap HJ.out (by simp)
      have S6 := Hid.mk (setAll_row [.int .i64 0, .int .i64 0, .int .i64 0, .bool false, .slice none 0 0, .int .i64 0, .int .i64 0, .slice none 0 0, .int .i64 0, .int .i64 0, .pointer none] 0 _ [] _ hJ5 rfl rfl)
      simp only [setAll] at S6
      obtain ⟨j0, j1, j2, j3, j4, j5, j6, j7, j8, j9, j10⟩ := cel11 hJ5
      have jz := row_fz hJ5
      clear hJ5
      have hE0 : (cfE W H D A sw sh n L cap p == 0) = false := by simpa using hE
      obtain ⟨E, eE⟩ : ∃ E, cfE W H D A sw sh n L cap p = E := ⟨_, rfl⟩
      rw [eE] at hE0 hE ⊢
      have HE := Hid.mk hE
      have HEE := Hid.mk eE
      clear hE eE C2
      go_wp2
      refine bodyPost_ret (v := .tuple #[jbv 0 0 0 false none 0 0 0 0 none 0 0 0 0 none, .int .i64 E]) ?_ rfl (.inr ⟨by rw [HEE.out]; exact HE.out, by rw [HEE.out], ?_⟩)
      · exact Tl.results_two rfl _ _ (B + 1 + 1) 97 _ (0, 0) _ _ rfl S6.out.1 Tryz.underlying97 Tryz.infoJ rfl
      · exact (K3.out.trans K5.out).step S6.out.2 (fun x hx => by simp at hx; subst hx; exact .inr (by omega))
  · have ej : jbE W H D A m ln F sw sh n L cap p = Tl.vE W H D A m ln F := if_neg hv
    rw [ej]
    have hE0 : (Tl.vE W H D A m ln F == 0) = false := by simpa using hv
    obtain ⟨E, eE⟩ : ∃ E, Tl.vE W H D A m ln F = E := ⟨_, rfl⟩
    rw [eE] at hE0 hv C1 ⊢
    have HE := Hid.mk hv
    clear hv eE ej hm hln hn s0 s1
    go_enter Tryz.func41, Tryz.ntmps41
    go_wp2_with (fail)
    clear e1 e2 e3 z1 z2
    refine (C1.out _ HP.out).mono ?_
    rintro e w5 ⟨rfl, K5⟩
    have K5 := Hid.mk K5
    have hJ5 := K5.out.heap HJ.out (by simp)
    have S6 := Hid.mk (setAll_row [.int .i64 0, .int .i64 0, .int .i64 0, .bool false, .slice none 0 0, .int .i64 0, .int .i64 0, .slice none 0 0, .int .i64 0, .int .i64 0, .pointer none] 0 _ [] _ hJ5 rfl rfl)
    simp only [setAll] at S6
    obtain ⟨j0, j1, j2, j3, j4, j5, j6, j7, j8, j9, j10⟩ := cel11 hJ5
    have jz := row_fz hJ5
    clear hJ5 f0 f1 f2 f3 f4 q0 q1 q2 q3 q4
    go_wp2
    refine bodyPost_ret (v := .tuple #[jbv 0 0 0 false none 0 0 0 0 none 0 0 0 0 none, .int .i64 E]) ?_ rfl (.inr ⟨HE.out, rfl, ?_⟩)
    · exact Tl.results_two rfl _ _ (B + 1 + 1) 97 _ (0, 0) _ _ rfl S6.out.1 Tryz.underlying97 Tryz.infoJ rfl
    · exact (K3.out.trans K5.out).step S6.out.2 (fun x hx => by simp at hx; subst hx; exact .inr (by omega))
end Go.Proofs.YthhegomjipbdbaaGreatDoor.Pc
