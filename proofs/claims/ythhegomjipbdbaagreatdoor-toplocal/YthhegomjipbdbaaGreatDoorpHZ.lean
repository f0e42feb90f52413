import Derived.Test.YthhegomjipbdbaaGreatDoorpG
import Derived.Test.YthhegomjipbdbaaGreatDoortA1Z
import Derived.Test.YthhegomjipbdbaaGreatDoorFbZ
namespace Go.Proofs.YthhegomjipbdbaaGreatDoor.Pc
open Go.RowKit

theorem nby_le {W H n : Nat} {D T d : Int} {f b : Nat → Int} {x : Nat × Nat} (B : Blk W H n D T d f) (h : Tell T d D W H n f x b) : (nby x : Int) ≤ 1 + (D * (W : Int) * (H : Int) + 7) / 8 := by
  have hr : (rsz (W : Int) (H : Int) D).1 = 1 + (D * (W : Int) * (H : Int) + 7) / 8 := by
    unfold rsz
    rw [if_neg (by rcases B.dp with ⟨h, _⟩ | ⟨h, _⟩ <;> omega), if_pos B.sz]
  obtain ⟨j, hj, ⟨hc, rfl, rfl⟩ | ⟨hc, rfl, rfl⟩⟩ := h
  · rw [hr] at hc; omega
  · unfold nby
    rw [rwb_len]
    have hd := B.dp.mid
    have e : D * (W : Int) * (H : Int) = ((D.toNat * n : Nat) : Int) := by
      rw [B.n_, Int.mul_assoc, Int.natCast_mul, Int.natCast_mul, Int.toNat_of_nonneg (by omega)]
    rw [e]
    generalize D.toNat * n = z
    omega
/-- Samples of a block as a total function. -/
def fz (n : Nat) (g : Nat → Nat) (i : Nat) : Int := if i < n then (g i : Int) else 0
/-- A slice's payload, plane by plane. -/
def payL (X : Nat → Nat × Nat) : Nat → List Nat
  | 0 => []
  | q + 1 => payL X q ++ (big 3 (nby (X q)) ++ byts (X q))
theorem payL_len (X : Nat → Nat × Nat) (hX : ∀ q, (byts (X q)).length = nby (X q)) (q : Nat) : (payL X (q + 1)).length = (payL X q).length + (3 + nby (X q)) := by
  simp only [payL, List.length_append, big_length, hX]

theorem own_lo {w : World} {B e n : Nat} {V : Value} {xs : List Value} (h : w.ownsRow B e 1 V n xs) {b : Nat} (hb : V.ownBlock = some b) : B ≤ b ∧ b < w.heap.size := by
  rcases h.2 with ⟨rfl, _⟩ | ⟨g, cap, cur, rfl, h1, h2, _⟩
  · cases hb
  · cases hb
    exact ⟨h1, lt_of_block h2⟩
/-- What is known of a job in memory, as far as its blocks go. -/
structure Jb (w : World) (W H D : Int) (A : Bool) (po : Option Addr) (m d : Nat) (sw sh : Int) (lo : Option Addr) (n c : Nat) (cap p : Int) (G : Nat) (k : Int) (r : Nat → Int) (bw bh : Nat → Nat) (f : Nat → Nat → Nat) (X : Nat → Nat × Nat) : Prop where
  blk : ∀ q, q < m → ∀ u, Kept [] w u → Calls Tryz.prog 70 #[jbv W H D A po m d sw sh lo n c cap p (some ⟨G, 0, none⟩), .int .i64 k, .int .i64 (q : Int)] u fun e w' => ∃ g c, e = .returned (.agg #[.int .i64 (bw q : Int), .int .i64 (bh q : Int), .slice (some ⟨g, 0, none⟩) (bh q * bw q) c]) ∧ u.heap.size ≤ g ∧ (∀ i, i < bh q * bw q → w'.cell? ⟨g, i, none⟩ = some (.int .u16 (f q i : Int))) ∧ Kept [] u w'
  enc : ∀ q, q < m → ∀ u g sc, Kept [] w u → Smp u g 0 (bh q * bw q) (fz (bh q * bw q) (f q)) → Calls Tryz.prog 69 #[.agg #[.int .i64 (bw q : Int), .int .i64 (bh q : Int), .slice (some ⟨g, 0, none⟩) (bh q * bw q) sc], .int .i64 D, .int .i64 (r q)] u fun e w' => ∃ g, e = .returned (.tuple #[.slice (some ⟨g, 0, none⟩) (nby (X q)) (nby (X q)), .int .i64 0]) ∧ u.heap.size ≤ g ∧ w'.heap[g]? = some (.cells ((byts (X q)).map byt).toArray 5 (0, 0)) ∧ Kept [] u w'
  len : ∀ q, q < m → (byts (X q)).length = nby (X q) ∧ nby (X q) ≤ 16777215
  m4 : m ≤ 4

set_option maxHeartbeats 8000000 in
set_option maxRecDepth 1000000 in
theorem payload_any (W H D : Int) (A : Bool) (po : Option Addr) (m d : Nat) (sw sh : Int) (lo : Option Addr) (n c : Nat) (cap p : Int) (G : Nat) (k : Int) (r : Nat → Int) (bw bh : Nat → Nat) (f : Nat → Nat → Nat) (X : Nat → Nat × Nat) (w : World)
    (hJ : Jb w W H D A po m d sw sh lo n c cap p G k r bw bh f X) :
    Calls Tryz.prog 44 #[jbv W H D A po m d sw sh lo n c cap p (some ⟨G, 0, none⟩), rgv r, .int .i64 k] w fun e w' => ∃ V, e = .returned V ∧ w'.ownsRow w.heap.size 5 1 V (payL X m).length ((payL X m).map byt) ∧ Kept [] w w' := by
  obtain ⟨w2, e2⟩ : ∃ w2, w.alloc (.cells #[.int .i64 W, .int .i64 H, .int .i64 D, .bool A, .slice po m d, .int .i64 sw, .int .i64 sh, .slice lo n c, .int .i64 cap, .int .i64 p, .pointer (some ⟨G, 0, none⟩)] 97 (0, 0)) = w2 := ⟨_, rfl⟩
  obtain ⟨w3, e3⟩ : ∃ w3, w2.alloc (.cells #[.int .i64 (r 0), .int .i64 (r 1), .int .i64 (r 2), .int .i64 (r 3)] 25 (0, 0)) = w3 := ⟨_, rfl⟩
  obtain ⟨B, eB⟩ : ∃ B, w.heap.size = B := ⟨_, rfl⟩
  have z1 : w2.heap.size = B + 1 := by rw [← e2, ← eB]; exact Array.size_push _
  have k1 : Kept [] w w2 := by rw [← e2]; exact (Kept.refl [] w).alloc _
  have k2 : Kept [] w2 w3 := by rw [← e3]; exact (Kept.refl [] w2).alloc _
  have HB1 := k2.heap (show w2.heap[B]? = some (.cells #[.int .i64 W, .int .i64 H, .int .i64 D, .bool A, .slice po m d, .int .i64 sw, .int .i64 sh, .slice lo n c, .int .i64 cap, .int .i64 p, .pointer (some ⟨G, 0, none⟩)] 97 (0, 0)) by rw [← e2, ← eB]; exact heap_alloc_new _ _) (by simp)
  have HB2 : w3.heap[B + 1]? = some (.cells #[.int .i64 (r 0), .int .i64 (r 1), .int .i64 (r 2), .int .i64 (r 3)] 25 (0, 0)) := by rw [← e3, ← z1]; exact heap_alloc_new _ _
  have K3 := Hid.mk (k1.trans k2)
  have HJJ := Hid.mk hJ
  have j4 := cellAt (i := 4) HB1 rfl
  have HB1 := Hid.mk HB1
  have HB2 := Hid.mk HB2
  have HBB := Hid.mk eB
  have hm4 := hJ.m4
  obtain ⟨S3, eS3⟩ : ∃ S3, w3.heap.size = S3 := ⟨_, rfl⟩
  have ES := Hid.mk eS3
  clear eS3
  clear hJ k1 k2
  go_enter Tryz.func44, Tryz.ntmps44
  go_wp2
  clear j4 e2 e3 z1 eB
  go_loopw [7, 15] (fun v i wr => ∃ (q M c : Nat) (bo : Option Addr), q ≤ m ∧ i = .int .i64 (q : Int) ∧ v = .slice bo M c ∧ Hid (M = (payL X q).length ∧ M ≤ 16777218 * q ∧ wr.ownsRow S3 5 1 (.slice bo M c) M ((payL X q).map byt) ∧ Kept [] w3 wr)) (fun _ i _ => m - (intOf i).toNat)
  case atStart => exact ⟨0, 0, 0, none, Nat.zero_le _, rfl, rfl, Hid.mk ⟨rfl, Nat.zero_le _, ⟨rfl, .inl ⟨rfl, rfl⟩⟩, Kept.refl _ _⟩⟩
  case round =>
    obtain ⟨q, M, c9, bo, hqm, rfl, rfl, HI⟩ := hrel
    by_cases hq : q < m
    · obtain ⟨j0, j1, j2, j3, j4, j5, j6, j7, j8, j9, j10⟩ := cel11 (HI.out.2.2.2.heap HB1.out (by simp))
      have rq : wr.cell? ⟨B + 1, q, none⟩ = some (.int .i64 (r q)) := cellAt (HI.out.2.2.2.heap HB2.out (by simp)) (by
        rcases (show q = 0 ∨ q = 1 ∨ q = 2 ∨ q = 3 by omega) with rfl | rfl | rfl | rfl <;> rfl)
      have iq : (q : Int) < (m : Int) := by omega
      have iq4 : (q : Int) < 4 := by omega
      have HQ := Hid.mk hq
      clear hqm hm4 hq
      go_wp2
      refine wp_region_held_drew (S := fun u => (u.cell? ⟨B, 0, none⟩ = some (.int .i64 W) ∧ u.cell? ⟨B, 1, none⟩ = some (.int .i64 H) ∧ u.cell? ⟨B, 2, none⟩ = some (.int .i64 D) ∧ u.cell? ⟨B, 3, none⟩ = some (.bool A) ∧ u.cell? ⟨B, 4, none⟩ = some (.slice po m d) ∧ u.cell? ⟨B, 5, none⟩ = some (.int .i64 sw) ∧ u.cell? ⟨B, 6, none⟩ = some (.int .i64 sh) ∧ u.cell? ⟨B, 7, none⟩ = some (.slice lo n c) ∧ u.cell? ⟨B, 8, none⟩ = some (.int .i64 cap) ∧ u.cell? ⟨B, 9, none⟩ = some (.int .i64 p) ∧ u.cell? ⟨B, 10, none⟩ = some (.pointer (some ⟨G, 0, none⟩))) ∧ u.cell? ⟨B + 1, q, none⟩ = some (.int .i64 (r q))) (by kernel_rfl) ⟨⟨j0, j1, j2, j3, j4, j5, j6, j7, j8, j9, j10⟩, rq⟩ (fun hHeld => ?_)
      refine wpAnyH_take (i := 0) (oi := _) (v := ?_) rfl (by kernel_rfl) (by kernel_rfl) (by kernel_rfl) (fun _ _ _ h => h) (Or.inl ⟨by rfl, ?y0⟩) (by assumption) ?r0
      case y0 => (intro w hSw; (try dsimp only at hSw); go_simp; try with_reducible rfl)
      refine wpAnyH_take (i := 1) (oi := _) (v := ?_) rfl (by kernel_rfl) (by kernel_rfl) (by kernel_rfl) (fun _ _ _ h => h) (Or.inl ⟨by rfl, ?y1⟩) (by assumption) ?r1
      case y1 => (intro w hSw; (try dsimp only at hSw); go_simp; try with_reducible rfl)
      refine wpAnyH_take (i := 2) (oi := _) (v := ?_) rfl (by kernel_rfl) (by kernel_rfl) (by kernel_rfl) (fun _ _ _ h => h) (Or.inl ⟨by rfl, ?y2⟩) (by assumption) ?r2
      case y2 => (intro w hSw; (try dsimp only at hSw); go_simp; try with_reducible rfl)
      refine wpAnyH_take (i := 4) (oi := _) (v := ?_) rfl (by kernel_rfl) (by kernel_rfl) (by kernel_rfl) (fun _ _ _ h => h) (Or.inl ⟨by rfl, ?y4⟩) (by assumption) ?r4
      case y4 => (intro w hSw; (try dsimp only at hSw); go_simp; try with_reducible rfl)
      refine wpAnyH_take (i := 5) (oi := _) (v := ?_) rfl (by kernel_rfl) (by kernel_rfl) (by kernel_rfl) (fun _ _ _ h => h) (Or.inl ⟨by rfl, ?y5⟩) (by assumption) ?r5
      case y5 => (intro w hSw; (try dsimp only at hSw); go_simp; try with_reducible rfl)
      refine wpAnyH_take (i := 6) (oi := _) (v := ?_) rfl (by kernel_rfl) (by kernel_rfl) (by kernel_rfl) (fun _ _ _ h => h) (Or.inl ⟨by rfl, ?y6⟩) (by assumption) ?r6
      case y6 => (intro w hSw; (try dsimp only at hSw); go_simp; try with_reducible rfl)
      refine wpAnyH_take (i := 7) (oi := _) (v := ?_) rfl (by kernel_rfl) (by kernel_rfl) (by kernel_rfl) (fun _ _ _ h => h) (Or.inl ⟨by rfl, ?y7⟩) (by assumption) ?r7
      case y7 => (intro w hSw; (try dsimp only at hSw); go_simp; try with_reducible rfl)
      refine wpAnyH_take (i := 8) (oi := _) (v := ?_) rfl (by kernel_rfl) (by kernel_rfl) (by kernel_rfl) (fun _ _ _ h => h) (Or.inl ⟨by rfl, ?y8⟩) (by assumption) ?r8
      case y8 => (intro w hSw; (try dsimp only at hSw); go_simp; try with_reducible rfl)
      refine wpAnyH_take (i := 9) (oi := _) (v := ?_) rfl (by kernel_rfl) (by kernel_rfl) (by kernel_rfl) (fun _ _ _ h => h) (Or.inl ⟨by rfl, ?y9⟩) (by assumption) ?r9
      case y9 => (intro w hSw; (try dsimp only at hSw); go_simp; try with_reducible rfl)
      refine wpAnyH_take (i := 10) (oi := _) (v := ?_) rfl (by kernel_rfl) (by kernel_rfl) (by kernel_rfl) (fun _ _ _ h => h) (Or.inl ⟨by rfl, ?y10⟩) (by assumption) ?r10
      case y10 => (intro w hSw; (try dsimp only at hSw); go_simp; try with_reducible rfl)
      refine wpAnyH_ready (rs := [3]) (by kernel_rfl) (by simp) ?_
      refine AllReadyH.cons rfl (fun K hK => ?_) AllReadyH.nil
      go_simp
      go_at_call 70
      refine (HJJ.out.blk q HQ.out wr.drew (K3.out.trans (HI.out.2.2.2.drew))).mono ?_
      rintro e w4 ⟨g4, c4, rfl, hg4, hs4, K4⟩
      have HK4 : Hid (Kept [] w3 w4) := Hid.mk ((HI.out.2.2.2.drew).trans K4)
      clear j0 j1 j2 j3 j4 j5 j6 j7 j8 j9 j10 rq
      obtain ⟨j0, j1, j2, j3, j4, j5, j6, j7, j8, j9, j10⟩ := cel11 (HK4.out.heap HB1.out (by simp))
      have rq : w4.cell? ⟨B + 1, q, none⟩ = some (.int .i64 (r q)) := cellAt (HK4.out.heap HB2.out (by simp)) (by
        have h4 := HJJ.out.m4
        have h5 := HQ.out
        rcases (show q = 0 ∨ q = 1 ∨ q = 2 ∨ q = 3 by omega) with rfl | rfl | rfl | rfl <;> rfl)
      have C5 := Hid.mk (HJJ.out.enc q HQ.out w4 g4 c4 (K3.out.trans HK4.out) (fun i hi => by
        rw [Nat.zero_add, hs4 i hi]; unfold fz; rw [if_pos hi]))
      have HLN := Hid.mk (HJJ.out.len q HQ.out)
      have HFL : Hid (payL X (q + 1) = payL X q ++ (big 3 (nby (X q)) ++ byts (X q))) := Hid.mk rfl
      obtain ⟨L, eL⟩ : ∃ L, nby (X q) = L := ⟨_, rfl⟩
      rw [eL] at C5 HLN HFL
      clear eL hs4 hg4
      refine hK.out _ _ ⟨⟨j0, j1, j2, j3, j4, j5, j6, j7, j8, j9, j10⟩, rq⟩ (fun hHeld => ?_)
      clear hK K
      refine wpAnyH_ready (rs := [11]) (by kernel_rfl) (by simp) ?_
      refine AllReadyH.cons rfl (fun K hK => ?_) AllReadyH.nil
      go_simp
      go_at_call 69
      refine C5.out.mono ?_
      rintro e w5 ⟨g5, rfl, hg5, hb5, K5⟩
      have HK5 : Hid (Kept [] w3 w5) := Hid.mk (HK4.out.trans K5)
      clear j0 j1 j2 j3 j4 j5 j6 j7 j8 j9 j10 rq
      obtain ⟨j0, j1, j2, j3, j4, j5, j6, j7, j8, j9, j10⟩ := cel11 (HK5.out.heap HB1.out (by simp))
      have rq : w5.cell? ⟨B + 1, q, none⟩ = some (.int .i64 (r q)) := cellAt (HK5.out.heap HB2.out (by simp)) (by
        have h4 := HJJ.out.m4
        have h5 := HQ.out
        rcases (show q = 0 ∨ q = 1 ∨ q = 2 ∨ q = 3 by omega) with rfl | rfl | rfl | rfl <;> rfl)
      refine hK.out _ _ ⟨⟨j0, j1, j2, j3, j4, j5, j6, j7, j8, j9, j10⟩, rq⟩ (fun hHeld => ?_)
      clear hK K
      refine wpAnyH_take (i := 12) (oi := _) (v := ?_) rfl (by kernel_rfl) (by kernel_rfl) (by kernel_rfl) (fun _ _ _ h => h) (Or.inl ⟨by rfl, ?y12⟩) (by assumption) ?r12
      case y12 => (intro w hSw; (try dsimp only at hSw); go_simp; try with_reducible rfl)
      refine wpAnyH_take (i := 13) (oi := _) (v := ?_) rfl (by kernel_rfl) (by kernel_rfl) (by kernel_rfl) (fun _ _ _ h => h) (Or.inl ⟨by rfl, ?y13⟩) (by assumption) ?r13
      case y13 => (intro w hSw; (try dsimp only at hSw); go_simp; try with_reducible rfl)
      refine wpAnyH_take (i := 14) (oi := _) (v := ?_) rfl (by kernel_rfl) (by kernel_rfl) (by kernel_rfl) (fun _ _ _ h => h) (Or.inl ⟨by rfl, ?y14⟩) (by assumption) ?r14
      case y14 => (intro w hSw; (try dsimp only at hSw); go_simp; try with_reducible rfl)
      refine wpAnyH_take (i := 15) (oi := _) (v := ?_) rfl (by kernel_rfl) (by kernel_rfl) (by kernel_rfl) (fun _ _ _ h => h) (Or.inl ⟨by rfl, ?y15⟩) (by assumption) ?r15
      case y15 => (intro w hSw; (try dsimp only at hSw); go_simp; try with_reducible rfl)
      refine wpAnyH_take (i := 16) (oi := _) (v := ?_) rfl (by kernel_rfl) (by kernel_rfl) (by kernel_rfl) (fun _ _ _ h => h) (Or.inl ⟨by rfl, ?y16⟩) (by assumption) ?r16
      case y16 => (intro w hSw; (try dsimp only at hSw); go_simp; try with_reducible rfl)
      refine wpAnyH_done (by kernel_rfl) ?_ _
      have HO5 : Hid (w5.ownsRow S3 5 1 (.slice bo M c9) M ((payL X q).map byt)) := Hid.mk (K5.row (K4.row (HI.out.2.2.1 : wr.drew.ownsRow _ _ _ _ _ _) (by simp)) (by simp))
      have HR5 : Hid (Reads w5 (some ⟨g5, 0, none⟩) (byts (X q))) := Hid.mk (.inr ⟨g5, 0, rfl, fun i hi => by
        rw [Nat.zero_add]
        refine cellAt hb5 ?_
        rw [List.getElem?_toArray, List.getElem?_map, List.getD_eq_getElem?_getD, List.getElem?_eq_getElem hi]; rfl⟩)
      obtain ⟨w6, e6⟩ : ∃ w6, w5.alloc (.cells #[.int .i64 (L : Int), .int .i64 3] 75 (0, 0)) = w6 := ⟨_, rfl⟩
      have k6 : Kept [] w5 w6 := by rw [← e6]; exact (Kept.refl [] w5).alloc _
      have b6 : w6.heap[w5.heap.size]? = some (.cells #[.int .i64 (L : Int), .int .i64 3] 75 (0, 0)) := by rw [← e6]; exact heap_alloc_new _ _
      clear j0 j1 j2 j3 j4 j5 j6 j7 j8 j9 j10 rq hHeld
      have HNB : Hid (∀ b, (Value.slice bo M c9).ownBlock = some b → S3 ≤ b ∧ b < wr.heap.size) := Hid.mk (fun b hb => own_lo HI.out.2.2.1 hb)
      have HSZ : Hid (wr.heap.size ≤ w4.heap.size ∧ w4.heap.size ≤ w5.heap.size ∧ S3 ≤ w5.heap.size ∧ w4.heap.size ≤ g5) := Hid.mk ⟨K4.size, K5.size, by rw [← ES.out]; exact HK5.out.size, hg5⟩
      have C6 := Hid.mk (lay_any S3 (.slice bo M c9) M _ (some ⟨w5.heap.size, 0, none⟩) 1 1 [(L, 3)] w6 (k6.row HO5.out (by simp)) (Nat.le_trans HSZ.out.2.2.1 k6.size) ⟨w5.heap.size, 0, rfl, fun i hi => by
        have h0 : i = 0 := by simpa using hi
        subst h0
        exact ⟨cellAt (i := 0) b6 rfl, cellAt (i := 1) b6 rfl⟩⟩ rfl (fun i hi => by
        have h0 : i = 0 := by simpa using hi
        subst h0
        exact ⟨by show (1 : Nat) ≤ 3; decide, by show (3 : Nat) ≤ 8; decide, by have := HLN.out.2; show L < 16777216; omega⟩) (by decide) (by have := HI.out.2.1; have := HJJ.out.m4; have := HQ.out; omega) (fun g off e hb => by
        cases e
        have h1 := HNB.out _ hb
        have h2 := HSZ.out
        omega))
      have HM : Hid (M + 3 + L ≤ 140737488355328) := Hid.mk (by have := HI.out.2.1; have := HJJ.out.m4; have := HQ.out; have := HLN.out.2; omega)
      have K6 := Hid.mk k6
      go_wp2_with (fail)
      clear e6
      refine C6.out.mono ?_
      rintro e w7 ⟨V7, rfl, ho7, K7, L7⟩
      obtain ⟨b7, c7, rfl⟩ := row_form ho7
      have HF3 : Hid (fds [(L, 3)] = big 3 L) := Hid.mk (by simp [fds])
      rw [HF3.out, big_length] at ho7
      have HO7 := Hid.mk ho7
      have HR7 : Hid (Reads w7 (some ⟨g5, 0, none⟩) (byts (X q))) := Hid.mk (by
        rcases HR5.out with h | ⟨g, off, h, hc⟩
        · exact .inl h
        · refine .inr ⟨g, off, h, fun i hi => Tl.cell_keep K7 (Tl.cell_keep K6.out (hc i hi) (by simp)) ?_⟩
          cases h
          intro h8
          have h9 := HNB.out g5 (by simpa using h8)
          have h2 := HSZ.out
          omega)
      have HK7 : Hid (Kept [] w3 w7) := Hid.mk ((HK5.out.trans K6.out).step K7 (fun x hx => .inr (by rw [ES.out]; exact (HNB.out x (by simpa using hx)).1)))
      have HL7 := Hid.mk HLN.out.1
      have HS7 : Hid (S3 ≤ w7.heap.size) := Hid.mk (by rw [← ES.out]; exact HK7.out.size)
      rw [HF3.out, big_length]
      clear ho7 b6 k6
      go_wp2_with (at_builtin; refine wpList_appR S3 w7 rfl _ _ rfl (.slice b7 (M + 3) c7) (M + 3) _ rfl HO7.out (some ⟨g5, 0, none⟩) L L (byts (X q)) rfl HR7.out HL7.out (by simp) HS7.out HM.out ?_; intro V8 w8 ho8 K8 L8; obtain ⟨b8, c8, rfl⟩ := row_form ho8)
      have HO8 := Hid.mk ho8
      have HK8 : Hid (Kept [] w3 w8) := Hid.mk (HK7.out.step K8 (fun x hx => .inr (by rw [ES.out]; exact (own_lo HO7.out (by simpa using hx)).1)))
      clear ho8
      go_wp2
      go_roundw
      case rel => exact ⟨q + 1, M + 3 + L, c8, b8, HQ.out, by go_num, rfl, Hid.mk ⟨by
        have h1 := HI.out.1
        have h2 := HL7.out
        rw [HFL.out, List.length_append, List.length_append, big_length]; omega, by have := HI.out.2.1; have := HLN.out.2; omega, by
        rw [HFL.out, List.map_append, List.map_append, ← List.append_assoc]; exact HO8.out, HK8.out⟩⟩
      case measure => (simp [intOf]; have := HQ.out; omega)
    · obtain rfl : m = q := by omega
      obtain ⟨h1, h2, h3, h4⟩ := HI.out
      have HE := Hid.mk (own_base h3 (show w.heap.size ≤ S3 by rw [← ES.out]; exact K3.out.size))
      rw [h1] at HE
      have HK9 := Hid.mk (K3.out.trans h4)
      have H1 := Hid.mk h1
      clear h1 h2 h3 h4 hqm hq hm4
      go_wp2
      go_ret
      exact ⟨_, rfl, by rw [H1.out]; exact HE.out, HK9.out⟩
end Go.Proofs.YthhegomjipbdbaaGreatDoor.Pc

namespace Go.Proofs.YthhegomjipbdbaaGreatDoor.Pc
open Go.RowKit

/-- Numbers in a row of their own. -/
def In (w : World) (g N : Nat) (l : Nat → Nat) : Prop := ∀ i, i < N → w.cell? ⟨g, i, none⟩ = some (.int .i64 (l i : Int))
/-- A sum; the greatest. -/
def sm (l : Nat → Nat) : Nat → Nat
  | 0 => 0
  | n + 1 => sm l n + l n
def mxl (l : Nat → Nat) : Nat → Nat
  | 0 => 0
  | n + 1 => max (mxl l n) (l n)
theorem sm_congr {l l' : Nat → Nat} {n : Nat} (h : ∀ i, i < n → l i = l' i) : sm l n = sm l' n := by
  induction n with
  | zero => rfl
  | succ n ih => simp only [sm]; rw [ih (fun i hi => h i (by omega)), h n (by omega)]
theorem mxl_congr {l l' : Nat → Nat} {n : Nat} (h : ∀ i, i < n → l i = l' i) : mxl l n = mxl l' n := by
  induction n with
  | zero => rfl
  | succ n ih => simp only [mxl]; rw [ih (fun i hi => h i (by omega)), h n (by omega)]
theorem sm_le {l : Nat → Nat} {n b : Nat} (h : ∀ i, i < n → l i ≤ b) : sm l n ≤ n * b := by
  induction n with
  | zero => simp [sm]
  | succ n ih => simp only [sm]; rw [Nat.add_mul]; have := ih (fun i hi => h i (by omega)); have := h n (by omega); omega
theorem mxl_le {l : Nat → Nat} {n b : Nat} (h : ∀ i, i < n → l i ≤ b) : mxl l n ≤ b := by
  induction n with
  | zero => simp [mxl]
  | succ n ih => simp only [mxl]; have := ih (fun i hi => h i (by omega)); have := h n (by omega); omega
/-- How many bytes a record has. -/
def rcl (l : Nat → Nat) (N p : Nat) : Nat := 32 + (8 * N + 4 * p + 4) + sm l N + p * mxl l N

set_option maxHeartbeats 4000000 in
set_option maxRecDepth 1000000 in
theorem max_any (g N c : Nat) (l : Nat → Nat) (w : World) (h : In w g N l) (hN : 1 ≤ N) (hN2 : N ≤ 1000000) (hl : ∀ i, i < N → l i ≤ 1000000000) :
    Calls Tryz.prog 30 #[.slice (some ⟨g, 0, none⟩) N c] w fun e w' => e = .returned (.int .i64 (mxl l N : Int)) ∧ w' = w := by
  have HH := Hid.mk h
  have HLL := Hid.mk hl
  have c0 := h 0 (by omega)
  have d1 : decide ((N : Int) < 1) = false := by simp; omega
  have i0 : (0 : Int) < (N : Int) := by omega
  obtain ⟨x0, e0⟩ : ∃ x, l 0 = x := ⟨_, rfl⟩
  rw [e0] at c0
  have H1 : Hid (mxl l 1 = x0) := Hid.mk (by simp [mxl, e0])
  clear h hl e0
  go_enter Tryz.func30, Tryz.ntmps30
  go_wp2
  clear c0
  go_loop [3, 4] (fun m i => ∃ k y : Nat, 1 ≤ k ∧ k ≤ N ∧ i = .int .i64 (k : Int) ∧ m = .int .i64 (y : Int) ∧ Hid (y = mxl l k ∧ y ≤ 1000000000)) (fun _ i => N - (intOf i).toNat)
  case atStart => exact ⟨1, x0, by omega, hN, rfl, rfl, Hid.mk ⟨H1.out.symm, by rw [← H1.out]; exact mxl_le (fun i hi => HLL.out i (by omega))⟩⟩
  case round =>
    obtain ⟨k, y, hk1, hk, rfl, rfl, HI⟩ := hrel
    by_cases hlt : k < N
    · have ck := HH.out k hlt
      have ik : (k : Int) < (N : Int) := by omega
      have hlk := HLL.out k hlt
      have HS : Hid (mxl l (k + 1) = max (mxl l k) (l k)) := Hid.mk rfl
      obtain ⟨x, ex⟩ : ∃ x, l k = x := ⟨_, rfl⟩
      rw [ex] at ck HS hlk
      have HX := Hid.mk hlk
      have hmx : max (y : Int) (x : Int) = ((max y x : Nat) : Int) := by omega
      clear ex hlk
      go_wp2
      go_round
      case rel => exact ⟨k + 1, max y x, by omega, by omega, by go_num, by first | rfl | (congr 1; omega), Hid.mk ⟨by rw [HS.out, HI.out.1], by have := HI.out.2; have := HX.out; omega⟩⟩
      case measure => simp [intOf]; omega
    · obtain rfl : N = k := by omega
      go_wp2
      go_ret
      exact ⟨ret_int (by rw [HI.out.1]), rfl⟩

set_option maxHeartbeats 4000000 in
theorem tableSize_any (N p : Nat) (w : World) (hN : N ≤ 1000000) (hp : p ≤ 1000) : Calls Tryz.prog 26 #[.int .i64 (N : Int), .int .i64 (p : Int)] w fun e w' => e = .returned (.int .i64 ((8 * N + 4 * p + 4 : Nat) : Int)) ∧ w' = w := by
  go_enter Tryz.func26, Tryz.ntmps26
  go_wp2
  go_ret
  exact ⟨ret_int (by omega), rfl⟩

set_option maxHeartbeats 4000000 in
set_option maxRecDepth 1000000 in
theorem recordLength_any (g N c p : Nat) (l : Nat → Nat) (w : World) (h : In w g N l) (hN : 1 ≤ N) (hN2 : N ≤ 70000) (hp : p ≤ 16) (hl : ∀ i, i < N → l i ≤ 20000000) :
    Calls Tryz.prog 31 #[.slice (some ⟨g, 0, none⟩) N c, .int .i64 (p : Int)] w fun e w' => e = .returned (.int .i64 (rcl l N p : Int)) ∧ w' = w := by
  have HH := Hid.mk h
  have HLL := Hid.mk hl
  have C1 := Hid.mk (fun u => tableSize_any N p u (by omega) (by omega))
  have C2 := Hid.mk (max_any g N c l w h hN (by omega) (fun i hi => Nat.le_trans (hl i hi) (by decide)))
  have HM := Hid.mk (mxl_le hl)
  have HS := Hid.mk (fun k (hk : k ≤ N) => sm_le (fun i hi => hl i (Nat.lt_of_lt_of_le hi hk)))
  obtain ⟨tz, etz⟩ : ∃ t, 8 * N + 4 * p + 4 = t := ⟨_, rfl⟩
  rw [etz] at C1
  have HT := Hid.mk etz
  have htz : tz ≤ 700000 := by omega
  obtain ⟨mx, emx⟩ : ∃ t, mxl l N = t := ⟨_, rfl⟩
  rw [emx] at C2 HM
  have EM := Hid.mk emx
  have HPM : p * mx ≤ 16 * 20000000 := Nat.mul_le_mul hp HM.out
  obtain ⟨pm, epm⟩ : ∃ t, p * mx = t := ⟨_, rfl⟩
  rw [epm] at HPM
  have hpm : wrap64 ((p : Int) * (mx : Int)) = (pm : Int) := by rw [← Int.natCast_mul, epm]; exact Tl.w64_in (by omega) (by omega)
  have EP := Hid.mk epm
  have HP2 := Hid.mk HPM
  clear h hl etz emx epm hp HPM
  go_enter Tryz.func31, Tryz.ntmps31
  go_wp2_with (fail)
  refine (C1.out _).mono ?_
  rintro e w1 ⟨rfl, hw⟩
  obtain rfl := hw.symm
  go_wp2
  go_loop [5, 15] (fun t i => ∃ k y : Nat, k ≤ N ∧ i = .int .i64 (k : Int) ∧ t = .int .i64 (y : Int) ∧ Hid (y = 32 + tz + sm l k)) (fun _ i => N - (intOf i).toNat)
  case atStart => exact ⟨0, 32 + tz, Nat.zero_le _, rfl, by go_num, Hid.mk (by simp [sm])⟩
  case round =>
    obtain ⟨k, y, hk, rfl, rfl, HI⟩ := hrel
    by_cases hlt : k < N
    · have ck := HH.out k hlt
      have ik : (k : Int) < (N : Int) := by omega
      have HB : Hid (y + l k ≤ 2000000000000) := Hid.mk (by
        have h1 := HS.out k (by omega)
        have h2 := HLL.out k hlt
        have h3 := HI.out
        have h4 : k * 20000000 ≤ 70000 * 20000000 := Nat.mul_le_mul_right _ (by omega)
        omega)
      have HSS : Hid (sm l (k + 1) = sm l k + l k) := Hid.mk rfl
      obtain ⟨x, ex⟩ : ∃ x, l k = x := ⟨_, rfl⟩
      rw [ex] at ck HB HSS
      obtain ⟨z, ez⟩ : ∃ z, y + x = z := ⟨_, rfl⟩
      have hz : wrap64 ((y : Int) + (x : Int)) = (z : Int) := by
        have h9 := HB.out
        rw [← Int.natCast_add, ez]; exact Tl.w64_in (by omega) (by omega)
      have EZ := Hid.mk ez
      clear ex ez
      go_wp2
      (try rw [hz])
      clear hz hpm
      go_round
      case rel => exact ⟨k + 1, z, by omega, by go_num, rfl, Hid.mk (by rw [← EZ.out, HSS.out, HI.out]; omega)⟩
      case measure => simp [intOf]; omega
    · obtain rfl : N = k := by omega
      have HB : Hid (y ≤ 2000000000000 ∧ pm ≤ 320000000) := Hid.mk (by
        have h1 := HS.out N (Nat.le_refl _)
        have h3 := HI.out
        have h4 : N * 20000000 ≤ 70000 * 20000000 := Nat.mul_le_mul_right _ (by omega)
        have h5 := HP2.out
        omega)
      have hz : wrap64 ((y : Int) + (pm : Int)) = ((y + pm : Nat) : Int) := by
        have h9 := HB.out
        clear hpm
        rw [← Int.natCast_add]; exact Tl.w64_in (by omega) (by omega)
      go_wp2_with (fail)
      refine C2.out.mono ?_
      rintro e w1 ⟨rfl, hw⟩
      obtain rfl := hw.symm
      go_wp2
      go_ret
      refine ⟨ret_int ?_, rfl⟩
      (try rw [hz])
      clear hz hpm
      have h1 := HI.out
      have h2 := EM.out
      have h3 := EP.out
      have h4 := HT.out
      unfold rcl
      rw [h2, h3, h4, h1]
end Go.Proofs.YthhegomjipbdbaaGreatDoor.Pc
