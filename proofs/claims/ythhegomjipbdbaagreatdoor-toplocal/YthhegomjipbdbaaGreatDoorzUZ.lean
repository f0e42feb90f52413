import Derived.Test.YthhegomjipbdbaaGreatDoorzQZ
import Derived.Test.YthhegomjipbdbaaGreatDoorzRZ
import Derived.Test.YthhegomjipbdbaaGreatDoorrDZ
import Derived.Test.YthhegomjipbdbaaGreatDoorpQZ
namespace Go.Proofs.YthhegomjipbdbaaGreatDoor.Pc
open Go.RowKit

theorem cel17 {w : World} {B t : Nat} {v0 v1 v2 v3 v4 v5 v6 v7 v8 v9 v10 v11 v12 v13 v14 v15 v16 : Value} (h : w.heap[B]? = some (.cells #[v0, v1, v2, v3, v4, v5, v6, v7, v8, v9, v10, v11, v12, v13, v14, v15, v16] t (0, 0))) :
    (w.cell? ⟨B, 0, none⟩ = some v0 ∧ w.cell? ⟨B, 1, none⟩ = some v1 ∧ w.cell? ⟨B, 2, none⟩ = some v2 ∧ w.cell? ⟨B, 3, none⟩ = some v3 ∧ w.cell? ⟨B, 4, none⟩ = some v4) ∧ (w.cell? ⟨B, 5, none⟩ = some v5 ∧ w.cell? ⟨B, 6, none⟩ = some v6 ∧ w.cell? ⟨B, 7, none⟩ = some v7 ∧ w.cell? ⟨B, 8, none⟩ = some v8 ∧ w.cell? ⟨B, 9, none⟩ = some v9) ∧
    (w.cell? ⟨B, 10, none⟩ = some v10 ∧ w.cell? ⟨B, 11, none⟩ = some v11 ∧ w.cell? ⟨B, 12, none⟩ = some v12 ∧ w.cell? ⟨B, 13, none⟩ = some v13 ∧ w.cell? ⟨B, 14, none⟩ = some v14) ∧ w.cell? ⟨B, 15, none⟩ = some v15 ∧ w.cell? ⟨B, 16, none⟩ = some v16 :=
  ⟨⟨cellAt h rfl, cellAt h rfl, cellAt h rfl, cellAt h rfl, cellAt h rfl⟩, ⟨cellAt h rfl, cellAt h rfl, cellAt h rfl, cellAt h rfl, cellAt h rfl⟩, ⟨cellAt h rfl, cellAt h rfl, cellAt h rfl, cellAt h rfl, cellAt h rfl⟩, cellAt h rfl, cellAt h rfl⟩
theorem plc_cong {w : World} {po : Option Addr} {m : Nat} {ln ln' : Nat → Nat} {F : Nat → Nat → Nat} (h : Plc w po m ln F) (e : ∀ i, i < m → ln i = ln' i) : Plc w po m ln' F := by
  rcases h with h | ⟨g, off, e2, hc⟩
  · exact .inl h
  · exact .inr ⟨g, off, e2, fun i hi => by obtain ⟨bo, c, h1, h2, h3⟩ := hc i hi; rw [e i hi] at h1 h2 h3; exact ⟨bo, c, h1, h2, h3⟩⟩
/-- By the same samples in a slice it is coded the same. -/
theorem lcod_swap {W H D sw sh c : Int} {N m k : Nat} {F G : Nat → Nat → Nat} {r : Nat → Int} {X XG : Nat → Nat → Nat × Nat} (hF : Cod W H D sw sh c N m F r X) (hG : Cod W H D sw sh c N m G r XG) (_hk : k < N)
    (he : ∀ q, q < m → ∀ i, i < gH H sh c k * gW W sw c k q → gF W H sw sh c G k q i = gF W H sw sh c F k q i) : Cod W H D sw sh c N m G r (fun j => if j = k then X k else XG j) := by
  intro j hj q hq
  by_cases e : j = k
  · subst e
    obtain ⟨b, hb⟩ := hF j hj q hq
    refine ⟨b, ?_⟩
    simp only [if_true]
    have e9 : fz (gH H sh c j * gW W sw c j q) (gF W H sw sh c G j q) = fz (gH H sh c j * gW W sw c j q) (gF W H sw sh c F j q) := by
      funext i
      unfold fz
      by_cases hi : i < gH H sh c j * gW W sw c j q
      · rw [if_pos hi, if_pos hi, he q hq i hi]
      · rw [if_neg hi, if_neg hi]
    rw [e9]
    exact hb
  · simp only [if_neg e]
    exact hG j hj q hq
/-- What was put in is the same slice. -/
theorem dn_gF {W H sw sh c : Int} {k q : Nat} {F Hf : Nat → Nat → Nat} (h : Dn F Hf (fun q => (Tl.wp W (q : Int)).toNat) (fun q => gX W sw c k q) (fun q => gW W sw c k q) (gY sh c k) (gY sh c k + gH H sh c k) q) (i : Nat) (hi : i < gH H sh c k * gW W sw c k q) :
    gF W H sw sh c Hf k q i = gF W H sw sh c F k q i := by
  have h0 : 0 < gW W sw c k q := by
    rcases Nat.eq_zero_or_pos (gW W sw c k q) with h | h
    · rw [h] at hi; omega
    · exact h
  have h1 : i % gW W sw c k q < gW W sw c k q := Nat.mod_lt _ h0
  have h2 : i / gW W sw c k q < gH H sh c k := Nat.div_lt_of_lt_mul (by rw [Nat.mul_comm]; exact hi)
  have h9 := h (gY sh c k + i / gW W sw c k q) (gX W sw c k q + i % gW W sw c k q) (Nat.le_add_right _ _) (Nat.add_lt_add_left h2 _) (Nat.le_add_right _ _) (Nat.add_lt_add_left h1 _)
  unfold gF bsm
  rw [Nat.add_assoc ((gY sh c k + i / gW W sw c k q) * (Tl.wp W (q : Int)).toNat)]
  exact h9
/-- A slice's part of a plane. -/
theorem tpart_slice {W H D sw sh : Int} {A : Bool} {k : Nat} (g : Tl.Gd W H sw sh (Tl.cl W sw) (Tl.cl H sh)) (k1 : (k : Int) < Tl.cl W sw * Tl.cl H sh) (q : Nat) (u : World) :
    Calls Tryz.prog 40 #[Tl.shv W H D A, .int .i64 (q : Int), Tl.rcv (Tl.sX (Tl.cl W sw) sw (k : Int)) (Tl.sY (Tl.cl W sw) sh (k : Int)) (min sw (W - Tl.sX (Tl.cl W sw) sw (k : Int))) (min sh (H - Tl.sY (Tl.cl W sw) sh (k : Int)))] u fun e w' => e = .returned (.tuple #[Tl.rcv (gX W sw (Tl.cl W sw) k q : Int) (gY sh (Tl.cl W sw) k : Int) (gW W sw (Tl.cl W sw) k q : Int) (gH H sh (Tl.cl W sw) k : Int), .int .i64 ((Tl.wp W (q : Int)).toNat : Int)]) ∧ Kept [] u w' := by
  obtain ⟨p1, p2, p3, p4, _⟩ := part_in g k1 q
  have hx := Tl.sX_in g (k : Int)
  have hw := g.w1
  have hw0 := g.w0
  have ht := g.s0
  have ht1 := g.s1
  rw [p1, p2, p3, p4]
  unfold ph pw
  obtain ⟨x, ex⟩ : ∃ x, Tl.sX (Tl.cl W sw) sw (k : Int) = x := ⟨_, rfl⟩
  rw [ex] at hx ⊢
  have ha : 0 ≤ min sw (W - x) ∧ min sw (W - x) ≤ 4096 := by omega
  have hwp : 0 ≤ Tl.wp W (q : Int) := by have := Tl.wp_lo (q : Int) (show 1 ≤ W by omega); omega
  rw [Int.toNat_of_nonneg hwp]
  by_cases h : (q : Int) = 1 ∨ (q : Int) = 2
  · have h9 := tpart_half W H D A (q : Int) x (Tl.sY (Tl.cl W sw) sh (k : Int)) (min sw (W - x)) (min sh (H - Tl.sY (Tl.cl W sw) sh (k : Int))) u h (by omega) (by omega) ha
    have e1 : Tl.bX (q : Int) x = x / 2 := by unfold Tl.bX; rw [if_pos h]
    have e2 : Tl.bW (q : Int) (min sw (W - x)) = (min sw (W - x) + 1) / 2 := by unfold Tl.bW Tl.hf; rw [if_pos h]; omega
    have e3 : Tl.wp W (q : Int) = (W + 1) / 2 := by unfold Tl.wp Tl.hf; rw [if_pos h]; omega
    rw [e1, e2, e3]
    exact h9
  · have h9 := tpart_full W H D A (q : Int) x (Tl.sY (Tl.cl W sw) sh (k : Int)) (min sw (W - x)) (min sh (H - Tl.sY (Tl.cl W sw) sh (k : Int))) u (fun e => h (.inl e)) (fun e => h (.inr e))
    have e1 : Tl.bX (q : Int) x = x := by unfold Tl.bX; rw [if_neg h]
    have e2 : Tl.bW (q : Int) (min sw (W - x)) = min sw (W - x) := by unfold Tl.bW; rw [if_neg h]
    have e3 : Tl.wp W (q : Int) = W := by unfold Tl.wp; rw [if_neg h]
    rw [e1, e2, e3]
    exact h9
theorem recB_byts {W H D sw sh : Nat} {A : Bool} {r : Nat → Nat} {p : Nat} {L R : List (List Nat)} (hL : ∀ l ∈ L, Byts l) (hR : ∀ l ∈ R, Byts l) : Byts (recB W H D sw sh A r p L R) := by
  intro b hb
  unfold recB at hb
  rcases List.mem_append.1 hb with h | h
  · unfold hdB at h
    rcases List.mem_append.1 h with h | h
    · exact fds_byts _ b h
    · exact big_lt _ _ b h
  · rcases List.mem_append.1 h with h | h
    · unfold tbB tbA at h
      rcases List.mem_append.1 h with h | h
      · rcases List.mem_append.1 h with h | h
        · exact fds_byts _ b h
        · exact fds_byts _ b h
      · exact big_lt _ _ b h
    · rcases List.mem_append.1 h with h | h
      · obtain ⟨l, h1, h2⟩ := List.mem_flatten.1 h
        exact hL l h1 b h2
      · obtain ⟨l, h1, h2⟩ := List.mem_flatten.1 h
        exact hR l h1 b h2
/-- entry of a record that At makes. -/
theorem entry_rec {W H D : Int} {A : Bool} {m : Nat} {ln : Nat → Nat} {F : Nat → Nat → Nat} {sw sh cap : Int} {n pn N : Nat} {L : Nat → Nat → Int} {X : Nat → Nat → Nat → Nat × Nat}
    (hv : Tl.Vld W H D A m ln F) (hc : Cfg W H D A sw sh n L cap (pn : Int)) (hN : N = (Tl.cl W sw * Tl.cl H sh).toNat) (hX : ∀ i, i < n → Cod W H D sw sh (Tl.cl W sw) N m F (L i) (X i)) {i : Nat} (hi : i < n) {k : Nat} (hk : k < N)
    (bo : Option Addr) (c : Nat) (w : World) (B : Nat)
    (ho : w.ownsRow B 5 1 (.slice bo (rcl (lnf (psv N m (X i))) N pn) c) (rcl (lnf (psv N m (X i))) N pn) ((recB W.toNat H.toNat D.toNat sw.toNat sh.toNat A (fun j => (L i j).toNat) pn (psv N m (X i)) (parR (psv N m (X i)) pn)).map byt)) :
    ∃ g, bo = some ⟨g, 0, none⟩ ∧ ∀ u, Kept [] w u → Calls Tryz.prog 19 #[.slice (some ⟨g, 0, none⟩) (rcl (lnf (psv N m (X i))) N pn) c, .int .i64 (k : Int)] u fun e w' => ∃ a c, e = .returned (.tuple #[.slice (some ⟨g, a, none⟩) (payL (X i k) m).length c, .bool true]) ∧ Reads w' (some ⟨g, a, none⟩) (payL (X i k) m) ∧ Kept [] u w' := by
  have g := hc.gd
  have hcr : 1 ≤ Tl.cl W sw * Tl.cl H sh ∧ Tl.cl W sw * Tl.cl H sh ≤ 65536 := by
    have h1 : 1 * 1 ≤ Tl.cl W sw * Tl.cl H sh := Int.mul_le_mul g.c0 g.r0 (by omega) (by have := g.c0; omega)
    have h2 : Tl.cl W sw * Tl.cl H sh ≤ 256 * 256 := Int.mul_le_mul g.c1 g.r1 (by have := g.r0; omega) (by omega)
    omega
  have hpm := hc.pr
  unfold pmb at hpm
  have hpm := of_decide_eq_true hpm
  have hld := (lmb_yes.1 hc.ld).2 i hi
  have hrr : ∀ q, q < 4 → 0 ≤ L i q ∧ L i q ≤ 63 := fun q hq => rmb_tol hld hq
  have hm3 : 3 ≤ m := by rw [hv.num]; exact Tl.np_lo A
  have htot := hv.shp.2.2.2
  have hpay : ∀ k, k < N → 1 ≤ lnf (psv N m (X i)) k ∧ lnf (psv N m (X i)) k ≤ 16777215 := fun k hk => by
    have h1 := (pay_le hv g (by omega) hrr (hX i hi) hk).1
    have h2 := (pzs_le hv.shp g (k := k) (by omega)).2
    have h3 := List.length_pos_iff.2 (pay_lo (m := m) (X i k) (by omega))
    unfold lnf
    rw [psv_at hk]
    rw [hv.num] at h1 h3 ⊢
    omega
  have htop := (rcl_hi hv hc hN hX hi).2
  have hlen : (recB W.toNat H.toNat D.toNat sw.toNat sh.toNat A (fun j => (L i j).toNat) pn (psv N m (X i)) (parR (psv N m (X i)) pn)).length = rcl (lnf (psv N m (X i))) N pn := by rw [recB_len, psv_len]
  have hb9 := rcl_hi hv hc hN hX hi
  obtain ⟨M, eM⟩ : ∃ M, rcl (lnf (psv N m (X i))) N pn = M := ⟨_, rfl⟩
  have hR := rgt_rec hv hc hN hX hi
  have hrd := reads_row ho
  rw [eM] at ho hb9 htop hlen ⊢
  obtain ⟨gb, ebo, hc9⟩ : ∃ gb, bo = some ⟨gb, 0, none⟩ ∧ M ≤ c ∧ c ≤ maxLen := by
    rcases ho.2 with ⟨h1, h2⟩ | ⟨g', c', cur, h1, h2, h3, h4, h5, h6, h7⟩
    · omega
    · cases h1; exact ⟨g', rfl, h4, h5⟩
  subst ebo
  refine ⟨gb, rfl, fun u ku => ?_⟩
  have hmem : ∀ l ∈ psv N m (X i), Byts l := fun l hl => by
    unfold psv at hl
    obtain ⟨j, hj, rfl⟩ := List.mem_map.1 hl
    exact (pay_le hv g (by omega) hrr (hX i hi) (List.mem_range.1 hj)).2
  have hmem2 : ∀ l ∈ parR (psv N m (X i)) pn, Byts l := fun l hl => by
    obtain ⟨j, hj, rfl⟩ := List.getElem_of_mem hl
    have h1 : j < pn := by rw [parR_len] at hj; exact hj
    have h2 := parR_byts (L := psv N m (X i)) h1
    rw [List.getD_eq_getElem?_getD, List.getElem?_eq_getElem hj] at h2
    exact h2
  have hW := hv.shp.1.2
  have hH := hv.shp.2.1.2
  have hD := hv.shp.2.2.1
  have hsd := hc.sd
  have h9 := tentry_any W.toNat H.toNat D.toNat sw.toNat sh.toNat A (fun j => (L i j).toNat) N pn (psv N m (X i)) (parR (psv N m (X i)) pn) k gb 0 M c u (psv_len ..) (parR_len ..) (by omega) (by omega) (by omega) (by omega) (by omega) (fun j hj => by have := hrr j hj; show (L i j).toNat < 256; omega) (by omega) (by omega) (by omega) hR (recB_byts hmem hmem2) hpay hk (hrd.keep ku) hlen htop hc9.1 (by have := hc9.2; unfold maxLen at this; omega)
  have e1 : lnf (psv N m (X i)) k = (payL (X i k) m).length := by unfold lnf; rw [psv_at hk]
  rw [e1, psv_at hk] at h9
  exact h9
end Go.Proofs.YthhegomjipbdbaaGreatDoor.Pc

namespace Go.Proofs.YthhegomjipbdbaaGreatDoor.Pc
open Go.RowKit

set_option maxHeartbeats 4000000 in
set_option maxRecDepth 1000000 in
theorem local_apart (W H D : Int) (A : Bool) (po : Option Addr) (m d : Nat) (W2 H2 D2 : Int) (A2 : Bool) (qo : Option Addr) (m2 d2 : Nat) (sw sh : Int) (lo : Option Addr) (n c : Nat) (cap p K S : Int) (w : World) (hne : ¬ (W = W2 ∧ H = H2 ∧ D = D2 ∧ A = A2)) :
    Calls Tryz.prog 4 #[.agg #[.int .i64 W, .int .i64 H, .int .i64 D, .bool A, .slice po m d, .int .i64 W2, .int .i64 H2, .int .i64 D2, .bool A2, .slice qo m2 d2, .int .i64 sw, .int .i64 sh, .slice lo n c, .int .i64 cap, .int .i64 p, .int .i64 K, .int .i64 S]] w fun e w' => e = .returned (.bool true) ∧ Kept [] w w' := by
  obtain ⟨w1, e1⟩ : ∃ w1, w.alloc (.cells #[.int .i64 W, .int .i64 H, .int .i64 D, .bool A, .slice po m d, .int .i64 W2, .int .i64 H2, .int .i64 D2, .bool A2, .slice qo m2 d2, .int .i64 sw, .int .i64 sh, .slice lo n c, .int .i64 cap, .int .i64 p, .int .i64 K, .int .i64 S] 47 (0, 0)) = w1 := ⟨_, rfl⟩
  obtain ⟨B, eB⟩ : ∃ B, w.heap.size = B := ⟨_, rfl⟩
  have K1 : Hid (Kept [] w w1) := Hid.mk (by rw [← e1]; exact (Kept.refl [] w).alloc _)
  have HB := Hid.mk (show w1.heap[B]? = some (.cells #[.int .i64 W, .int .i64 H, .int .i64 D, .bool A, .slice po m d, .int .i64 W2, .int .i64 H2, .int .i64 D2, .bool A2, .slice qo m2 d2, .int .i64 sw, .int .i64 sh, .slice lo n c, .int .i64 cap, .int .i64 p, .int .i64 K, .int .i64 S] 47 (0, 0)) by rw [← e1, ← eB]; exact heap_alloc_new _ _)
  have RK := Hid.mk (fun u (ku : Kept [] w1 u) => cel17 (ku.heap HB.out (by simp)))
  obtain ⟨⟨a0, a1, a2, a3, a4⟩, ⟨b0, b1, b2, b3, b4⟩, ⟨c0, c1, c2, c3, c4⟩, x15, x16⟩ := RK.out w1 (Kept.refl [] _)
  by_cases h1 : W = W2
  · subst h1
    by_cases h2 : H = H2
    · subst h2
      by_cases h3 : D = D2
      · subst h3
        have h4 : A ≠ A2 := fun h => hne ⟨rfl, rfl, rfl, h⟩
        have n4 : (A == A2) = false := by simp [h4]
        clear hne
        go_enter Tryz.func4, Tryz.ntmps4
        go_wp2
        go_ret
        exact ⟨rfl, K1.out⟩
      · have n3 : (D == D2) = false := by simp [h3]
        clear hne
        go_enter Tryz.func4, Tryz.ntmps4
        go_wp2
        go_ret
        exact ⟨rfl, K1.out⟩
    · have n2 : (H == H2) = false := by simp [h2]
      clear hne
      go_enter Tryz.func4, Tryz.ntmps4
      go_wp2
      go_ret
      exact ⟨rfl, K1.out⟩
  · have n1 : (W == W2) = false := by simp [h1]
    clear hne
    go_enter Tryz.func4, Tryz.ntmps4
    go_wp2
    go_ret
    exact ⟨rfl, K1.out⟩

set_option maxHeartbeats 8000000 in
set_option maxRecDepth 1000000 in
theorem local_no (W H D : Int) (A : Bool) (po : Option Addr) (m d : Nat) (qo : Option Addr) (m2 d2 : Nat) (sw sh : Int) (lo : Option Addr) (n c : Nat) (cap p K S : Int) (r1 r2 : Bool) (w : World) (hr : r1 = false ∨ r2 = false)
    (h1 : ∀ u, Kept [] w u → Calls Tryz.prog 12 #[Tl.frv W H D A po m d, cfv sw sh lo n c cap p] u fun e w' => e = .returned (.bool r1) ∧ Kept [] u w')
    (h2 : ∀ u, Kept [] w u → Calls Tryz.prog 12 #[Tl.frv W H D A qo m2 d2, cfv sw sh lo n c cap p] u fun e w' => e = .returned (.bool r2) ∧ Kept [] u w') :
    Calls Tryz.prog 4 #[.agg #[.int .i64 W, .int .i64 H, .int .i64 D, .bool A, .slice po m d, .int .i64 W, .int .i64 H, .int .i64 D, .bool A, .slice qo m2 d2, .int .i64 sw, .int .i64 sh, .slice lo n c, .int .i64 cap, .int .i64 p, .int .i64 K, .int .i64 S]] w fun e w' => e = .returned (.bool true) ∧ Kept [] w w' := by
  obtain ⟨w1, e1⟩ : ∃ w1, w.alloc (.cells #[.int .i64 W, .int .i64 H, .int .i64 D, .bool A, .slice po m d, .int .i64 W, .int .i64 H, .int .i64 D, .bool A, .slice qo m2 d2, .int .i64 sw, .int .i64 sh, .slice lo n c, .int .i64 cap, .int .i64 p, .int .i64 K, .int .i64 S] 47 (0, 0)) = w1 := ⟨_, rfl⟩
  obtain ⟨B, eB⟩ : ∃ B, w.heap.size = B := ⟨_, rfl⟩
  have K1 : Hid (Kept [] w w1) := Hid.mk (by rw [← e1]; exact (Kept.refl [] w).alloc _)
  have HB := Hid.mk (show w1.heap[B]? = some (.cells #[.int .i64 W, .int .i64 H, .int .i64 D, .bool A, .slice po m d, .int .i64 W, .int .i64 H, .int .i64 D, .bool A, .slice qo m2 d2, .int .i64 sw, .int .i64 sh, .slice lo n c, .int .i64 cap, .int .i64 p, .int .i64 K, .int .i64 S] 47 (0, 0)) by rw [← e1, ← eB]; exact heap_alloc_new _ _)
  have RK := Hid.mk (fun u (ku : Kept [] w1 u) => cel17 (ku.heap HB.out (by simp)))
  obtain ⟨⟨a0, a1, a2, a3, a4⟩, ⟨b0, b1, b2, b3, b4⟩, ⟨c0, c1, c2, c3, c4⟩, x15, x16⟩ := RK.out w1 (Kept.refl [] _)
  have C1 := Hid.mk h1
  have C2 := Hid.mk h2
  clear h1 h2
  go_enter Tryz.func4, Tryz.ntmps4
  go_wp2_with (fail)
  clear e1 eB
  refine (C1.out _ K1.out).mono ?_
  rintro e w2 ⟨rfl, k2⟩
  have K2 := Hid.mk k2
  clear a0 a1 a2 a3 a4 b0 b1 b2 b3 b4 c0 c1 c2 c3 c4 x15 x16 k2
  obtain ⟨⟨a0, a1, a2, a3, a4⟩, ⟨b0, b1, b2, b3, b4⟩, ⟨c0, c1, c2, c3, c4⟩, x15, x16⟩ := RK.out _ K2.out
  go_wp2_with (fail)
  refine (C2.out _ (K1.out.trans K2.out)).mono ?_
  rintro e w3 ⟨rfl, k3⟩
  have K3 := Hid.mk (K1.out.trans (K2.out.trans k3))
  clear a0 a1 a2 a3 a4 b0 b1 b2 b3 b4 c0 c1 c2 c3 c4 x15 x16 k3
  rcases hr with rfl | rfl
  · go_wp2
    go_ret
    exact ⟨rfl, K3.out⟩
  · cases r1
    · go_wp2
      go_ret
      exact ⟨rfl, K3.out⟩
    · go_wp2
      go_ret
      exact ⟨rfl, K3.out⟩

def PutPost (w1 : World) (OB lg gc m : Nat) (W H D : Int) (A : Bool) (ln : Nat → Nat) (F G Hf : Nat → Nat → Nat) (wd X bw : Nat → Nat) (Y ye : Nat) (wc : World) : Prop :=
  wc.heap[OB]? = some (.cells #[.int .i64 W, .int .i64 H, .int .i64 D, .bool A, .slice (some ⟨lg, 0, none⟩) m gc] 42 (0, 0)) ∧ Plc wc (some ⟨lg, 0, none⟩) m ln Hf ∧ (∀ q i, Hf q i = F q i ∨ Hf q i = G q i) ∧ (∀ q, q < m → Dn F Hf wd X bw Y ye q) ∧ Kept [] w1 wc
theorem gz_plc {B : Nat} {w : World} {lg gc m : Nat} {gs cs ln : Nat → Nat} {F : Nat → Nat → Nat} (h : Tl.Gz B w (.slice (some ⟨lg, 0, none⟩) m gc) m gs cs ln F) : Plc w (some ⟨lg, 0, none⟩) m ln F := by
  obtain ⟨ao, c, e, hp⟩ := h.pc
  cases e
  exact hp
/-- A frame's box is written. -/
theorem fin_put {w1 u : World} {X B lg gc m : Nat} {W H D : Int} {A : Bool} {gs cs ln : Nat → Nat} {F : Nat → Nat → Nat} (hb : u.heap[X]? = some (.cells #[.int .i64 0, .int .i64 0, .int .i64 0, .bool false, .slice none 0 0] 42 (0, 0))) (hB : w1.heap.size ≤ X) (hk : Kept [] w1 u) (hX : X < B) (hz : Tl.Gz B u (.slice (some ⟨lg, 0, none⟩) m gc) m gs cs ln F) :
    (((((u.setCell ⟨X, 0, none⟩ (.int .i64 W)).setCell ⟨X, 1, none⟩ (.int .i64 H)).setCell ⟨X, 2, none⟩ (.int .i64 D)).setCell ⟨X, 3, none⟩ (.bool A)).setCell ⟨X, 4, none⟩ (.slice (some ⟨lg, 0, none⟩) m gc)).heap[X]? = some (.cells #[.int .i64 W, .int .i64 H, .int .i64 D, .bool A, .slice (some ⟨lg, 0, none⟩) m gc] 42 (0, 0)) ∧ Plc (((((u.setCell ⟨X, 0, none⟩ (.int .i64 W)).setCell ⟨X, 1, none⟩ (.int .i64 H)).setCell ⟨X, 2, none⟩ (.int .i64 D)).setCell ⟨X, 3, none⟩ (.bool A)).setCell ⟨X, 4, none⟩ (.slice (some ⟨lg, 0, none⟩) m gc)) (some ⟨lg, 0, none⟩) m ln F ∧ Kept [] w1 (((((u.setCell ⟨X, 0, none⟩ (.int .i64 W)).setCell ⟨X, 1, none⟩ (.int .i64 H)).setCell ⟨X, 2, none⟩ (.int .i64 D)).setCell ⟨X, 3, none⟩ (.bool A)).setCell ⟨X, 4, none⟩ (.slice (some ⟨lg, 0, none⟩) m gc)) := by
  have q5 := Tl.set5 (.int .i64 W) (.int .i64 H) (.int .i64 D) (.bool A) (.slice (some ⟨lg, 0, none⟩) m gc) hb
  exact ⟨q5.1, gz_plc (hz.keep q5.2 (fun x hx => by simp at hx; omega)), hk.step q5.2 (fun x hx => by simp at hx; subst hx; exact .inr hB)⟩
theorem fin_put2 {w1 u : World} {X lg gc m : Nat} {W H D : Int} {A : Bool} {ln : Nat → Nat} {F : Nat → Nat → Nat} (hX : u.heap.size = X) (hk : Kept [] w1 u) (hz : Plc u (some ⟨lg, 0, none⟩) m ln F) :
    ((((((u.alloc (.cells #[.int .i64 0, .int .i64 0, .int .i64 0, .bool false, .slice none 0 0] 42 (0, 0))).setCell ⟨X, 0, none⟩ (.int .i64 W)).setCell ⟨X, 1, none⟩ (.int .i64 H)).setCell ⟨X, 2, none⟩ (.int .i64 D)).setCell ⟨X, 3, none⟩ (.bool A)).setCell ⟨X, 4, none⟩ (.slice (some ⟨lg, 0, none⟩) m gc)).heap[X]? = some (.cells #[.int .i64 W, .int .i64 H, .int .i64 D, .bool A, .slice (some ⟨lg, 0, none⟩) m gc] 42 (0, 0)) ∧ Plc ((((((u.alloc (.cells #[.int .i64 0, .int .i64 0, .int .i64 0, .bool false, .slice none 0 0] 42 (0, 0))).setCell ⟨X, 0, none⟩ (.int .i64 W)).setCell ⟨X, 1, none⟩ (.int .i64 H)).setCell ⟨X, 2, none⟩ (.int .i64 D)).setCell ⟨X, 3, none⟩ (.bool A)).setCell ⟨X, 4, none⟩ (.slice (some ⟨lg, 0, none⟩) m gc)) (some ⟨lg, 0, none⟩) m ln F ∧ Kept [] w1 ((((((u.alloc (.cells #[.int .i64 0, .int .i64 0, .int .i64 0, .bool false, .slice none 0 0] 42 (0, 0))).setCell ⟨X, 0, none⟩ (.int .i64 W)).setCell ⟨X, 1, none⟩ (.int .i64 H)).setCell ⟨X, 2, none⟩ (.int .i64 D)).setCell ⟨X, 3, none⟩ (.bool A)).setCell ⟨X, 4, none⟩ (.slice (some ⟨lg, 0, none⟩) m gc)) := by
  have hb : (u.alloc (.cells #[.int .i64 0, .int .i64 0, .int .i64 0, .bool false, .slice none 0 0] 42 (0, 0))).heap[X]? = some (.cells #[.int .i64 0, .int .i64 0, .int .i64 0, .bool false, .slice none 0 0] 42 (0, 0)) := by rw [← hX]; exact heap_alloc_new _ _
  have q5 := Tl.set5 (.int .i64 W) (.int .i64 H) (.int .i64 D) (.bool A) (.slice (some ⟨lg, 0, none⟩) m gc) hb
  have ks : Kept [] u ((((((u.alloc (.cells #[.int .i64 0, .int .i64 0, .int .i64 0, .bool false, .slice none 0 0] 42 (0, 0))).setCell ⟨X, 0, none⟩ (.int .i64 W)).setCell ⟨X, 1, none⟩ (.int .i64 H)).setCell ⟨X, 2, none⟩ (.int .i64 D)).setCell ⟨X, 3, none⟩ (.bool A)).setCell ⟨X, 4, none⟩ (.slice (some ⟨lg, 0, none⟩) m gc)) := ((Kept.refl [] u).alloc _).step q5.2 (fun x hx => by simp at hx; subst hx; exact .inr (by omega))
  exact ⟨q5.1, hz.keep ks, hk.trans ks⟩

set_option maxHeartbeats 32000000 in
set_option maxRecDepth 1000000 in
theorem local_yes (W H D : Int) (A : Bool) (po : Option Addr) (m d : Nat) (qo : Option Addr) (d2 : Nat) (ln : Nat → Nat) (F G : Nat → Nat → Nat) (sw sh : Int) (lo : Option Addr) (n c : Nat) (L : Nat → Nat → Int) (cap p K S : Int) (w : World) (hT : Tab w)
    (hv : Tl.Vld W H D A m ln F) (hv2 : Tl.Vld W H D A m ln G) (hc : Cfg W H D A sw sh n L cap p) (hP : Plc w po m ln F) (hQ : Plc w qo m ln G) (hF : ∀ i, i < m → ∀ j, j < ln i → F i j < 65536) (hG : ∀ i, i < m → ∀ j, j < ln i → G i j < 65536) (hL : Ldr w lo n L)
    (hK : -9223372036854775808 ≤ K ∧ K ≤ 9223372036854775807) (hS : -9223372036854775808 ≤ S ∧ S ≤ 9223372036854775807) :
    Calls Tryz.prog 4 #[.agg #[.int .i64 W, .int .i64 H, .int .i64 D, .bool A, .slice po m d, .int .i64 W, .int .i64 H, .int .i64 D, .bool A, .slice qo m d2, .int .i64 sw, .int .i64 sh, .slice lo n c, .int .i64 cap, .int .i64 p, .int .i64 K, .int .i64 S]] w fun e w' => e = .returned (.bool true) ∧ Kept [] w w' := by
  have g := hc.gd
  have hm4 : m ≤ 4 := by rw [hv.num]; exact Tl.np_hi A
  have hm3 : 3 ≤ m := by rw [hv.num]; exact Tl.np_lo A
  have hld := lmb_yes.1 hc.ld
  have hn9 : n ≤ 9223372036854775807 := by omega
  have hpr : 0 ≤ p ∧ p ≤ 16 := by have h9 := hc.pr; unfold pmb at h9; exact (of_decide_eq_true h9).1
  obtain ⟨pn, rfl⟩ : ∃ pn : Nat, p = (pn : Int) := ⟨p.toNat, by omega⟩
  have hcr : 1 ≤ Tl.cl W sw * Tl.cl H sh ∧ Tl.cl W sw * Tl.cl H sh ≤ 65536 := by
    have h1 : 1 * 1 ≤ Tl.cl W sw * Tl.cl H sh := Int.mul_le_mul g.c0 g.r0 (by omega) (by have := g.c0; omega)
    have h2 : Tl.cl W sw * Tl.cl H sh ≤ 256 * 256 := Int.mul_le_mul g.c1 g.r1 (by have := g.r0; omega) (by omega)
    omega
  obtain ⟨N, eN⟩ : ∃ N : Nat, Tl.cl W sw * Tl.cl H sh = (N : Int) := ⟨_, (Int.toNat_of_nonneg (by omega)).symm⟩
  have hNN : N = (Tl.cl W sw * Tl.cl H sh).toNat := by rw [eN]; rfl
  have hk0 := tpick_lo K (N : Int) (by omega)
  have hk1 := tpick_hi K (N : Int) (by omega)
  obtain ⟨k, ek⟩ : ∃ k : Nat, tpick K (N : Int) = (k : Int) := ⟨_, (Int.toNat_of_nonneg hk0).symm⟩
  have hkN : k < N := by omega
  have hi0 := tpick_lo S (n : Int) (by omega)
  have hi1 := tpick_hi S (n : Int) (by omega)
  obtain ⟨i, ei⟩ : ∃ i : Nat, tpick S (n : Int) = (i : Int) := ⟨_, (Int.toNat_of_nonneg hi0).symm⟩
  have hin : i < n := by omega
  have hln : ∀ i, i < m → ln i ≤ 4194304 := fun i hi => by
    have h1 := hv.len i hi
    have h2 := wp_tot hv.shp (q := i) (by rw [← hv.num]; exact hi)
    omega
  have hln9 : ∀ i, i < m → ln i ≤ 9223372036854775807 := fun i hi => by have := hln i hi; omega
  have hX0 : ∀ i, ∃ X, Cod W H D sw sh (Tl.cl W sw) N m F (L i) X := fun i => cod_ex hv g (by omega) (L i)
  have hX := fun i => (hX0 i).choose_spec
  obtain ⟨XF, eXF⟩ : ∃ XF, XF = fun i => (hX0 i).choose := ⟨_, rfl⟩
  have HXF : Hid (∀ i, i < n → Cod W H D sw sh (Tl.cl W sw) N m F (L i) (XF i)) := Hid.mk (fun i _ => by rw [eXF]; exact hX i)
  clear eXF hX hX0
  obtain ⟨w1, e1⟩ : ∃ w1, w.alloc (.cells #[.int .i64 W, .int .i64 H, .int .i64 D, .bool A, .slice po m d, .int .i64 W, .int .i64 H, .int .i64 D, .bool A, .slice qo m d2, .int .i64 sw, .int .i64 sh, .slice lo n c, .int .i64 cap, .int .i64 (pn : Int), .int .i64 K, .int .i64 S] 47 (0, 0)) = w1 := ⟨_, rfl⟩
  obtain ⟨B, eB⟩ : ∃ B, w.heap.size = B := ⟨_, rfl⟩
  have K1 : Hid (Kept [] w w1) := Hid.mk (by rw [← e1]; exact (Kept.refl [] w).alloc _)
  have HB := Hid.mk (show w1.heap[B]? = some (.cells #[.int .i64 W, .int .i64 H, .int .i64 D, .bool A, .slice po m d, .int .i64 W, .int .i64 H, .int .i64 D, .bool A, .slice qo m d2, .int .i64 sw, .int .i64 sh, .slice lo n c, .int .i64 cap, .int .i64 (pn : Int), .int .i64 K, .int .i64 S] 47 (0, 0)) by rw [← e1, ← eB]; exact heap_alloc_new _ _)
  have RK := Hid.mk (fun u (ku : Kept [] w1 u) => cel17 (ku.heap HB.out (by simp)))
  obtain ⟨⟨a0, a1, a2, a3, a4⟩, ⟨b0, b1, b2, b3, b4⟩, ⟨c0, c1, c2, c3, c4⟩, x15, x16⟩ := RK.out w1 (Kept.refl [] _)
  have hjz : Tl.vE W H D A m ln F = 0 ∧ cfE W H D A sw sh n L cap (pn : Int) = 0 := ⟨Tl.vE_zero.2 hv, cfE_zero.2 hc⟩
  have hjz2 : Tl.vE W H D A m ln G = 0 ∧ cfE W H D A sw sh n L cap (pn : Int) = 0 := ⟨Tl.vE_zero.2 hv2, cfE_zero.2 hc⟩
  have C1 := Hid.mk (fun u (ku : Kept [] w u) => right_any W H D A po m d ln F sw sh lo n c L cap (pn : Int) u (hP.pl.keep ku) (by omega) hln9 hF (hL.keep ku) hn9)
  have C2 := Hid.mk (fun u (ku : Kept [] w u) => right_any W H D A qo m d2 ln G sw sh lo n c L cap (pn : Int) u (hQ.pl.keep ku) (by omega) hln9 hG (hL.keep ku) hn9)
  rw [decide_eq_true hjz] at C1
  rw [decide_eq_true hjz2] at C2
  have C3 := Hid.mk (fun u => tgrid_any W H D A sw sh lo n c cap (pn : Int) (Tl.cl W sw) (Tl.cl H sh) u g rfl rfl)
  rw [eN] at C3
  have CK := Hid.mk (fun u => tpick_any K (N : Int) u hK.1 hK.2 (by omega))
  rw [ek] at CK
  have CS := Hid.mk (fun u => tpick_any S (n : Int) u hS.1 hS.2 (by omega))
  rw [ei] at CS
  have CPl := Hid.mk (fun u => tplace_any W H D A sw sh lo n c cap (pn : Int) (Tl.cl W sw) (Tl.cl H sh) (k : Int) u g rfl rfl (by omega) (by omega))
  have CPu := Hid.mk (fun u (ku : Kept [] w u) => tput_any W H D A qo po m d2 d ln F G (Tl.sX (Tl.cl W sw) sw (k : Int)) (Tl.sY (Tl.cl W sw) sh (k : Int)) (min sw (W - Tl.sX (Tl.cl W sw) sw (k : Int))) (min sh (H - Tl.sY (Tl.cl W sw) sh (k : Int))) (fun q => (Tl.wp W (q : Int)).toNat) (fun q => gX W sw (Tl.cl W sw) k q) (fun q => gW W sw (Tl.cl W sw) k q) (gY sh (Tl.cl W sw) k) (gH H sh (Tl.cl W sw) k) H.toNat u (hQ.keep ku) (hP.keep ku) (by omega) (fun q hq => by
    obtain ⟨p1, p2, p3, p4, p5, p6, p7, p8⟩ := part_in g (k := k) (by omega) q
    have hw0 := Tl.wp_lo (q : Int) hv.shp.1.1
    have hw1 := Tl.wp_hi (q : Int) hv.shp.1.1
    have h1 := hv.len q hq
    have h3 := hv.shp
    have h4 : 1 * 1 ≤ Tl.wp W (q : Int) * H := Int.mul_le_mul (by omega) (by have := h3.2.1.1; omega) (by omega) (by omega)
    have h2 : ((Tl.wp W (q : Int)).toNat * H.toNat : Int) = Tl.wp W (q : Int) * H := by
      rw [Int.toNat_of_nonneg (by omega), Int.toNat_of_nonneg (by have := hv.shp.2.1.1; omega)]
    exact ⟨p5, by omega, by have := h3.1.2; show (Tl.wp W (q : Int)).toNat ≤ 4096; omega, by omega⟩) (part_in g (k := k) (by omega) 0).2.2.2.2.2.1 (by have := hv.shp.2.1.2; omega) (fun q _ u => tpart_slice g (by omega) q u))
  obtain ⟨rx, erx⟩ : ∃ x, Tl.sX (Tl.cl W sw) sw (k : Int) = x := ⟨_, rfl⟩
  obtain ⟨ry, ery⟩ : ∃ x, Tl.sY (Tl.cl W sw) sh (k : Int) = x := ⟨_, rfl⟩
  rw [erx, ery] at CPl CPu
  obtain ⟨rw', erw⟩ : ∃ x, min sw (W - rx) = x := ⟨_, rfl⟩
  obtain ⟨rh, erh⟩ : ∃ x, min sh (H - ry) = x := ⟨_, rfl⟩
  rw [erw, erh] at CPl CPu
  have CA := Hid.mk (fun po' d' G' XX u (hvG : Tl.Vld W H D A m ln G') (hXX : Cod W H D sw sh (Tl.cl W sw) N m G' (L i) XX) (hPG : Plc u po' m ln G') (hLu : Ldr u lo n L) (hTu : Tab u) => Payload_ok W H D A po' m d' ln G' sw sh lo n c L cap (pn : Int) N (L i) XX k u hvG hc (by omega) hln9 hLu hn9 hNN (hld.2 i hin) hXX hPG hTu hkN)
  have CB := Hid.mk (fun po' d' G' (XX : Nat → Nat → Nat → Nat × Nat) u (hvG : Tl.Vld W H D A m ln G') (hXX : ∀ i, i < n → Cod W H D sw sh (Tl.cl W sw) N m G' (L i) (XX i)) (hPG : Plc u po' m ln G') (hLu : Ldr u lo n L) (hTu : Tab u) => At_ok W H D A po' m d' ln G' sw sh lo n c L cap (pn : Int) pn N _ _ _ i u hPG.pl (by omega) hln9 hLu hn9 (by have := hc.sd; omega) (by have := hc.sd; omega) (fun _ => ⟨rfl, by omega⟩) (fun _ x P kx hGr => jw_ok W H D A po' m d' ln G' sw sh lo n c L cap pn N XX u hvG hc hNN hXX hPG hTu x P kx hGr) (by unfold jbE; rw [if_pos (Tl.vE_zero.2 hvG)]; exact cfE_zero.2 hc) hin)
  have CE := Hid.mk (fun G' (XX : Nat → Nat → Nat → Nat × Nat) (hvG : Tl.Vld W H D A m ln G') (hXX : ∀ i, i < n → Cod W H D sw sh (Tl.cl W sw) N m G' (L i) (XX i)) => fun bo cc (u : World) B0 => entry_rec hvG hc hNN hXX hin hkN bo cc u B0)
  have HX9 := Hid.mk (fun G' (hvG : Tl.Vld W H D A m ln G') => fun i => cod_ex (N := N) hvG g (by omega) (L i))
  have HV := Hid.mk hv
  have HV2 := Hid.mk hv2
  have HP := Hid.mk hP
  have HLd := Hid.mk hL
  have HT := Hid.mk hT
  have HM := Hid.mk (And.intro hm3 hm4)
  have HKN := Hid.mk (And.intro hkN hin)
  clear hT hv hv2 hP hQ hF hG hL hK hS hm4 hm3 hld hn9 hpr hcr eN hNN hk0 hk1 ek hkN hi0 hi1 ei hin hln hln9 hjz hjz2 erx ery erw erh g hc
  go_enter Tryz.func4, Tryz.ntmps4
  go_wp2_with (fail)
  clear e1 eB
  refine (C1.out _ K1.out).mono ?_
  rintro e w2 ⟨rfl, k2⟩
  have K2 := Hid.mk k2
  clear a0 a1 a2 a3 a4 b0 b1 b2 b3 b4 c0 c1 c2 c3 c4 x15 x16 k2 C1
  obtain ⟨⟨a0, a1, a2, a3, a4⟩, ⟨b0, b1, b2, b3, b4⟩, ⟨c0, c1, c2, c3, c4⟩, x15, x16⟩ := RK.out _ K2.out
  go_wp2_with (fail)
  refine (C2.out _ (K1.out.trans K2.out)).mono ?_
  rintro e w3 ⟨rfl, k3⟩
  have K3 := Hid.mk (K2.out.trans k3)
  clear a0 a1 a2 a3 a4 b0 b1 b2 b3 b4 c0 c1 c2 c3 c4 x15 x16 k3 C2
  obtain ⟨⟨a0, a1, a2, a3, a4⟩, ⟨b0, b1, b2, b3, b4⟩, ⟨c0, c1, c2, c3, c4⟩, x15, x16⟩ := RK.out _ K3.out
  go_wp2_with (fail)
  refine (C3.out _).mono ?_
  rintro e w6 ⟨rfl, k6⟩
  have K6 := Hid.mk (K3.out.trans k6)
  clear a0 a1 a2 a3 a4 b0 b1 b2 b3 b4 c0 c1 c2 c3 c4 x15 x16 k6 C3
  obtain ⟨⟨a0, a1, a2, a3, a4⟩, ⟨b0, b1, b2, b3, b4⟩, ⟨c0, c1, c2, c3, c4⟩, x15, x16⟩ := RK.out _ K6.out
  go_wp2_with (fail)
  refine (CK.out _).mono ?_
  rintro e w' ⟨rfl, hw'⟩
  obtain rfl := hw'.symm
  clear hw' CK
  go_wp2_with (fail)
  refine (CS.out _).mono ?_
  rintro e w' ⟨rfl, hw'⟩
  obtain rfl := hw'.symm
  clear hw' CS
  go_wp2_with (fail)
  go_cut [9] (fun s wc => ∃ (OB lg gc : Nat) (Hf : Nat → Nat → Nat), s = .pointer (some ⟨OB, 0, none⟩) ∧ Hid (PutPost w1 OB lg gc m W H D A ln F G Hf (fun q => (Tl.wp W (q : Int)).toNat) (fun q => gX W sw (Tl.cl W sw) k q) (fun q => gW W sw (Tl.cl W sw) k q) (gY sh (Tl.cl W sw) k) (gY sh (Tl.cl W sw) k + gH H sh (Tl.cl W sw) k) wc))
  case first =>
    clear a0 a1 a2 a3 a4 b0 b1 b2 b3 b4 c0 c1 c2 c3 c4 x15 x16 CA CB CE HX9
    refine wp_region_held_drew (S := fun u => Kept [] w6 u) (by kernel_rfl) (Kept.refl [] w6).drew (fun hH0 => ?_)
    refine wpAnyH_take (i := 0) (oi := _) (v := ?_) rfl (by kernel_rfl) (by kernel_rfl) (by kernel_rfl) (fun _ _ _ h => h) (Or.inl ⟨by rfl, ?y0a⟩) (by assumption) ?r0a
    case y0a => (intro u hSw; have hSu : Kept [] w6 u := hSw; obtain ⟨⟨a0, a1, a2, a3, a4⟩, ⟨b0, b1, b2, b3, b4⟩, ⟨c0, c1, c2, c3, c4⟩, x15, x16⟩ := RK.out u (K6.out.trans hSu); go_simp; try with_reducible rfl)
    refine wpAnyH_take (i := 1) (oi := _) (v := ?_) rfl (by kernel_rfl) (by kernel_rfl) (by kernel_rfl) (fun _ _ _ h => h) (Or.inl ⟨by rfl, ?y1a⟩) (by assumption) ?r1a
    case y1a => (intro u hSw; have hSu : Kept [] w6 u := hSw; obtain ⟨⟨a0, a1, a2, a3, a4⟩, ⟨b0, b1, b2, b3, b4⟩, ⟨c0, c1, c2, c3, c4⟩, x15, x16⟩ := RK.out u (K6.out.trans hSu); go_simp; try with_reducible rfl)
    refine wpAnyH_take (i := 2) (oi := _) (v := ?_) rfl (by kernel_rfl) (by kernel_rfl) (by kernel_rfl) (fun _ _ _ h => h) (Or.inl ⟨by rfl, ?y2a⟩) (by assumption) ?r2a
    case y2a => (intro u hSw; have hSu : Kept [] w6 u := hSw; obtain ⟨⟨a0, a1, a2, a3, a4⟩, ⟨b0, b1, b2, b3, b4⟩, ⟨c0, c1, c2, c3, c4⟩, x15, x16⟩ := RK.out u (K6.out.trans hSu); go_simp; try with_reducible rfl)
    refine wpAnyH_take (i := 3) (oi := _) (v := ?_) rfl (by kernel_rfl) (by kernel_rfl) (by kernel_rfl) (fun _ _ _ h => h) (Or.inl ⟨by rfl, ?y3a⟩) (by assumption) ?r3a
    case y3a => (intro u hSw; have hSu : Kept [] w6 u := hSw; obtain ⟨⟨a0, a1, a2, a3, a4⟩, ⟨b0, b1, b2, b3, b4⟩, ⟨c0, c1, c2, c3, c4⟩, x15, x16⟩ := RK.out u (K6.out.trans hSu); go_simp; try with_reducible rfl)
    refine wpAnyH_take (i := 4) (oi := _) (v := ?_) rfl (by kernel_rfl) (by kernel_rfl) (by kernel_rfl) (fun _ _ _ h => h) (Or.inl ⟨by rfl, ?y4a⟩) (by assumption) ?r4a
    case y4a => (intro u hSw; have hSu : Kept [] w6 u := hSw; obtain ⟨⟨a0, a1, a2, a3, a4⟩, ⟨b0, b1, b2, b3, b4⟩, ⟨c0, c1, c2, c3, c4⟩, x15, x16⟩ := RK.out u (K6.out.trans hSu); go_simp; try with_reducible rfl)
    refine wpAnyH_take (i := 5) (oi := _) (v := ?_) rfl (by kernel_rfl) (by kernel_rfl) (by kernel_rfl) (fun _ _ _ h => h) (Or.inl ⟨by rfl, ?y5a⟩) (by assumption) ?r5a
    case y5a => (intro u hSw; have hSu : Kept [] w6 u := hSw; obtain ⟨⟨a0, a1, a2, a3, a4⟩, ⟨b0, b1, b2, b3, b4⟩, ⟨c0, c1, c2, c3, c4⟩, x15, x16⟩ := RK.out u (K6.out.trans hSu); go_simp; try with_reducible rfl)
    refine wpAnyH_take (i := 6) (oi := _) (v := ?_) rfl (by kernel_rfl) (by kernel_rfl) (by kernel_rfl) (fun _ _ _ h => h) (Or.inl ⟨by rfl, ?y6a⟩) (by assumption) ?r6a
    case y6a => (intro u hSw; have hSu : Kept [] w6 u := hSw; obtain ⟨⟨a0, a1, a2, a3, a4⟩, ⟨b0, b1, b2, b3, b4⟩, ⟨c0, c1, c2, c3, c4⟩, x15, x16⟩ := RK.out u (K6.out.trans hSu); go_simp; try with_reducible rfl)
    refine wpAnyH_take (i := 7) (oi := _) (v := ?_) rfl (by kernel_rfl) (by kernel_rfl) (by kernel_rfl) (fun _ _ _ h => h) (Or.inl ⟨by rfl, ?y7a⟩) (by assumption) ?r7a
    case y7a => (intro u hSw; have hSu : Kept [] w6 u := hSw; obtain ⟨⟨a0, a1, a2, a3, a4⟩, ⟨b0, b1, b2, b3, b4⟩, ⟨c0, c1, c2, c3, c4⟩, x15, x16⟩ := RK.out u (K6.out.trans hSu); go_simp; try with_reducible rfl)
    refine wpAnyH_take (i := 8) (oi := _) (v := ?_) rfl (by kernel_rfl) (by kernel_rfl) (by kernel_rfl) (fun _ _ _ h => h) (Or.inl ⟨by rfl, ?y8a⟩) (by assumption) ?r8a
    case y8a => (intro u hSw; have hSu : Kept [] w6 u := hSw; obtain ⟨⟨a0, a1, a2, a3, a4⟩, ⟨b0, b1, b2, b3, b4⟩, ⟨c0, c1, c2, c3, c4⟩, x15, x16⟩ := RK.out u (K6.out.trans hSu); go_simp; try with_reducible rfl)
    refine wpAnyH_take (i := 9) (oi := _) (v := ?_) rfl (by kernel_rfl) (by kernel_rfl) (by kernel_rfl) (fun _ _ _ h => h) (Or.inl ⟨by rfl, ?y9a⟩) (by assumption) ?r9a
    case y9a => (intro u hSw; have hSu : Kept [] w6 u := hSw; obtain ⟨⟨a0, a1, a2, a3, a4⟩, ⟨b0, b1, b2, b3, b4⟩, ⟨c0, c1, c2, c3, c4⟩, x15, x16⟩ := RK.out u (K6.out.trans hSu); go_simp; try with_reducible rfl)
    refine wpAnyH_ready (rs := [10, 12]) (by kernel_rfl) (by simp) ?_
    refine AllReadyH.cons rfl (fun J hJ => ?_) (AllReadyH.cons rfl (fun J hJ => ?_) AllReadyH.nil)
    · go_simp
      go_at_call 16
      refine (CPl.out _).mono ?_
      rintro e wx ⟨rfl, kx⟩
      have Kx := Hid.mk (hH0.trans kx)
      refine hJ.out _ _ Kx.out (fun hH1 => ?_)
      clear hJ J hH0 kx
      refine wpAnyH_ready (rs := [11, 12]) (by kernel_rfl) (by simp) ?_
      refine AllReadyH.cons rfl (fun J hJ => ?_) (AllReadyH.cons rfl (fun J hJ => ?_) AllReadyH.nil)
      · go_simp
        go_at_call 15
        refine (CPu.out _ (K1.out.trans (K6.out.trans Kx.out))).mono ?_
        rintro e wy ⟨lg, gc, gs, cs, Hf, rfl, hgz, hD, ky⟩
        have Ky := Hid.mk (Kx.out.trans ky)
        have HZ := Hid.mk (gz_plc hgz)
        refine hJ.out _ _ Ky.out (fun hH2 => ?_)
        clear hJ J hH1 hgz ky
        obtain ⟨X, eX⟩ : ∃ X, wy.heap.size = X := ⟨_, rfl⟩
        have Kz := Hid.mk (Ky.out.alloc (.cells #[.int .i64 0, .int .i64 0, .int .i64 0, .bool false, .slice none 0 0] 42 (0, 0)))
        have hzb : (wy.alloc (.cells #[.int .i64 0, .int .i64 0, .int .i64 0, .bool false, .slice none 0 0] 42 (0, 0))).heap[X]? = some (.cells #[.int .i64 0, .int .i64 0, .int .i64 0, .bool false, .slice none 0 0] 42 (0, 0)) := by rw [← eX]; exact heap_alloc_new _ _
        obtain ⟨⟨z0, z1, z2, z3, z4⟩, f0, f1, f2, f3, f4⟩ := Tl.five hzb
        clear hzb
        refine wpAnyH_ready (rs := [12]) (by kernel_rfl) (by simp) ?_
        refine AllReadyH.cons rfl (fun J hJ => ?_) AllReadyH.nil
        go_simp
        try rw [eX]
        refine hJ.out _ _ Kz.out (fun hH3 => ?_)
        clear hJ J hH2
        refine wpAnyH_ready (rs := [13]) (by kernel_rfl) (by simp) ?_
        refine AllReadyH.cons rfl (fun J hJ => ?_) AllReadyH.nil
        go_simp
        refine hJ.out _ _ (Ky.out.alloc _) (fun hH4 => ?_)
        clear hJ J hH3 hH4
        refine wpAnyH_done (by kernel_rfl) ?_ _
        have kz2 : Kept [] wy (wy.alloc (.cells #[.int .i64 W, .int .i64 H, .int .i64 D, .bool A, .slice (some ⟨lg, 0, none⟩) m gc] 42 (0, 0))) := (Kept.refl [] wy).alloc _
        have F9 := Hid.mk (show PutPost w1 X lg gc m W H D A ln F G Hf (fun q => (Tl.wp W (q : Int)).toNat) (fun q => gX W sw (Tl.cl W sw) k q) (fun q => gW W sw (Tl.cl W sw) k q) (gY sh (Tl.cl W sw) k) (gY sh (Tl.cl W sw) k + gH H sh (Tl.cl W sw) k) (wy.alloc (.cells #[.int .i64 W, .int .i64 H, .int .i64 D, .bool A, .slice (some ⟨lg, 0, none⟩) m gc] 42 (0, 0))) from ⟨by rw [← eX]; exact heap_alloc_new _ _, HZ.out.keep kz2, hD.out.1, hD.out.2, K6.out.trans (Ky.out.trans kz2)⟩)
        clear z0 z1 z2 z3 z4 f0 f1 f2 f3 f4 kz2 eX
        go_wp2
        go_meet
        exact ⟨X, lg, gc, Hf, rfl, F9⟩
      · obtain ⟨X, eX⟩ : ∃ X, wx.heap.size = X := ⟨_, rfl⟩
        obtain ⟨wz, ez⟩ : ∃ wz, wx.alloc (.cells #[.int .i64 0, .int .i64 0, .int .i64 0, .bool false, .slice none 0 0] 42 (0, 0)) = wz := ⟨_, rfl⟩
        have kz : Kept [] wx wz := by rw [← ez]; exact (Kept.refl [] wx).alloc _
        have Kz := Hid.mk (Kx.out.trans kz)
        have HZB := Hid.mk (show wz.heap[X]? = some (.cells #[.int .i64 0, .int .i64 0, .int .i64 0, .bool false, .slice none 0 0] 42 (0, 0)) by rw [← ez, ← eX]; exact heap_alloc_new _ _)
        have HXB : Hid (X < wz.heap.size ∧ w1.heap.size ≤ X ∧ w6.heap.size ≤ X) := Hid.mk ⟨lt_of_block HZB.out, by have := (K6.out.trans Kx.out).size; omega, by have := Kx.out.size; omega⟩
        clear kz
        go_simp
        try rw [ez]
        try rw [eX]
        refine hJ.out _ _ Kz.out (fun hH2 => ?_)
        clear hJ J hH1 ez eX
        refine wpAnyH_ready (rs := [11]) (by kernel_rfl) (by simp) ?_
        refine AllReadyH.cons rfl (fun J hJ => ?_) AllReadyH.nil
        go_simp
        go_at_call 15
        refine (CPu.out _ (K1.out.trans (K6.out.trans Kz.out))).mono ?_
        rintro e wy ⟨lg, gc, gs, cs, Hf, rfl, hgz, hD, ky⟩
        have Ky := Hid.mk (Kz.out.trans ky)
        refine hJ.out _ _ Ky.out (fun hH3 => ?_)
        clear hJ J hH2
        have F9 := Hid.mk (fin_put (W := W) (H := H) (D := D) (A := A) (ky.heap HZB.out (by simp)) HXB.out.2.1 (K6.out.trans Ky.out) HXB.out.1 hgz)
        have K9 : Kept [] w6 (((((wy.setCell ⟨X, 0, none⟩ (.int .i64 W)).setCell ⟨X, 1, none⟩ (.int .i64 H)).setCell ⟨X, 2, none⟩ (.int .i64 D)).setCell ⟨X, 3, none⟩ (.bool A)).setCell ⟨X, 4, none⟩ (.slice (some ⟨lg, 0, none⟩) m gc)) := by
          refine Ky.out.step (Tl.set5 (.int .i64 W) (.int .i64 H) (.int .i64 D) (.bool A) (.slice (some ⟨lg, 0, none⟩) m gc) (ky.heap HZB.out (by simp))).2 (fun x hx => ?_)
          simp at hx
          subst hx
          exact .inr HXB.out.2.2
        obtain ⟨⟨z0, z1, z2, z3, z4⟩, f0, f1, f2, f3, f4⟩ := Tl.five (ky.heap HZB.out (by simp))
        clear hgz ky
        refine wpAnyH_ready (rs := [13]) (by kernel_rfl) (by simp) ?_
        refine AllReadyH.cons rfl (fun J hJ => ?_) AllReadyH.nil
        go_simp
        refine hJ.out _ _ K9 (fun hH4 => ?_)
        clear hJ J hH3 hH4
        refine wpAnyH_done (by kernel_rfl) ?_ _
        obtain ⟨wq, eq⟩ : ∃ wq, ((((wy.setCell ⟨X, 0, none⟩ (.int .i64 W)).setCell ⟨X, 1, none⟩ (.int .i64 H)).setCell ⟨X, 2, none⟩ (.int .i64 D)).setCell ⟨X, 3, none⟩ (.bool A)).setCell ⟨X, 4, none⟩ (.slice (some ⟨lg, 0, none⟩) m gc) = wq := ⟨_, rfl⟩
        rw [eq] at F9 K9 ⊢
        clear z0 z1 z2 z3 z4 f0 f1 f2 f3 f4 eq K9
        go_wp2
        go_meet
        exact ⟨X, lg, gc, Hf, rfl, Hid.mk ⟨F9.out.1, F9.out.2.1, hD.out.1, hD.out.2, F9.out.2.2⟩⟩
    · obtain ⟨X, eX⟩ : ∃ X, w6.drew.heap.size = X := ⟨_, rfl⟩
      obtain ⟨wz, ez⟩ : ∃ wz, w6.drew.alloc (.cells #[.int .i64 0, .int .i64 0, .int .i64 0, .bool false, .slice none 0 0] 42 (0, 0)) = wz := ⟨_, rfl⟩
      have kz : Kept [] w6.drew wz := by rw [← ez]; exact (Kept.refl [] w6.drew).alloc _
      have Kz := Hid.mk (hH0.trans kz)
      have HZB := Hid.mk (show wz.heap[X]? = some (.cells #[.int .i64 0, .int .i64 0, .int .i64 0, .bool false, .slice none 0 0] 42 (0, 0)) by rw [← ez, ← eX]; exact heap_alloc_new _ _)
      have HXB : Hid (X < wz.heap.size ∧ w1.heap.size ≤ X ∧ w6.heap.size ≤ X) := Hid.mk ⟨lt_of_block HZB.out, by have := K6.out.size; have := hH0.size; omega, by have := hH0.size; omega⟩
      have eX2 : w6.heap.size = X := eX
      clear kz
      go_simp
      try rw [ez]
      try rw [eX2]
      try rw [eX]
      refine hJ.out _ _ Kz.out (fun hH2 => ?_)
      clear hJ J hH0 ez eX eX2
      refine wpAnyH_ready (rs := [10]) (by kernel_rfl) (by simp) ?_
      refine AllReadyH.cons rfl (fun J hJ => ?_) AllReadyH.nil
      go_simp
      go_at_call 16
      refine (CPl.out _).mono ?_
      rintro e wx ⟨rfl, kx⟩
      have Kx := Hid.mk (Kz.out.trans kx)
      have HZX := Hid.mk (kx.heap HZB.out (by simp))
      have HXS : Hid (X < wx.heap.size) := Hid.mk (lt_of_block HZX.out)
      refine hJ.out _ _ Kx.out (fun hH3 => ?_)
      clear hJ J hH2 kx
      refine wpAnyH_ready (rs := [11]) (by kernel_rfl) (by simp) ?_
      refine AllReadyH.cons rfl (fun J hJ => ?_) AllReadyH.nil
      go_simp
      go_at_call 15
      refine (CPu.out _ (K1.out.trans (K6.out.trans Kx.out))).mono ?_
      rintro e wy ⟨lg, gc, gs, cs, Hf, rfl, hgz, hD, ky⟩
      have Ky := Hid.mk (Kx.out.trans ky)
      refine hJ.out _ _ Ky.out (fun hH4 => ?_)
      clear hJ J hH3
      have F9 := Hid.mk (fin_put (W := W) (H := H) (D := D) (A := A) (ky.heap HZX.out (by simp)) HXB.out.2.1 (K6.out.trans Ky.out) HXS.out hgz)
      have K9 : Kept [] w6 (((((wy.setCell ⟨X, 0, none⟩ (.int .i64 W)).setCell ⟨X, 1, none⟩ (.int .i64 H)).setCell ⟨X, 2, none⟩ (.int .i64 D)).setCell ⟨X, 3, none⟩ (.bool A)).setCell ⟨X, 4, none⟩ (.slice (some ⟨lg, 0, none⟩) m gc)) := by
        refine Ky.out.step (Tl.set5 (.int .i64 W) (.int .i64 H) (.int .i64 D) (.bool A) (.slice (some ⟨lg, 0, none⟩) m gc) (ky.heap HZX.out (by simp))).2 (fun x hx => ?_)
        simp at hx
        subst hx
        exact .inr HXB.out.2.2
      obtain ⟨⟨z0, z1, z2, z3, z4⟩, f0, f1, f2, f3, f4⟩ := Tl.five (ky.heap HZX.out (by simp))
      clear hgz ky
      refine wpAnyH_ready (rs := [13]) (by kernel_rfl) (by simp) ?_
      refine AllReadyH.cons rfl (fun J hJ => ?_) AllReadyH.nil
      go_simp
      refine hJ.out _ _ K9 (fun hH5 => ?_)
      clear hJ J hH4 hH5
      refine wpAnyH_done (by kernel_rfl) ?_ _
      obtain ⟨wq, eq⟩ : ∃ wq, ((((wy.setCell ⟨X, 0, none⟩ (.int .i64 W)).setCell ⟨X, 1, none⟩ (.int .i64 H)).setCell ⟨X, 2, none⟩ (.int .i64 D)).setCell ⟨X, 3, none⟩ (.bool A)).setCell ⟨X, 4, none⟩ (.slice (some ⟨lg, 0, none⟩) m gc) = wq := ⟨_, rfl⟩
      rw [eq] at F9 K9 ⊢
      clear z0 z1 z2 z3 z4 f0 f1 f2 f3 f4 eq K9
      go_wp2
      go_meet
      exact ⟨X, lg, gc, Hf, rfl, Hid.mk ⟨F9.out.1, F9.out.2.1, hD.out.1, hD.out.2, F9.out.2.2⟩⟩
  case rest =>
    obtain ⟨OB, lg, gc, Hf, rfl, HO⟩ := hcut
    clear a0 a1 a2 a3 a4 b0 b1 b2 b3 b4 c0 c1 c2 c3 c4 x15 x16 CPl CPu
    have Kc := Hid.mk HO.out.2.2.2.2
    have HVH : Hid (Tl.Vld W H D A m ln Hf) := Hid.mk ⟨HV.out.shp, HV.out.num, HV.out.len, fun q hq j hj => by
      rcases HO.out.2.2.1 q j with e | e
      · rw [e]; exact HV.out.top q hq j hj
      · rw [e]; exact HV2.out.top q hq j hj⟩
    have hX8 := HX9.out Hf HVH.out
    obtain ⟨X0, eX0⟩ : ∃ X0, X0 = fun i => (hX8 i).choose := ⟨_, rfl⟩
    have hXc : ∀ i, Cod W H D sw sh (Tl.cl W sw) N m Hf (L i) (X0 i) := fun i => by rw [eX0]; exact (hX8 i).choose_spec
    clear eX0 hX8
    obtain ⟨XG, eXG⟩ : ∃ XG : Nat → Nat → Nat → Nat × Nat, XG = fun i j => if j = k then XF i k else X0 i j := ⟨_, rfl⟩
    have HXG : Hid (∀ i, i < n → Cod W H D sw sh (Tl.cl W sw) N m Hf (L i) (XG i)) := Hid.mk (fun i hi => by
      rw [eXG]
      exact lcod_swap (HXF.out i hi) (hXc i) HKN.out.1 (fun q hq ii hii => dn_gF (HO.out.2.2.2.1 q hq) ii hii))
    have eXk : XG i k = XF i k := by rw [eXG]; simp
    clear eXG hXc
    have CF := Hid.mk (fun u (ku : Kept [] w u) => CA.out po d F (XF i) u HV.out (HXF.out i HKN.out.2) (HP.out.keep ku) (HLd.out.keep ku) (HT.out.kept ku (by simp)))
    have CG := Hid.mk (fun u (ku : Kept [] wc u) => CA.out (some ⟨lg, 0, none⟩) gc Hf (XG i) u HVH.out (HXG.out i HKN.out.2) (HO.out.2.1.keep ku) (HLd.out.keep (K1.out.trans (Kc.out.trans ku))) (HT.out.kept (K1.out.trans (Kc.out.trans ku)) (by simp)))
    rw [eXk] at CG
    have CAF : Hid (∀ u, Kept [] w u → Calls Tryz.prog 18 #[Tl.frv W H D A po m d, cfv sw sh lo n c cap (pn : Int), .int .i64 (i : Int)] u fun e w' => ∃ g M cc, e = .returned (.tuple #[.agg #[.slice (some ⟨g, 0, none⟩) M cc, .int .i64 (i : Int), .int .i64 (L i 0), .int .i64 (L i 1), .int .i64 (L i 2), .int .i64 (L i 3)], .int .i64 0]) ∧ Kept [] u w' ∧ ∀ v, Kept [] w' v → Calls Tryz.prog 19 #[.slice (some ⟨g, 0, none⟩) M cc, .int .i64 (k : Int)] v fun e v' => ∃ a c, e = .returned (.tuple #[.slice (some ⟨g, a, none⟩) (payL (XF i k) m).length c, .bool true]) ∧ Reads v' (some ⟨g, a, none⟩) (payL (XF i k) m) ∧ Kept [] v v') := Hid.mk (fun u ku => by
      refine (CB.out po d F XF u HV.out HXF.out (HP.out.keep ku) (HLd.out.keep ku) (HT.out.kept ku (by simp))).mono ?_
      rintro e w' ⟨bo, cc, rfl, ho, kk⟩
      obtain ⟨g, rfl, hE⟩ := CE.out F XF HV.out HXF.out bo cc w' _ ho
      exact ⟨g, _, cc, rfl, kk, hE⟩)
    have CAG : Hid (∀ u, Kept [] wc u → Calls Tryz.prog 18 #[Tl.frv W H D A (some ⟨lg, 0, none⟩) m gc, cfv sw sh lo n c cap (pn : Int), .int .i64 (i : Int)] u fun e w' => ∃ g M cc, e = .returned (.tuple #[.agg #[.slice (some ⟨g, 0, none⟩) M cc, .int .i64 (i : Int), .int .i64 (L i 0), .int .i64 (L i 1), .int .i64 (L i 2), .int .i64 (L i 3)], .int .i64 0]) ∧ Kept [] u w' ∧ ∀ v, Kept [] w' v → Calls Tryz.prog 19 #[.slice (some ⟨g, 0, none⟩) M cc, .int .i64 (k : Int)] v fun e v' => ∃ a c, e = .returned (.tuple #[.slice (some ⟨g, a, none⟩) (payL (XF i k) m).length c, .bool true]) ∧ Reads v' (some ⟨g, a, none⟩) (payL (XF i k) m) ∧ Kept [] v v') := Hid.mk (fun u ku => by
      refine (CB.out (some ⟨lg, 0, none⟩) gc Hf XG u HVH.out HXG.out (HO.out.2.1.keep ku) (HLd.out.keep (K1.out.trans (Kc.out.trans ku))) (HT.out.kept (K1.out.trans (Kc.out.trans ku)) (by simp))).mono ?_
      rintro e w' ⟨bo, cc, rfl, ho, kk⟩
      obtain ⟨g, rfl, hE⟩ := CE.out Hf XG HVH.out HXG.out bo cc w' _ ho
      rw [eXk] at hE
      exact ⟨g, _, cc, rfl, kk, hE⟩)
    have hpl : 0 < (payL (XF i k) m).length := List.length_pos_iff.2 (pay_lo _ (by have := HM.out; omega))
    clear eXk CA CB CE HX9
    generalize payL (XF i k) m = pl at *
    obtain ⟨gl, off, hlo, _⟩ := HLd.out.at HKN.out.2
    subst hlo
    have RL : Hid (∀ u, Kept [] w u → u.cell? ⟨gl, off + i * 4, none⟩ = some (.int .i64 (L i 0)) ∧ u.cell? ⟨gl, off + i * 4 + 1, none⟩ = some (.int .i64 (L i 1)) ∧ u.cell? ⟨gl, off + i * 4 + 2, none⟩ = some (.int .i64 (L i 2)) ∧ u.cell? ⟨gl, off + i * 4 + 3, none⟩ = some (.int .i64 (L i 3))) := Hid.mk (fun u ku => by
      obtain ⟨g', o', h1, h2⟩ := (HLd.out.keep ku).at HKN.out.2
      cases h1
      exact h2)
    obtain ⟨l0, el0⟩ : ∃ x, L i 0 = x := ⟨_, rfl⟩
    obtain ⟨l1, el1⟩ : ∃ x, L i 1 = x := ⟨_, rfl⟩
    obtain ⟨l2, el2⟩ : ∃ x, L i 2 = x := ⟨_, rfl⟩
    obtain ⟨l3, el3⟩ : ∃ x, L i 3 = x := ⟨_, rfl⟩
    have erg : rgv (L i) = .agg #[.int .i64 l0, .int .i64 l1, .int .i64 l2, .int .i64 l3] := by unfold rgv; rw [el0, el1, el2, el3]
    rw [erg] at CF CG
    rw [el0, el1, el2, el3] at CAF CAG RL
    clear el0 el1 el2 el3 erg
    have inn : (i : Int) < (n : Int) := by have := HKN.out; omega
    obtain ⟨PL, ePL⟩ : ∃ x, pl.length = x := ⟨_, rfl⟩
    have HPL : Hid (pl.length = PL) := Hid.mk ePL
    rw [ePL] at CF CG CAF CAG hpl
    clear ePL
    have HB9 := Hid.mk HO.out.1
    go_wp2_with (fail)
    refine wp_region_held_drew (S := fun u => Kept [] wc u) (by kernel_rfl) (Kept.refl [] wc).drew (fun hH0 => ?_)
    refine wpAnyH_take (i := 0) (oi := _) (v := ?_) rfl (by kernel_rfl) (by kernel_rfl) (by kernel_rfl) (fun _ _ _ h => h) (Or.inl ⟨by rfl, ?y0p⟩) (by assumption) ?r0p
    case y0p => (intro u hSw; have hSu : Kept [] wc u := hSw; obtain ⟨⟨a0, a1, a2, a3, a4⟩, ⟨b0, b1, b2, b3, b4⟩, ⟨c0, c1, c2, c3, c4⟩, x15, x16⟩ := RK.out u (Kc.out.trans hSu); obtain ⟨r0, r1, r2, r3⟩ := RL.out u (K1.out.trans (Kc.out.trans hSu)); go_simp; try with_reducible rfl)
    refine wpAnyH_take (i := 1) (oi := _) (v := ?_) rfl (by kernel_rfl) (by kernel_rfl) (by kernel_rfl) (fun _ _ _ h => h) (Or.inl ⟨by rfl, ?y1p⟩) (by assumption) ?r1p
    case y1p => (intro u hSw; have hSu : Kept [] wc u := hSw; obtain ⟨⟨a0, a1, a2, a3, a4⟩, ⟨b0, b1, b2, b3, b4⟩, ⟨c0, c1, c2, c3, c4⟩, x15, x16⟩ := RK.out u (Kc.out.trans hSu); obtain ⟨r0, r1, r2, r3⟩ := RL.out u (K1.out.trans (Kc.out.trans hSu)); go_simp; try with_reducible rfl)
    refine wpAnyH_take (i := 2) (oi := _) (v := ?_) rfl (by kernel_rfl) (by kernel_rfl) (by kernel_rfl) (fun _ _ _ h => h) (Or.inl ⟨by rfl, ?y2p⟩) (by assumption) ?r2p
    case y2p => (intro u hSw; have hSu : Kept [] wc u := hSw; obtain ⟨⟨a0, a1, a2, a3, a4⟩, ⟨b0, b1, b2, b3, b4⟩, ⟨c0, c1, c2, c3, c4⟩, x15, x16⟩ := RK.out u (Kc.out.trans hSu); obtain ⟨r0, r1, r2, r3⟩ := RL.out u (K1.out.trans (Kc.out.trans hSu)); go_simp; try with_reducible rfl)
    refine wpAnyH_take (i := 3) (oi := _) (v := ?_) rfl (by kernel_rfl) (by kernel_rfl) (by kernel_rfl) (fun _ _ _ h => h) (Or.inl ⟨by rfl, ?y3p⟩) (by assumption) ?r3p
    case y3p => (intro u hSw; have hSu : Kept [] wc u := hSw; obtain ⟨⟨a0, a1, a2, a3, a4⟩, ⟨b0, b1, b2, b3, b4⟩, ⟨c0, c1, c2, c3, c4⟩, x15, x16⟩ := RK.out u (Kc.out.trans hSu); obtain ⟨r0, r1, r2, r3⟩ := RL.out u (K1.out.trans (Kc.out.trans hSu)); go_simp; try with_reducible rfl)
    refine wpAnyH_take (i := 4) (oi := _) (v := ?_) rfl (by kernel_rfl) (by kernel_rfl) (by kernel_rfl) (fun _ _ _ h => h) (Or.inl ⟨by rfl, ?y4p⟩) (by assumption) ?r4p
    case y4p => (intro u hSw; have hSu : Kept [] wc u := hSw; obtain ⟨⟨a0, a1, a2, a3, a4⟩, ⟨b0, b1, b2, b3, b4⟩, ⟨c0, c1, c2, c3, c4⟩, x15, x16⟩ := RK.out u (Kc.out.trans hSu); obtain ⟨r0, r1, r2, r3⟩ := RL.out u (K1.out.trans (Kc.out.trans hSu)); go_simp; try with_reducible rfl)
    refine wpAnyH_take (i := 5) (oi := _) (v := ?_) rfl (by kernel_rfl) (by kernel_rfl) (by kernel_rfl) (fun _ _ _ h => h) (Or.inl ⟨by rfl, ?y5p⟩) (by assumption) ?r5p
    case y5p => (intro u hSw; have hSu : Kept [] wc u := hSw; obtain ⟨⟨a0, a1, a2, a3, a4⟩, ⟨b0, b1, b2, b3, b4⟩, ⟨c0, c1, c2, c3, c4⟩, x15, x16⟩ := RK.out u (Kc.out.trans hSu); obtain ⟨r0, r1, r2, r3⟩ := RL.out u (K1.out.trans (Kc.out.trans hSu)); go_simp; try with_reducible rfl)
    refine wpAnyH_take (i := 6) (oi := _) (v := ?_) rfl (by kernel_rfl) (by kernel_rfl) (by kernel_rfl) (fun _ _ _ h => h) (Or.inl ⟨by rfl, ?y6p⟩) (by assumption) ?r6p
    case y6p => (intro u hSw; have hSu : Kept [] wc u := hSw; obtain ⟨⟨a0, a1, a2, a3, a4⟩, ⟨b0, b1, b2, b3, b4⟩, ⟨c0, c1, c2, c3, c4⟩, x15, x16⟩ := RK.out u (Kc.out.trans hSu); obtain ⟨r0, r1, r2, r3⟩ := RL.out u (K1.out.trans (Kc.out.trans hSu)); go_simp; try with_reducible rfl)
    refine wpAnyH_take (i := 7) (oi := _) (v := ?_) rfl (by kernel_rfl) (by kernel_rfl) (by kernel_rfl) (fun _ _ _ h => h) (Or.inl ⟨by rfl, ?y7p⟩) (by assumption) ?r7p
    case y7p => (intro u hSw; have hSu : Kept [] wc u := hSw; obtain ⟨⟨a0, a1, a2, a3, a4⟩, ⟨b0, b1, b2, b3, b4⟩, ⟨c0, c1, c2, c3, c4⟩, x15, x16⟩ := RK.out u (Kc.out.trans hSu); obtain ⟨r0, r1, r2, r3⟩ := RL.out u (K1.out.trans (Kc.out.trans hSu)); go_simp; try with_reducible rfl)
    refine wpAnyH_take (i := 8) (oi := _) (v := ?_) rfl (by kernel_rfl) (by kernel_rfl) (by kernel_rfl) (fun _ _ _ h => h) (Or.inl ⟨by rfl, ?y8p⟩) (by assumption) ?r8p
    case y8p => (intro u hSw; have hSu : Kept [] wc u := hSw; obtain ⟨⟨a0, a1, a2, a3, a4⟩, ⟨b0, b1, b2, b3, b4⟩, ⟨c0, c1, c2, c3, c4⟩, x15, x16⟩ := RK.out u (Kc.out.trans hSu); obtain ⟨r0, r1, r2, r3⟩ := RL.out u (K1.out.trans (Kc.out.trans hSu)); go_simp; try with_reducible rfl)
    refine wpAnyH_take (i := 9) (oi := _) (v := ?_) rfl (by kernel_rfl) (by kernel_rfl) (by kernel_rfl) (fun _ _ _ h => h) (Or.inl ⟨by rfl, ?y9p⟩) (by assumption) ?r9p
    case y9p => (intro u hSw; have hSu : Kept [] wc u := hSw; obtain ⟨⟨a0, a1, a2, a3, a4⟩, ⟨b0, b1, b2, b3, b4⟩, ⟨c0, c1, c2, c3, c4⟩, x15, x16⟩ := RK.out u (Kc.out.trans hSu); obtain ⟨r0, r1, r2, r3⟩ := RL.out u (K1.out.trans (Kc.out.trans hSu)); go_simp; try with_reducible rfl)
    refine wpAnyH_take (i := 10) (oi := _) (v := ?_) rfl (by kernel_rfl) (by kernel_rfl) (by kernel_rfl) (fun _ _ _ h => h) (Or.inl ⟨by rfl, ?y10p⟩) (by assumption) ?r10p
    case y10p => (intro u hSw; have hSu : Kept [] wc u := hSw; obtain ⟨⟨a0, a1, a2, a3, a4⟩, ⟨b0, b1, b2, b3, b4⟩, ⟨c0, c1, c2, c3, c4⟩, x15, x16⟩ := RK.out u (Kc.out.trans hSu); obtain ⟨r0, r1, r2, r3⟩ := RL.out u (K1.out.trans (Kc.out.trans hSu)); go_simp; try with_reducible rfl)
    refine wpAnyH_ready (rs := [11]) (by kernel_rfl) (by simp) ?_
    refine AllReadyH.cons rfl (fun J hJ => ?_) AllReadyH.nil
    go_simp
    go_at_call 17
    refine (CF.out _ (K1.out.trans (Kc.out.trans hH0))).mono ?_
    rintro e wd ⟨bo, bc, rfl, hya, kd⟩
    have Kd := Hid.mk (hH0.trans kd)
    have RA := Hid.mk (reads_row hya)
    refine hJ.out _ _ Kd.out (fun hH1 => ?_)
    clear hJ J hH0 hya kd CF
    refine wpAnyH_take (i := 12) (oi := _) (v := ?_) rfl (by kernel_rfl) (by kernel_rfl) (by kernel_rfl) (fun _ _ _ h => h) (Or.inl ⟨by rfl, ?y12p⟩) (by assumption) ?r12p
    case y12p => (intro u hSw; have hSu : Kept [] wc u := hSw;  go_simp; try with_reducible rfl)
    refine wpAnyH_take (i := 13) (oi := _) (v := ?_) rfl (by kernel_rfl) (by kernel_rfl) (by kernel_rfl) (fun _ _ _ h => h) (Or.inl ⟨by rfl, ?y13p⟩) (by assumption) ?r13p
    case y13p => (intro u hSw; have hSu : Kept [] wc u := hSw;  go_simp; try with_reducible rfl)
    refine wpAnyH_take (i := 14) (oi := _) (v := ?_) rfl (by kernel_rfl) (by kernel_rfl) (by kernel_rfl) (fun _ _ _ h => h) (Or.inl ⟨by rfl, ?y14p⟩) (by assumption) ?r14p
    case y14p => (intro u hSw; have hSu : Kept [] wc u := hSw;  go_simp; try with_reducible rfl)
    refine wpAnyH_take (i := 15) (oi := _) (v := ?_) rfl (by kernel_rfl) (by kernel_rfl) (by kernel_rfl) (fun _ _ _ h => h) (Or.inl ⟨by rfl, ?y15p⟩) (by assumption) ?r15p
    case y15p => (intro u hSw; have hSu : Kept [] wc u := hSw;  go_simp; try with_reducible rfl)
    refine wpAnyH_take (i := 16) (oi := _) (v := ?_) rfl (by kernel_rfl) (by kernel_rfl) (by kernel_rfl) (fun _ _ _ h => h) (Or.inl ⟨by rfl, ?y16p⟩) (by assumption) ?r16p
    case y16p => (intro u hSw; have hSu : Kept [] wc u := hSw;  go_simp; try with_reducible rfl)
    refine wpAnyH_done (by kernel_rfl) ?_ _
    clear hH1
    go_wp2_with (fail)
    refine wp_region_held_drew (S := fun u => Kept [] wd u) (by kernel_rfl) (Kept.refl [] wd).drew (fun hH0 => ?_)
    refine wpAnyH_take (i := 0) (oi := _) (v := ?_) rfl (by kernel_rfl) (by kernel_rfl) (by kernel_rfl) (fun _ _ _ h => h) (Or.inl ⟨by rfl, ?y0q⟩) (by assumption) ?r0q
    case y0q => (intro u hSw; have hSu : Kept [] wd u := hSw; obtain ⟨⟨a0, a1, a2, a3, a4⟩, ⟨b0, b1, b2, b3, b4⟩, ⟨c0, c1, c2, c3, c4⟩, x15, x16⟩ := RK.out u (Kc.out.trans (Kd.out.trans hSu)); obtain ⟨r0, r1, r2, r3⟩ := RL.out u (K1.out.trans (Kc.out.trans (Kd.out.trans hSu))); obtain ⟨y0, y1, y2, y3, y4⟩ := cel5 ((Kd.out.trans hSu).heap HB9.out (by simp)); go_simp; try with_reducible rfl)
    refine wpAnyH_take (i := 1) (oi := _) (v := ?_) rfl (by kernel_rfl) (by kernel_rfl) (by kernel_rfl) (fun _ _ _ h => h) (Or.inl ⟨by rfl, ?y1q⟩) (by assumption) ?r1q
    case y1q => (intro u hSw; have hSu : Kept [] wd u := hSw; obtain ⟨⟨a0, a1, a2, a3, a4⟩, ⟨b0, b1, b2, b3, b4⟩, ⟨c0, c1, c2, c3, c4⟩, x15, x16⟩ := RK.out u (Kc.out.trans (Kd.out.trans hSu)); obtain ⟨r0, r1, r2, r3⟩ := RL.out u (K1.out.trans (Kc.out.trans (Kd.out.trans hSu))); obtain ⟨y0, y1, y2, y3, y4⟩ := cel5 ((Kd.out.trans hSu).heap HB9.out (by simp)); go_simp; try with_reducible rfl)
    refine wpAnyH_take (i := 2) (oi := _) (v := ?_) rfl (by kernel_rfl) (by kernel_rfl) (by kernel_rfl) (fun _ _ _ h => h) (Or.inl ⟨by rfl, ?y2q⟩) (by assumption) ?r2q
    case y2q => (intro u hSw; have hSu : Kept [] wd u := hSw; obtain ⟨⟨a0, a1, a2, a3, a4⟩, ⟨b0, b1, b2, b3, b4⟩, ⟨c0, c1, c2, c3, c4⟩, x15, x16⟩ := RK.out u (Kc.out.trans (Kd.out.trans hSu)); obtain ⟨r0, r1, r2, r3⟩ := RL.out u (K1.out.trans (Kc.out.trans (Kd.out.trans hSu))); obtain ⟨y0, y1, y2, y3, y4⟩ := cel5 ((Kd.out.trans hSu).heap HB9.out (by simp)); go_simp; try with_reducible rfl)
    refine wpAnyH_take (i := 3) (oi := _) (v := ?_) rfl (by kernel_rfl) (by kernel_rfl) (by kernel_rfl) (fun _ _ _ h => h) (Or.inl ⟨by rfl, ?y3q⟩) (by assumption) ?r3q
    case y3q => (intro u hSw; have hSu : Kept [] wd u := hSw; obtain ⟨⟨a0, a1, a2, a3, a4⟩, ⟨b0, b1, b2, b3, b4⟩, ⟨c0, c1, c2, c3, c4⟩, x15, x16⟩ := RK.out u (Kc.out.trans (Kd.out.trans hSu)); obtain ⟨r0, r1, r2, r3⟩ := RL.out u (K1.out.trans (Kc.out.trans (Kd.out.trans hSu))); obtain ⟨y0, y1, y2, y3, y4⟩ := cel5 ((Kd.out.trans hSu).heap HB9.out (by simp)); go_simp; try with_reducible rfl)
    refine wpAnyH_take (i := 4) (oi := _) (v := ?_) rfl (by kernel_rfl) (by kernel_rfl) (by kernel_rfl) (fun _ _ _ h => h) (Or.inl ⟨by rfl, ?y4q⟩) (by assumption) ?r4q
    case y4q => (intro u hSw; have hSu : Kept [] wd u := hSw; obtain ⟨⟨a0, a1, a2, a3, a4⟩, ⟨b0, b1, b2, b3, b4⟩, ⟨c0, c1, c2, c3, c4⟩, x15, x16⟩ := RK.out u (Kc.out.trans (Kd.out.trans hSu)); obtain ⟨r0, r1, r2, r3⟩ := RL.out u (K1.out.trans (Kc.out.trans (Kd.out.trans hSu))); obtain ⟨y0, y1, y2, y3, y4⟩ := cel5 ((Kd.out.trans hSu).heap HB9.out (by simp)); go_simp; try with_reducible rfl)
    refine wpAnyH_take (i := 5) (oi := _) (v := ?_) rfl (by kernel_rfl) (by kernel_rfl) (by kernel_rfl) (fun _ _ _ h => h) (Or.inl ⟨by rfl, ?y5q⟩) (by assumption) ?r5q
    case y5q => (intro u hSw; have hSu : Kept [] wd u := hSw; obtain ⟨⟨a0, a1, a2, a3, a4⟩, ⟨b0, b1, b2, b3, b4⟩, ⟨c0, c1, c2, c3, c4⟩, x15, x16⟩ := RK.out u (Kc.out.trans (Kd.out.trans hSu)); obtain ⟨r0, r1, r2, r3⟩ := RL.out u (K1.out.trans (Kc.out.trans (Kd.out.trans hSu))); obtain ⟨y0, y1, y2, y3, y4⟩ := cel5 ((Kd.out.trans hSu).heap HB9.out (by simp)); go_simp; try with_reducible rfl)
    refine wpAnyH_take (i := 6) (oi := _) (v := ?_) rfl (by kernel_rfl) (by kernel_rfl) (by kernel_rfl) (fun _ _ _ h => h) (Or.inl ⟨by rfl, ?y6q⟩) (by assumption) ?r6q
    case y6q => (intro u hSw; have hSu : Kept [] wd u := hSw; obtain ⟨⟨a0, a1, a2, a3, a4⟩, ⟨b0, b1, b2, b3, b4⟩, ⟨c0, c1, c2, c3, c4⟩, x15, x16⟩ := RK.out u (Kc.out.trans (Kd.out.trans hSu)); obtain ⟨r0, r1, r2, r3⟩ := RL.out u (K1.out.trans (Kc.out.trans (Kd.out.trans hSu))); obtain ⟨y0, y1, y2, y3, y4⟩ := cel5 ((Kd.out.trans hSu).heap HB9.out (by simp)); go_simp; try with_reducible rfl)
    refine wpAnyH_take (i := 7) (oi := _) (v := ?_) rfl (by kernel_rfl) (by kernel_rfl) (by kernel_rfl) (fun _ _ _ h => h) (Or.inl ⟨by rfl, ?y7q⟩) (by assumption) ?r7q
    case y7q => (intro u hSw; have hSu : Kept [] wd u := hSw; obtain ⟨⟨a0, a1, a2, a3, a4⟩, ⟨b0, b1, b2, b3, b4⟩, ⟨c0, c1, c2, c3, c4⟩, x15, x16⟩ := RK.out u (Kc.out.trans (Kd.out.trans hSu)); obtain ⟨r0, r1, r2, r3⟩ := RL.out u (K1.out.trans (Kc.out.trans (Kd.out.trans hSu))); obtain ⟨y0, y1, y2, y3, y4⟩ := cel5 ((Kd.out.trans hSu).heap HB9.out (by simp)); go_simp; try with_reducible rfl)
    refine wpAnyH_take (i := 8) (oi := _) (v := ?_) rfl (by kernel_rfl) (by kernel_rfl) (by kernel_rfl) (fun _ _ _ h => h) (Or.inl ⟨by rfl, ?y8q⟩) (by assumption) ?r8q
    case y8q => (intro u hSw; have hSu : Kept [] wd u := hSw; obtain ⟨⟨a0, a1, a2, a3, a4⟩, ⟨b0, b1, b2, b3, b4⟩, ⟨c0, c1, c2, c3, c4⟩, x15, x16⟩ := RK.out u (Kc.out.trans (Kd.out.trans hSu)); obtain ⟨r0, r1, r2, r3⟩ := RL.out u (K1.out.trans (Kc.out.trans (Kd.out.trans hSu))); obtain ⟨y0, y1, y2, y3, y4⟩ := cel5 ((Kd.out.trans hSu).heap HB9.out (by simp)); go_simp; try with_reducible rfl)
    refine wpAnyH_take (i := 9) (oi := _) (v := ?_) rfl (by kernel_rfl) (by kernel_rfl) (by kernel_rfl) (fun _ _ _ h => h) (Or.inl ⟨by rfl, ?y9q⟩) (by assumption) ?r9q
    case y9q => (intro u hSw; have hSu : Kept [] wd u := hSw; obtain ⟨⟨a0, a1, a2, a3, a4⟩, ⟨b0, b1, b2, b3, b4⟩, ⟨c0, c1, c2, c3, c4⟩, x15, x16⟩ := RK.out u (Kc.out.trans (Kd.out.trans hSu)); obtain ⟨r0, r1, r2, r3⟩ := RL.out u (K1.out.trans (Kc.out.trans (Kd.out.trans hSu))); obtain ⟨y0, y1, y2, y3, y4⟩ := cel5 ((Kd.out.trans hSu).heap HB9.out (by simp)); go_simp; try with_reducible rfl)
    refine wpAnyH_ready (rs := [10]) (by kernel_rfl) (by simp) ?_
    refine AllReadyH.cons rfl (fun J hJ => ?_) AllReadyH.nil
    go_simp
    go_at_call 17
    refine (CG.out _ (Kd.out.trans hH0)).mono ?_
    rintro e we ⟨bo2, bc2, rfl, hyb, ke⟩
    have Ke := Hid.mk (hH0.trans ke)
    have RB := Hid.mk (reads_row hyb)
    refine hJ.out _ _ Ke.out (fun hH1 => ?_)
    clear hJ J hH0 hyb ke CG
    refine wpAnyH_take (i := 11) (oi := _) (v := ?_) rfl (by kernel_rfl) (by kernel_rfl) (by kernel_rfl) (fun _ _ _ h => h) (Or.inl ⟨by rfl, ?y11q⟩) (by assumption) ?r11q
    case y11q => (intro u hSw; have hSu : Kept [] wd u := hSw;  go_simp; try with_reducible rfl)
    refine wpAnyH_take (i := 12) (oi := _) (v := ?_) rfl (by kernel_rfl) (by kernel_rfl) (by kernel_rfl) (fun _ _ _ h => h) (Or.inl ⟨by rfl, ?y12q⟩) (by assumption) ?r12q
    case y12q => (intro u hSw; have hSu : Kept [] wd u := hSw;  go_simp; try with_reducible rfl)
    refine wpAnyH_take (i := 13) (oi := _) (v := ?_) rfl (by kernel_rfl) (by kernel_rfl) (by kernel_rfl) (fun _ _ _ h => h) (Or.inl ⟨by rfl, ?y13q⟩) (by assumption) ?r13q
    case y13q => (intro u hSw; have hSu : Kept [] wd u := hSw;  go_simp; try with_reducible rfl)
    refine wpAnyH_take (i := 14) (oi := _) (v := ?_) rfl (by kernel_rfl) (by kernel_rfl) (by kernel_rfl) (fun _ _ _ h => h) (Or.inl ⟨by rfl, ?y14q⟩) (by assumption) ?r14q
    case y14q => (intro u hSw; have hSu : Kept [] wd u := hSw;  go_simp; try with_reducible rfl)
    refine wpAnyH_take (i := 15) (oi := _) (v := ?_) rfl (by kernel_rfl) (by kernel_rfl) (by kernel_rfl) (fun _ _ _ h => h) (Or.inl ⟨by rfl, ?y15q⟩) (by assumption) ?r15q
    case y15q => (intro u hSw; have hSu : Kept [] wd u := hSw;  go_simp; try with_reducible rfl)
    refine wpAnyH_done (by kernel_rfl) ?_ _
    clear hH1
    have Ze := Hid.mk (Kc.out.trans (Kd.out.trans Ke.out))
    obtain ⟨⟨a0, a1, a2, a3, a4⟩, ⟨b0, b1, b2, b3, b4⟩, ⟨c0, c1, c2, c3, c4⟩, x15, x16⟩ := RK.out _ Ze.out
    go_wp2_with (fail)
    refine (CAF.out _ (K1.out.trans Ze.out)).mono ?_
    rintro e wf ⟨gF, MF, cF, rfl, kf, hEF⟩
    have HEF := Hid.mk hEF
    have Kf := Hid.mk kf
    clear a0 a1 a2 a3 a4 b0 b1 b2 b3 b4 c0 c1 c2 c3 c4 x15 x16 hEF kf CAF
    have kQ : Kept [] wf (wf.alloc (.cells #[.slice (some ⟨gF, 0, none⟩) MF cF, .int .i64 (i : Int), .int .i64 l0, .int .i64 l1, .int .i64 l2, .int .i64 l3] 59 (0, 0))) := (Kept.refl [] wf).alloc _
    have HQ1 := Hid.mk (show (wf.alloc (.cells #[.slice (some ⟨gF, 0, none⟩) MF cF, .int .i64 (i : Int), .int .i64 l0, .int .i64 l1, .int .i64 l2, .int .i64 l3] 59 (0, 0))).heap[wf.heap.size]? = some (.cells #[.slice (some ⟨gF, 0, none⟩) MF cF, .int .i64 (i : Int), .int .i64 l0, .int .i64 l1, .int .i64 l2, .int .i64 l3] 59 (0, 0)) from heap_alloc_new _ _)
    have KQ := Hid.mk kQ
    have Z1 := Hid.mk (Ze.out.trans (Kf.out.trans kQ))
    obtain ⟨⟨a0, a1, a2, a3, a4⟩, ⟨b0, b1, b2, b3, b4⟩, ⟨c0, c1, c2, c3, c4⟩, x15, x16⟩ := RK.out _ Z1.out
    obtain ⟨y0, y1, y2, y3, y4⟩ := cel5 ((Kd.out.trans (Ke.out.trans (Kf.out.trans kQ))).heap HB9.out (by simp))
    clear kQ
    go_wp2_with (fail)
    generalize wf.alloc (.cells #[.slice (some ⟨gF, 0, none⟩) MF cF, .int .i64 (i : Int), .int .i64 l0, .int .i64 l1, .int .i64 l2, .int .i64 l3] 59 (0, 0)) = wg at *
    generalize wf.heap.size = Q1 at *
    refine (CAG.out _ (Kd.out.trans (Ke.out.trans (Kf.out.trans KQ.out)))).mono ?_
    rintro e wh ⟨gG, MG, cG, rfl, kh, hEG⟩
    have HEG := Hid.mk hEG
    have Kh := Hid.mk kh
    clear a0 a1 a2 a3 a4 b0 b1 b2 b3 b4 c0 c1 c2 c3 c4 x15 x16 y0 y1 y2 y3 y4 hEG kh CAG
    have kR : Kept [] wh (wh.alloc (.cells #[.slice (some ⟨gG, 0, none⟩) MG cG, .int .i64 (i : Int), .int .i64 l0, .int .i64 l1, .int .i64 l2, .int .i64 l3] 59 (0, 0))) := (Kept.refl [] wh).alloc _
    have HQ2 := Hid.mk (show (wh.alloc (.cells #[.slice (some ⟨gG, 0, none⟩) MG cG, .int .i64 (i : Int), .int .i64 l0, .int .i64 l1, .int .i64 l2, .int .i64 l3] 59 (0, 0))).heap[wh.heap.size]? = some (.cells #[.slice (some ⟨gG, 0, none⟩) MG cG, .int .i64 (i : Int), .int .i64 l0, .int .i64 l1, .int .i64 l2, .int .i64 l3] 59 (0, 0)) from heap_alloc_new _ _)
    have KR := Hid.mk kR
    have s1 := reads_str' (RA.out.keep (Ke.out.trans (Kf.out.trans (KQ.out.trans (Kh.out.trans kR))))) HPL.out bc
    have s2 := reads_str' (RB.out.keep (Kf.out.trans (KQ.out.trans (Kh.out.trans kR)))) HPL.out bc2
    have dl : ((PL : Int) == 0) = false := by simp; omega
    have dl2 : (PL == 0) = false := by simp; omega
    obtain ⟨q0, q1, q2, q3, q4, q5⟩ := cel6 ((Kh.out.trans kR).heap HQ1.out (by simp))
    clear kR
    go_wp2_with (fail)
    generalize wh.alloc (.cells #[.slice (some ⟨gG, 0, none⟩) MG cG, .int .i64 (i : Int), .int .i64 l0, .int .i64 l1, .int .i64 l2, .int .i64 l3] 59 (0, 0)) = wi at *
    generalize wh.heap.size = Q2 at *
    clear s1 s2 q0 q1 q2 q3 q4 q5 dl dl2
    refine (HEF.out _ (KQ.out.trans (Kh.out.trans KR.out))).mono ?_
    rintro e wj ⟨aF, fF, rfl, hRF, kj⟩
    have RF := Hid.mk hRF
    have Kj := Hid.mk kj
    obtain ⟨q0, q1, q2, q3, q4, q5⟩ := cel6 (kj.heap HQ2.out (by simp))
    clear hRF kj
    go_wp2_with (fail)
    refine (HEG.out _ (KR.out.trans Kj.out)).mono ?_
    rintro e wk ⟨aG, fG, rfl, hRG, kk⟩
    have ZZ := Hid.mk (Ze.out.trans (Kf.out.trans (KQ.out.trans (Kh.out.trans (KR.out.trans (Kj.out.trans kk))))))
    have t1 := reads_str' (RF.out.keep kk) HPL.out fF
    have t2 := reads_str' hRG HPL.out fG
    have t3 := reads_str' (RA.out.keep (Ke.out.trans (Kf.out.trans (KQ.out.trans (Kh.out.trans (KR.out.trans (Kj.out.trans kk))))))) HPL.out bc
    have t4 := reads_str' (RB.out.keep (Kf.out.trans (KQ.out.trans (Kh.out.trans (KR.out.trans (Kj.out.trans kk)))))) HPL.out bc2
    clear q0 q1 q2 q3 q4 q5 hRG kk
    go_wp2
    go_ret
    exact ⟨by first | rfl | (exact ret_bool (by simp)), K1.out.trans ZZ.out⟩

/-- TopLocal holds of every likeness. -/
theorem local_any (W H D : Int) (A : Bool) (po : Option Addr) (m d : Nat) (ln : Nat → Nat) (F : Nat → Nat → Nat) (W2 H2 D2 : Int) (A2 : Bool) (qo : Option Addr) (m2 d2 : Nat) (ln2 : Nat → Nat) (G : Nat → Nat → Nat) (sw sh : Int) (lo : Option Addr) (n c : Nat) (L : Nat → Nat → Int) (cap p K S : Int) (w : World) (hT : Tab w)
    (hP : Plc w po m ln F) (hm : m ≤ 9223372036854775807) (hln : ∀ i, i < m → ln i ≤ 9223372036854775807) (hF : ∀ i, i < m → ∀ j, j < ln i → F i j < 65536)
    (hQ : Plc w qo m2 ln2 G) (hm2 : m2 ≤ 9223372036854775807) (hln2 : ∀ i, i < m2 → ln2 i ≤ 9223372036854775807) (hG : ∀ i, i < m2 → ∀ j, j < ln2 i → G i j < 65536)
    (hL : Ldr w lo n L) (hn : n ≤ 9223372036854775807) (hK : -9223372036854775808 ≤ K ∧ K ≤ 9223372036854775807) (hS : -9223372036854775808 ≤ S ∧ S ≤ 9223372036854775807) :
    Calls Tryz.prog 4 #[.agg #[.int .i64 W, .int .i64 H, .int .i64 D, .bool A, .slice po m d, .int .i64 W2, .int .i64 H2, .int .i64 D2, .bool A2, .slice qo m2 d2, .int .i64 sw, .int .i64 sh, .slice lo n c, .int .i64 cap, .int .i64 p, .int .i64 K, .int .i64 S]] w fun e w' => e = .returned (.bool true) ∧ Kept [] w w' := by
  by_cases hne : W = W2 ∧ H = H2 ∧ D = D2 ∧ A = A2
  · obtain ⟨rfl, rfl, rfl, rfl⟩ := hne
    by_cases h1 : Tl.vE W H D A m ln F = 0 ∧ cfE W H D A sw sh n L cap p = 0
    · by_cases h2 : Tl.vE W H D A m2 ln2 G = 0 ∧ cfE W H D A sw sh n L cap p = 0
      · have hv := Tl.vE_zero.1 h1.1
        have hv2 := Tl.vE_zero.1 h2.1
        have em : m2 = m := by rw [hv.num, hv2.num]
        subst em
        have el : ∀ i, i < m2 → ln2 i = ln i := fun i hi => by
          have e1 := hv.len i hi
          have e2 := hv2.len i hi
          omega
        exact local_yes W H D A po m2 d qo d2 ln F G sw sh lo n c L cap p K S w hT hv ⟨hv2.shp, hv2.num, hv.len, fun i hi j hj => hv2.top i hi j (by rw [el i hi]; exact hj)⟩ (cfE_zero.1 h1.2) hP (plc_cong hQ el) hF (fun i hi j hj => hG i hi j (by rw [el i hi]; exact hj)) hL hK hS
      · refine local_no W H D A po m d qo m2 d2 sw sh lo n c cap p K S _ _ w (.inr ?_) (fun u ku => right_any W H D A po m d ln F sw sh lo n c L cap p u (hP.pl.keep ku) hm hln hF (hL.keep ku) hn) (fun u ku => right_any W H D A qo m2 d2 ln2 G sw sh lo n c L cap p u (hQ.pl.keep ku) hm2 hln2 hG (hL.keep ku) hn)
        exact decide_eq_false h2
    · refine local_no W H D A po m d qo m2 d2 sw sh lo n c cap p K S _ _ w (.inl ?_) (fun u ku => right_any W H D A po m d ln F sw sh lo n c L cap p u (hP.pl.keep ku) hm hln hF (hL.keep ku) hn) (fun u ku => right_any W H D A qo m2 d2 ln2 G sw sh lo n c L cap p u (hQ.pl.keep ku) hm2 hln2 hG (hL.keep ku) hn)
      exact decide_eq_false h1
  · exact local_apart W H D A po m d W2 H2 D2 A2 qo m2 d2 sw sh lo n c cap p K S w hne
end Go.Proofs.YthhegomjipbdbaaGreatDoor.Pc
