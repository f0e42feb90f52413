import Derived.Test.YtiganmmacmhndaaGreatDoorwB
import Derived.Test.YtiganmmacmhndaaGreatDoorwC
import Derived.Test.YtiganmmacmhndaaGreatDoortA1Z
import Derived.Test.YtiganmmacmhndaaGreatDoorqPZ
namespace Go.Proofs.YtiganmmacmhndaaGreatDoor.Pc
open Go.RowKit

theorem hdr_form (l : List Nat) : ∃ (a b c : Int) (x : Bool) (d e f g h i j k m E : Int), hdr l = .tuple #[.agg #[.int .i64 a, .int .i64 b, .int .i64 c, .bool x, .int .i64 d, .int .i64 e, .int .i64 f, .int .i64 g, .int .i64 h, .int .i64 i, .int .i64 j, .int .i64 k, .int .i64 m], .int .i64 E] := by
  unfold hdr
  split
  · exact ⟨_, _, _, _, _, _, _, _, _, _, _, _, _, _, rfl⟩
  · exact ⟨_, _, _, _, _, _, _, _, _, _, _, _, _, _, rfl⟩
/-- A ladder of one rung, or of none. -/
def rgC (r : Nat → Int) (n : Nat) : List Value := if n = 0 then [] else [.int .i64 (r 0), .int .i64 (r 1), .int .i64 (r 2), .int .i64 (r 3)]
theorem rgC_ldr {w : World} {base n c : Nat} {lo : Option Addr} {r : Nat → Int} (h : w.ownsRow base 26 4 (.slice lo n c) n (rgC r n)) (hn : n ≤ 1) : Ldr w lo n (fun _ j => r j) := by
  rcases h.2 with ⟨h1, h2⟩ | ⟨g, cap, cur, h1, h2, h3, h4, h5, h6, h7⟩
  · exact .inl h2
  · by_cases h0 : n = 0
    · exact .inl h0
    · obtain rfl : n = 1 := by omega
      cases h1
      refine .inr ⟨g, 0, rfl, fun i hi j hj => ?_⟩
      obtain rfl : i = 0 := by omega
      refine cellAt h3 ?_
      have h8 : cur.toList[j]? = (rgC r 1)[j]? := by rw [← h7, List.getElem?_take_of_lt (by omega)]
      rw [← Array.getElem?_toList, show 0 + 0 * 4 + j = j by omega, h8]
      rcases (by omega : j = 0 ∨ j = 1 ∨ j = 2 ∨ j = 3) with rfl | rfl | rfl | rfl <;> rfl
theorem own_rg {w : World} {base g : Nat} {r : Nat → Int} (h : w.heap[g]? = some (.cells #[.int .i64 (r 0), .int .i64 (r 1), .int .i64 (r 2), .int .i64 (r 3)] 26 (0, 0))) (hb : base ≤ g) : w.ownsRow base 26 4 (.slice (some ⟨g, 0, none⟩) 1 1) 1 (rgC r 1) :=
  ⟨rfl, .inr ⟨g, 1, _, rfl, hb, h, Nat.le_refl _, by unfold maxLen; omega, rfl, rfl⟩⟩
theorem own_none4 (w : World) (base : Nat) (r : Nat → Int) : w.ownsRow base 26 4 (.slice none 0 0) 0 (rgC r 0) := ⟨rfl, .inl ⟨rfl, rfl⟩⟩
/-- Pinned of any head, both sides. -/
theorem pin_both (W H D : Int) (A : Bool) (sw sh : Int) (r : Nat → Int) (N p ln : Int) (s0 : -9223372036854775808 ≤ sw) (s1 : sw ≤ 9223372036854775807) :
    ∃ (X Y P : Int) (n : Nat), n ≤ 1 ∧ (∀ w, Calls Tryz.prog 12 #[hvv W H D A sw sh r N p ln] w fun e w' => ∃ lo, e = .returned (cfv X Y lo n n 0 P) ∧ w'.ownsRow w.heap.size 26 4 (.slice lo n n) n (rgC r n) ∧ Kept [] w w') ∧ (∀ w, Calls Tryz.prog 13 #[hvv W H D A sw sh r N p ln] w fun e w' => ∃ lo, e = .returned (cfv X Y lo n n 0 P) ∧ w'.ownsRow w.heap.size 26 4 (.slice lo n n) n (rgC r n) ∧ Kept [] w w') := by
  cases hR : rgt W H D A sw sh r N p ln with
  | false =>
    refine ⟨0, 0, 0, 0, by omega, fun w => (ppin_no W H D A sw sh r N p ln w s0 s1 hR).mono (fun e w' h => ⟨none, h.1, own_none4 _ _ _, h.2⟩), fun w => (rpin_no W H D A sw sh r N p ln w hR).mono (fun e w' h => ⟨none, h.1, own_none4 _ _ _, h.2⟩)⟩
  | true =>
    refine ⟨sw, sh, p, 1, Nat.le_refl _, fun w => (ppin_yes W H D A sw sh r N p ln w s0 s1 hR).mono (fun e w' h => ?_), fun w => (rpin_yes W H D A sw sh r N p ln w hR).mono (fun e w' h => ?_)⟩
    · obtain ⟨G, h1, h2, h3, h4⟩ := h
      exact ⟨_, h1, own_rg h3 h2, h4⟩
    · obtain ⟨G, h1, h2, h3, h4⟩ := h
      exact ⟨_, h1, own_rg h3 h2, h4⟩
theorem Tryz.infoRu : (Tryz.prog.info? 26).map (fun i => (i.zero, i.size, i.bytes)) = some (some (.agg #[.int .i64 0, .int .i64 0, .int .i64 0, .int .i64 0]), 4, 32) := by kernel_rfl
theorem own_some4 {w : World} {base e n : Nat} {v : Value} {xs : List Value} (h : w.ownsRow base e 4 v n xs) (hn : 0 < n) : ∃ g cap cur, v = .slice (some ⟨g, 0, none⟩) n cap ∧ base ≤ g ∧ w.heap[g]? = some (.cells cur e (0, 0)) ∧ n ≤ cap ∧ cur.size = cap * 4 := by
  rcases h.2 with ⟨_, h0⟩ | ⟨g, cap, cur, h1, h2, h3, h4, h5, h6, h7⟩
  · omega
  · exact ⟨g, cap, cur, h1, h2, h3, h4, h6⟩
theorem wpList_rg (w : World) {ops : Array Oper} {rest : List Oper} {o : Oper} {a : Act} {Q : Exit → Act → World → Prop} (hgd : o.guard = none) (s x : Operand)
    (ho : o.op = .call { callee := .builtin .append, args := #[s, x], argTypes := #[36, 36] })
    (V : Value) (n : Nat) (xs : List Value) (hs : a.eval s = V) (hown : w.ownsRow 0 26 4 V n xs) (T : Nat) (v0 v1 v2 v3 : Value) (hx : a.eval x = .slice (some ⟨T, 0, none⟩) 1 1) (hT : w.heap[T]? = some (.cells #[v0, v1, v2, v3] 26 (0, 0)))
    (h1 : ∀ v ∈ [v0, v1, v2, v3], v.oneCell' = true) (hn : n ≤ 1000)
    (h : ∀ g c w', w'.ownsRow 0 26 4 (.slice (some ⟨g, 0, none⟩) (n + 1) c) (n + 1) (xs ++ [v0, v1, v2, v3]) → Kept V.ownBlock.toList w w' → (V.ownBlock = some g ∨ w.heap.size ≤ g) → wpList Tryz.prog ops Q rest (a.put o.dst (.slice (some ⟨g, 0, none⟩) (n + 1) c)) w') :
    wpList Tryz.prog ops Q (o :: rest) a w := by
  obtain ⟨i0, hi, hz0, hz1, hz2⟩ := info_parts Tryz.infoRu
  refine wpList_append_own_at w hgd s x 36 ho 0 26 i0 (.agg #[.int .i64 0, .int .i64 0, .int .i64 0, .int .i64 0]) 4 32 Tryz.underlying36 hi hz0 hz1 hz2 rfl (by decide) V n xs hs hown ⟨T, 0, none⟩ 1 1 [v0, v1, v2, v3] hx rfl (fun j v hj => ?_) h1 (by unfold maxLen; omega) (by omega) (Nat.zero_le _) ?_
  · have hadd : (⟨T, 0, none⟩ : Addr).add j = ⟨T, j, none⟩ := by unfold Addr.add; split <;> simp_all
    rw [hadd]
    exact cellAt hT (by rw [← Array.getElem?_toList]; exact hj)
  · intro v' w' h2 h3 _ h5
    obtain ⟨g, c, cur, rfl, _⟩ := own_some4 h2 (by omega)
    refine h g c w' h2 (Kept.of_grown h3) ?_
    rcases h5 with h5 | h5
    · left; rw [← h5]; rfl
    · right
      first
        | (have h6 : some g = _ := h5; cases h6; exact Nat.le_refl _)
        | (obtain ⟨b, hb, hle⟩ := h5; cases hb; exact hle)
end Go.Proofs.YtiganmmacmhndaaGreatDoor.Pc

namespace Go.Proofs.YtiganmmacmhndaaGreatDoor.Pc
open Go.RowKit

theorem row_cap {w : World} {B e n cap : Nat} {ao : Option Addr} {xs : List Value} (h : w.ownsRow B e 1 (.slice ao n cap) n xs) : n ≤ cap ∧ cap ≤ maxLen := by
  rcases h.2 with ⟨h1, h2⟩ | ⟨g, c, cur, h1, h2, h3, h4, h5, h6, h7⟩
  · cases h1; exact ⟨Nat.le_refl _, by unfold maxLen; omega⟩
  · cases h1; exact ⟨h4, h5⟩
theorem own_empty {w : World} {g : Nat} (h : w.heap[g]? = some (.cells #[] 5 (0, 0))) : w.ownsRow 0 5 1 (.slice (some ⟨g, 0, none⟩) 0 0) 0 [] :=
  ⟨rfl, .inr ⟨g, 0, #[], rfl, Nat.zero_le _, h, Nat.le_refl _, by unfold maxLen; omega, rfl, rfl⟩⟩

theorem own_set {w : World} {B e n g i : Nat} {V v : Value} {xs : List Value} (h : w.ownsRow B e 4 V n xs) (hg : V.ownBlock = some g) : ∃ xs', (w.setCell ⟨g, i, none⟩ v).ownsRow B e 4 V n xs' := by
  rcases h.2 with ⟨h1, _⟩ | ⟨g', cap, cur, h1, h2, h3, h4, h5, h6, h7⟩
  · rw [h1] at hg; cases hg
  · have hg' : g' = g := by rw [h1] at hg; simpa [Value.ownBlock] using hg
    subst hg'
    have h8 := heap_setCell_at (i := i) (u := v) h3
    exact ⟨(cur.setIfInBounds i v).toList.take (n * 4), by simp; omega, .inr ⟨g', cap, _, h1, h2, h8, h4, h5, by simp [h6], rfl⟩⟩

set_option maxHeartbeats 32000000 in
set_option maxRecDepth 1000000 in
theorem heads_any (bo : Option Addr) (m cb : Nat) (l : List Nat) (W H D : Int) (A : Bool) (sw sh : Int) (r : Nat → Int) (N p ln : Int) (w : World) (hT : Tab w) (hr : Reads w bo l) (hby : Byts l) (hm : l.length = m) (hmc : m ≤ cb) (hcb : cb ≤ 140737488351232) (s0 : -9223372036854775808 ≤ sw) (s1 : sw ≤ 9223372036854775807) :
    Calls Tryz.prog 3 #[.slice bo m cb, hvv W H D A sw sh r N p ln] w fun e w' => e = .returned (.bool true) ∧ Kept [] w w' := by
  obtain ⟨TS, CT1, CT2⟩ := ts_both W H D A sw sh r N p ln s0 s1
  obtain ⟨X, Y, P, n, hn1, CP1, CP2⟩ := pin_both W H D A sw sh r N p ln s0 s1
  obtain ⟨r0, er0⟩ : ∃ x, r 0 = x := ⟨_, rfl⟩
  obtain ⟨r1, er1⟩ : ∃ x, r 1 = x := ⟨_, rfl⟩
  obtain ⟨r2, er2⟩ : ∃ x, r 2 = x := ⟨_, rfl⟩
  obtain ⟨r3, er3⟩ : ∃ x, r 3 = x := ⟨_, rfl⟩
  have e9 : hvv W H D A sw sh r N p ln = .agg #[.int .i64 W, .int .i64 H, .int .i64 D, .bool A, .int .i64 sw, .int .i64 sh, .int .i64 r0, .int .i64 r1, .int .i64 r2, .int .i64 r3, .int .i64 N, .int .i64 p, .int .i64 ln] := by unfold hvv; rw [er0, er1, er2, er3]
  rw [e9] at CT1 CT2 CP1 CP2 ⊢
  have CT1 := Hid.mk CT1
  have CT2 := Hid.mk CT2
  have CP1 := Hid.mk CP1
  have CP2 := Hid.mk CP2
  have HR := Hid.mk hr
  have HBY := Hid.mk hby
  obtain ⟨w1, e1⟩ : ∃ w1, w.alloc (.cells #[.int .i64 W, .int .i64 H, .int .i64 D, .bool A, .int .i64 sw, .int .i64 sh, .int .i64 r0, .int .i64 r1, .int .i64 r2, .int .i64 r3, .int .i64 N, .int .i64 p, .int .i64 ln] 28 (0, 0)) = w1 := ⟨_, rfl⟩
  obtain ⟨B, eB⟩ : ∃ B, w.heap.size = B := ⟨_, rfl⟩
  have k1 : Kept [] w w1 := by rw [← e1]; exact (Kept.refl [] w).alloc _
  have HB1 := Hid.mk (show w1.heap[B]? = some (.cells #[.int .i64 W, .int .i64 H, .int .i64 D, .bool A, .int .i64 sw, .int .i64 sh, .int .i64 r0, .int .i64 r1, .int .i64 r2, .int .i64 r3, .int .i64 N, .int .i64 p, .int .i64 ln] 28 (0, 0)) by rw [← e1, ← eB]; exact heap_alloc_new _ _)
  have C0 := Hid.mk (pshown_any w1 (hT.kept k1 (by simp)))
  have K1 := Hid.mk k1
  obtain ⟨T, eT⟩ : ∃ T, m + 9 = T := ⟨_, rfl⟩
  have HTT : Hid (m + 9 = T) := Hid.mk eT
  have HMB : Hid (m ≤ cb ∧ cb ≤ 140737488351232 ∧ l.length = m) := Hid.mk ⟨hmc, hcb, hm⟩
  have iT : (m : Int) ≤ (T : Int) := by omega
  clear s0 s1 er0 er1 er2 er3 e9 hr hby k1 hT hmc hcb hm eT
  go_enter Tryz.func3, Tryz.ntmps3
  go_wp2_with (fail)
  clear e1 eB
  refine C0.out.mono ?_
  rintro e w2 ⟨rfl, k2⟩
  have K2 := Hid.mk (K1.out.trans k2)
  have HB2 := Hid.mk (k2.heap HB1.out (by simp))
  have CL := Hid.mk (lentBytes_any bo m cb l w2 (HR.out.keep K2.out) HMB.out.2.2 (by have := HMB.out; omega))
  rw [HTT.out] at CL
  clear k2 C0 HB1
  go_wp2_with (fail)
  refine CL.out.mono ?_
  rintro e w3 ⟨G, f, rfl, hG, hRw, hf1, hf2, k3⟩
  have K3 := Hid.mk (K2.out.trans k3)
  have HB3 := Hid.mk (k3.heap HB2.out (by simp))
  have RW3 := Hid.mk hRw
  have HF := Hid.mk (And.intro hf1 hf2)
  have HG : Hid (w.heap.size ≤ G) := Hid.mk (Nat.le_trans K2.out.size hG)
  have HGB : Hid (B ≠ G) := Hid.mk (by have := lt_of_block HB2.out; omega)
  have CH1 := Hid.mk (phead_all (some ⟨G, 0, none⟩) m T l w3 (rw_reads RW3.out (by have := HTT.out; have := HMB.out; omega) (fun i hi => HF.out.1 i (by have := HMB.out; omega))) HBY.out HMB.out.2.2 (by have := HTT.out; omega) (by have := HTT.out; have := HMB.out; omega))
  obtain ⟨xa, xb, xc, xx, xd, xe, xf, xg, xh, xi, xj, xk, xm, xE, hx⟩ := hdr_form l
  rw [hx] at CH1
  have HX := Hid.mk hx
  clear hG hRw hf1 hf2 k3 CL hx
  go_wp2_with (fail)
  refine CH1.out.mono ?_
  rintro e w4 ⟨rfl, k4⟩
  obtain ⟨w5, ew5⟩ : ∃ x, w4.alloc (.cells #[.int .i64 xa, .int .i64 xb, .int .i64 xc, .bool xx, .int .i64 xd, .int .i64 xe, .int .i64 xf, .int .i64 xg, .int .i64 xh, .int .i64 xi, .int .i64 xj, .int .i64 xk, .int .i64 xm] 28 (0, 0)) = x := ⟨_, rfl⟩
  obtain ⟨Q1, eQ1⟩ : ∃ x, w4.heap.size = x := ⟨_, rfl⟩
  have kw5 : Kept [] w4 w5 := by rw [← ew5]; exact (Kept.refl [] w4).alloc _
  have HQ1 := Hid.mk (show w5.heap[Q1]? = some (.cells #[.int .i64 xa, .int .i64 xb, .int .i64 xc, .bool xx, .int .i64 xd, .int .i64 xe, .int .i64 xf, .int .i64 xg, .int .i64 xh, .int .i64 xi, .int .i64 xj, .int .i64 xk, .int .i64 xm] 28 (0, 0)) by rw [← ew5, ← eQ1]; exact heap_alloc_new _ _)
  have J5 : Hid (Kept [] w3 w5) := Hid.mk (k4.trans kw5)
  have K5 := Hid.mk (K3.out.trans J5.out)
  have HB5 := Hid.mk (J5.out.heap HB3.out (by simp))
  have HQ1G : Hid (Q1 ≠ G) := Hid.mk (by have := lt_of_block RW3.out; have := k4.size; omega)
  have CS := Hid.mk (bytesStay_any G bo m cb l f w5 (by rw [HTT.out]; exact RW3.out.keep J5.out (by simp)) HF.out.1 (fun j h1 h2 => HF.out.2 j h1 (by have := HTT.out; omega)) (HR.out.keep K5.out) HBY.out (fun bg boff e h0 => by
    rcases HR.out with h | ⟨g', o', e', hc⟩
    · have := HMB.out.2.2; rw [h] at this; simp at this; omega
    · rw [e] at e'; cases e'
      have h1 := World.block_lt_of_cell? w _ (hc 0 (by have := HMB.out.2.2; omega))
      have h2 : bg < w.heap.size := h1
      have := HG.out
      omega) HMB.out.2.2 (by have := HMB.out; omega))
  rw [HTT.out] at CS
  clear k4 kw5 CH1 RW3 HB3
  go_wp2_with (fail)
  clear ew5 eQ1
  refine CS.out.mono ?_
  rintro e w6 ⟨f', rfl, hRw, hf, k6⟩
  have RW6 := Hid.mk hRw
  have K6 : Hid (Kept [] w w6) := Hid.mk (K5.out.step k6 (fun x hx => by simp at hx; subst hx; exact .inr HG.out))
  have HB6 := Hid.mk (k6.heap HB5.out (by have := HGB.out; simpa using this))
  have HQ1' := Hid.mk (k6.heap HQ1.out (by have := HQ1G.out; simpa using this))
  obtain ⟨l2, el2⟩ : ∃ x, rgf f' m = x := ⟨_, rfl⟩
  have HL2 : Hid (l2.length = m) := Hid.mk (by rw [← el2]; exact rgf_len _ _)
  have HY2 : Hid (Byts l2) := Hid.mk (fun b hb => by
    rw [← el2] at hb
    unfold rgf at hb
    simp only [List.mem_map, List.mem_range] at hb
    obtain ⟨i, hi, rfl⟩ := hb
    rw [hf i hi]
    exact Nat.xor_lt_two_pow (n := 8) (getD_lt l i HBY.out) (by decide))
  have HR2 : Hid (∀ u, Kept [] w6 u → Reads u (some ⟨G, 0, none⟩) l2) := Hid.mk (fun u hu => by rw [← el2]; exact (RW6.out.keep hu (by simp)).reads (by have := HTT.out; omega))
  have CH2 := Hid.mk (phead_all (some ⟨G, 0, none⟩) m T l2 w6 (HR2.out w6 (Kept.refl _ _)) HY2.out HL2.out (by have := HTT.out; omega) (by have := HTT.out; have := HMB.out; omega))
  obtain ⟨ya, yb, yc, yx, yd, ye, yf, yg, yh, yi, yj, yk, ym, yE, hy⟩ := hdr_form l2
  rw [hy] at CH2
  have HY := Hid.mk hy
  clear hRw hf k6 CS hy el2 HQ1 HB5 HQ1G HGB HF RW6
  go_wp2_with (fail)
  refine CH2.out.mono ?_
  rintro e w7 ⟨rfl, k7⟩
  obtain ⟨w8, ew8⟩ : ∃ x, w7.alloc (.cells #[.int .i64 ya, .int .i64 yb, .int .i64 yc, .bool yx, .int .i64 yd, .int .i64 ye, .int .i64 yf, .int .i64 yg, .int .i64 yh, .int .i64 yi, .int .i64 yj, .int .i64 yk, .int .i64 ym] 28 (0, 0)) = x := ⟨_, rfl⟩
  obtain ⟨Q2, eQ2⟩ : ∃ x, w7.heap.size = x := ⟨_, rfl⟩
  have kw8 : Kept [] w7 w8 := by rw [← ew8]; exact (Kept.refl [] w7).alloc _
  have HQ2 := Hid.mk (show w8.heap[Q2]? = some (.cells #[.int .i64 ya, .int .i64 yb, .int .i64 yc, .bool yx, .int .i64 yd, .int .i64 ye, .int .i64 yf, .int .i64 yg, .int .i64 yh, .int .i64 yi, .int .i64 yj, .int .i64 yk, .int .i64 ym] 28 (0, 0)) by rw [← ew8, ← eQ2]; exact heap_alloc_new _ _)
  have J8 : Hid (Kept [] w6 w8) := Hid.mk (k7.trans kw8)
  have K8 := Hid.mk (K6.out.trans J8.out)
  have HB8 := Hid.mk (J8.out.heap HB6.out (by simp))
  have HQ18 := Hid.mk (J8.out.heap HQ1'.out (by simp))
  obtain ⟨w9, e9⟩ : ∃ x, w8.alloc (.cells #[] 5 (0, 0)) = x := ⟨_, rfl⟩
  obtain ⟨S8, eS8⟩ : ∃ x, w8.heap.size = x := ⟨_, rfl⟩
  have k9 : Kept [] w8 w9 := by rw [← e9]; exact (Kept.refl [] w8).alloc _
  have O9 := Hid.mk (own_empty (show w9.heap[S8]? = some (.cells #[] 5 (0, 0)) by rw [← e9, ← eS8]; exact heap_alloc_new _ _))
  have R9 := Hid.mk (HR2.out w9 (J8.out.trans k9))
  have K9 := Hid.mk k9
  have ES8 := Hid.mk eS8
  have hmB : m ≤ 140737488351232 := by have := HMB.out; omega
  clear k7 kw8 CH2 HB6 HQ1' k9
  go_wp2_with (at_builtin; refine wpList_appR 0 _ rfl _ _ rfl _ 0 [] rfl O9.out (some ⟨G, 0, none⟩) m T l2 rfl R9.out HL2.out (fun h => by cases h) (Nat.zero_le _) (by omega) ?_)
  intro v10 w10 h6 h7 h8
  clear ew8 eQ2 e9 eS8
  obtain ⟨vo, vc, rfl⟩ := row_form h6
  have HVC := Hid.mk (row_cap h6)
  have J10 : Hid (Kept [] w8 w10) := Hid.mk (K9.out.step h7 (fun x hx => by simp [Value.ownBlock] at hx; subst hx; exact .inr (Nat.le_of_eq ES8.out)))
  have K10 := Hid.mk (K8.out.trans J10.out)
  have HB10 := Hid.mk (J10.out.heap HB8.out (by simp))
  have HQ110 := Hid.mk (J10.out.heap HQ18.out (by simp))
  have HQ210 := Hid.mk (J10.out.heap HQ2.out (by simp))
  have RV := Hid.mk (reads_row h6)
  have C3 := Hid.mk (rHead_all bo m cb l w10 (HR.out.keep K10.out) HBY.out HMB.out.2.2 HMB.out.1 (by have := HMB.out; omega))
  rw [HX.out] at C3
  clear h6 h7 h8 O9 R9 K9 HB8 HQ18 HQ2 hmB
  go_wp2_with (fail)
  refine C3.out.mono ?_
  rintro e w11 ⟨rfl, k11⟩
  obtain ⟨w12, ew12⟩ : ∃ x, w11.alloc (.cells #[.int .i64 xa, .int .i64 xb, .int .i64 xc, .bool xx, .int .i64 xd, .int .i64 xe, .int .i64 xf, .int .i64 xg, .int .i64 xh, .int .i64 xi, .int .i64 xj, .int .i64 xk, .int .i64 xm] 28 (0, 0)) = x := ⟨_, rfl⟩
  obtain ⟨Q3, eQ3⟩ : ∃ x, w11.heap.size = x := ⟨_, rfl⟩
  have kw12 : Kept [] w11 w12 := by rw [← ew12]; exact (Kept.refl [] w11).alloc _
  have HQ3 := Hid.mk (show w12.heap[Q3]? = some (.cells #[.int .i64 xa, .int .i64 xb, .int .i64 xc, .bool xx, .int .i64 xd, .int .i64 xe, .int .i64 xf, .int .i64 xg, .int .i64 xh, .int .i64 xi, .int .i64 xj, .int .i64 xk, .int .i64 xm] 28 (0, 0)) by rw [← ew12, ← eQ3]; exact heap_alloc_new _ _)
  have J12 : Hid (Kept [] w10 w12) := Hid.mk (k11.trans kw12)
  have K12 := Hid.mk (K10.out.trans J12.out)
  have C4 := Hid.mk (rHead_all vo m vc l2 w12 (RV.out.keep J12.out) HY2.out HL2.out HVC.out.1 (by have := HVC.out.2; unfold maxLen at this; omega))
  rw [HY.out] at C4
  clear k11 kw12 C3
  go_wp2_with (fail)
  clear ew12 eQ3
  refine C4.out.mono ?_
  rintro e w13 ⟨rfl, k13⟩
  obtain ⟨w14, ew14⟩ : ∃ x, w13.alloc (.cells #[.int .i64 ya, .int .i64 yb, .int .i64 yc, .bool yx, .int .i64 yd, .int .i64 ye, .int .i64 yf, .int .i64 yg, .int .i64 yh, .int .i64 yi, .int .i64 yj, .int .i64 yk, .int .i64 ym] 28 (0, 0)) = x := ⟨_, rfl⟩
  obtain ⟨Q4, eQ4⟩ : ∃ x, w13.heap.size = x := ⟨_, rfl⟩
  have kw14 : Kept [] w13 w14 := by rw [← ew14]; exact (Kept.refl [] w13).alloc _
  have HQ4 := Hid.mk (show w14.heap[Q4]? = some (.cells #[.int .i64 ya, .int .i64 yb, .int .i64 yc, .bool yx, .int .i64 yd, .int .i64 ye, .int .i64 yf, .int .i64 yg, .int .i64 yh, .int .i64 yi, .int .i64 yj, .int .i64 yk, .int .i64 ym] 28 (0, 0)) by rw [← ew14, ← eQ4]; exact heap_alloc_new _ _)
  have J14 : Hid (Kept [] w12 w14) := Hid.mk (k13.trans kw14)
  have K14 := Hid.mk (K12.out.trans J14.out)
  have L14 := Hid.mk (J12.out.trans J14.out)
  have ZB : Hid (∀ u, Kept [] w14 u → _) := Hid.mk (fun u hu => cel13 ((L14.out.trans hu).heap HB10.out (by simp)))
  have Z1 : Hid (∀ u, Kept [] w14 u → _) := Hid.mk (fun u hu => cel13 ((L14.out.trans hu).heap HQ110.out (by simp)))
  have Z2 : Hid (∀ u, Kept [] w14 u → _) := Hid.mk (fun u hu => cel13 ((L14.out.trans hu).heap HQ210.out (by simp)))
  have Z3 : Hid (∀ u, Kept [] w14 u → _) := Hid.mk (fun u hu => cel13 ((J14.out.trans hu).heap HQ3.out (by simp)))
  have Z4 : Hid (∀ u, Kept [] w14 u → _) := Hid.mk (fun u hu => cel13 (hu.heap HQ4.out (by simp)))
  clear k13 kw14 C4 RV HVC HR2 HL2 HY2 HX HY
  go_wp2_with (fail)
  clear ew14 eQ4
  have zB0 := fun q : KW w14 => (ZB.out q.u q.h).1
  have zB1 := fun q : KW w14 => (ZB.out q.u q.h).2.1
  have zB2 := fun q : KW w14 => (ZB.out q.u q.h).2.2.1
  have zB3 := fun q : KW w14 => (ZB.out q.u q.h).2.2.2.1
  have zB4 := fun q : KW w14 => (ZB.out q.u q.h).2.2.2.2.1
  have zB5 := fun q : KW w14 => (ZB.out q.u q.h).2.2.2.2.2.1
  have zB6 := fun q : KW w14 => (ZB.out q.u q.h).2.2.2.2.2.2.1
  have zB7 := fun q : KW w14 => (ZB.out q.u q.h).2.2.2.2.2.2.2.1
  have zB8 := fun q : KW w14 => (ZB.out q.u q.h).2.2.2.2.2.2.2.2.1
  have zB9 := fun q : KW w14 => (ZB.out q.u q.h).2.2.2.2.2.2.2.2.2.1
  have zB10 := fun q : KW w14 => (ZB.out q.u q.h).2.2.2.2.2.2.2.2.2.2.1
  have zB11 := fun q : KW w14 => (ZB.out q.u q.h).2.2.2.2.2.2.2.2.2.2.2.1
  have zB12 := fun q : KW w14 => (ZB.out q.u q.h).2.2.2.2.2.2.2.2.2.2.2.2
  have z10 := fun q : KW w14 => (Z1.out q.u q.h).1
  have z11 := fun q : KW w14 => (Z1.out q.u q.h).2.1
  have z12 := fun q : KW w14 => (Z1.out q.u q.h).2.2.1
  have z13 := fun q : KW w14 => (Z1.out q.u q.h).2.2.2.1
  have z14 := fun q : KW w14 => (Z1.out q.u q.h).2.2.2.2.1
  have z15 := fun q : KW w14 => (Z1.out q.u q.h).2.2.2.2.2.1
  have z16 := fun q : KW w14 => (Z1.out q.u q.h).2.2.2.2.2.2.1
  have z17 := fun q : KW w14 => (Z1.out q.u q.h).2.2.2.2.2.2.2.1
  have z18 := fun q : KW w14 => (Z1.out q.u q.h).2.2.2.2.2.2.2.2.1
  have z19 := fun q : KW w14 => (Z1.out q.u q.h).2.2.2.2.2.2.2.2.2.1
  have z110 := fun q : KW w14 => (Z1.out q.u q.h).2.2.2.2.2.2.2.2.2.2.1
  have z111 := fun q : KW w14 => (Z1.out q.u q.h).2.2.2.2.2.2.2.2.2.2.2.1
  have z112 := fun q : KW w14 => (Z1.out q.u q.h).2.2.2.2.2.2.2.2.2.2.2.2
  have z20 := fun q : KW w14 => (Z2.out q.u q.h).1
  have z21 := fun q : KW w14 => (Z2.out q.u q.h).2.1
  have z22 := fun q : KW w14 => (Z2.out q.u q.h).2.2.1
  have z23 := fun q : KW w14 => (Z2.out q.u q.h).2.2.2.1
  have z24 := fun q : KW w14 => (Z2.out q.u q.h).2.2.2.2.1
  have z25 := fun q : KW w14 => (Z2.out q.u q.h).2.2.2.2.2.1
  have z26 := fun q : KW w14 => (Z2.out q.u q.h).2.2.2.2.2.2.1
  have z27 := fun q : KW w14 => (Z2.out q.u q.h).2.2.2.2.2.2.2.1
  have z28 := fun q : KW w14 => (Z2.out q.u q.h).2.2.2.2.2.2.2.2.1
  have z29 := fun q : KW w14 => (Z2.out q.u q.h).2.2.2.2.2.2.2.2.2.1
  have z210 := fun q : KW w14 => (Z2.out q.u q.h).2.2.2.2.2.2.2.2.2.2.1
  have z211 := fun q : KW w14 => (Z2.out q.u q.h).2.2.2.2.2.2.2.2.2.2.2.1
  have z212 := fun q : KW w14 => (Z2.out q.u q.h).2.2.2.2.2.2.2.2.2.2.2.2
  have z30 := fun q : KW w14 => (Z3.out q.u q.h).1
  have z31 := fun q : KW w14 => (Z3.out q.u q.h).2.1
  have z32 := fun q : KW w14 => (Z3.out q.u q.h).2.2.1
  have z33 := fun q : KW w14 => (Z3.out q.u q.h).2.2.2.1
  have z34 := fun q : KW w14 => (Z3.out q.u q.h).2.2.2.2.1
  have z35 := fun q : KW w14 => (Z3.out q.u q.h).2.2.2.2.2.1
  have z36 := fun q : KW w14 => (Z3.out q.u q.h).2.2.2.2.2.2.1
  have z37 := fun q : KW w14 => (Z3.out q.u q.h).2.2.2.2.2.2.2.1
  have z38 := fun q : KW w14 => (Z3.out q.u q.h).2.2.2.2.2.2.2.2.1
  have z39 := fun q : KW w14 => (Z3.out q.u q.h).2.2.2.2.2.2.2.2.2.1
  have z310 := fun q : KW w14 => (Z3.out q.u q.h).2.2.2.2.2.2.2.2.2.2.1
  have z311 := fun q : KW w14 => (Z3.out q.u q.h).2.2.2.2.2.2.2.2.2.2.2.1
  have z312 := fun q : KW w14 => (Z3.out q.u q.h).2.2.2.2.2.2.2.2.2.2.2.2
  have z40 := fun q : KW w14 => (Z4.out q.u q.h).1
  have z41 := fun q : KW w14 => (Z4.out q.u q.h).2.1
  have z42 := fun q : KW w14 => (Z4.out q.u q.h).2.2.1
  have z43 := fun q : KW w14 => (Z4.out q.u q.h).2.2.2.1
  have z44 := fun q : KW w14 => (Z4.out q.u q.h).2.2.2.2.1
  have z45 := fun q : KW w14 => (Z4.out q.u q.h).2.2.2.2.2.1
  have z46 := fun q : KW w14 => (Z4.out q.u q.h).2.2.2.2.2.2.1
  have z47 := fun q : KW w14 => (Z4.out q.u q.h).2.2.2.2.2.2.2.1
  have z48 := fun q : KW w14 => (Z4.out q.u q.h).2.2.2.2.2.2.2.2.1
  have z49 := fun q : KW w14 => (Z4.out q.u q.h).2.2.2.2.2.2.2.2.2.1
  have z410 := fun q : KW w14 => (Z4.out q.u q.h).2.2.2.2.2.2.2.2.2.2.1
  have z411 := fun q : KW w14 => (Z4.out q.u q.h).2.2.2.2.2.2.2.2.2.2.2.1
  have z412 := fun q : KW w14 => (Z4.out q.u q.h).2.2.2.2.2.2.2.2.2.2.2.2
  have rx := fun q : KW w14 => rung_eq9 xf xg xh xi q.u
  have ry := fun q : KW w14 => rung_eq9 yf yg yh yi q.u
  have QT1 : Hid (∀ q : KW w14, Calls Tryz.prog 10 #[.agg #[.int .i64 W, .int .i64 H, .int .i64 D, .bool A, .int .i64 sw, .int .i64 sh, .int .i64 r0, .int .i64 r1, .int .i64 r2, .int .i64 r3, .int .i64 N, .int .i64 p, .int .i64 ln]] q.u fun r w' => r = .returned (.int .i64 TS) ∧ ∃ q' : KW w14, w' = q'.u) := Hid.mk fun q => (CT1.out q.u).mono fun r w' ⟨h1, h2⟩ => ⟨h1, ⟨w', q.h.trans h2⟩, rfl⟩
  have QT2 : Hid (∀ q : KW w14, Calls Tryz.prog 11 #[.agg #[.int .i64 W, .int .i64 H, .int .i64 D, .bool A, .int .i64 sw, .int .i64 sh, .int .i64 r0, .int .i64 r1, .int .i64 r2, .int .i64 r3, .int .i64 N, .int .i64 p, .int .i64 ln]] q.u fun r w' => r = .returned (.int .i64 TS) ∧ ∃ q' : KW w14, w' = q'.u) := Hid.mk fun q => (CT2.out q.u).mono fun r w' ⟨h1, h2⟩ => ⟨h1, ⟨w', q.h.trans h2⟩, rfl⟩
  have NE : Nonempty (KW w14) := ⟨⟨w14, Kept.refl _ _⟩⟩
  refine wp_region_kept (by kernel_rfl) (by kernel_rfl) ?_
  repeat (go_big_quiet_step ((first | (go_at_call 10; exact QT1.out _) | (go_at_call 11; exact QT2.out _))))
  refine wpQuiet_nil ?_
  rintro _ ⟨z, rfl⟩
  have J15 := Hid.mk z.h
  have HB15 := Hid.mk ((L14.out.trans z.h).heap HB10.out (by simp))
  generalize z.u = w15 at *
  clear zB0 zB1 zB2 zB3 zB4 zB5 zB6 zB7 zB8 zB9 zB10 zB11 zB12 z10 z11 z12 z13 z14 z15 z16 z17 z18 z19 z110 z111 z112 z20 z21 z22 z23 z24 z25 z26 z27 z28 z29 z210 z211 z212 z30 z31 z32 z33 z34 z35 z36 z37 z38 z39 z310 z311 z312 z40 z41 z42 z43 z44 z45 z46 z47 z48 z49 z410 z411 z412 rx ry NE QT1 QT2 z
  have K15 := Hid.mk (K14.out.trans J15.out)
  obtain ⟨b0, b1, b2, b3, b4, b5, b6, b7, b8, b9, b10, b11, b12⟩ := cel13 HB15.out
  go_wp2_with (fail)
  refine (CP1.out _).mono ?_
  rintro e w16 ⟨lo1, rfl, ow16, kw16⟩
  obtain ⟨w17, ew17⟩ : ∃ x, w16.alloc (.cells #[.int .i64 X, .int .i64 Y, .slice lo1 n n, .int .i64 0, .int .i64 P] 38 (0, 0)) = x := ⟨_, rfl⟩
  obtain ⟨PB, ePB⟩ : ∃ x, w16.heap.size = x := ⟨_, rfl⟩
  have kw17 : Kept [] w16 w17 := by rw [← ew17]; exact (Kept.refl [] w16).alloc _
  have HPB := Hid.mk (show w17.heap[PB]? = some (.cells #[.int .i64 X, .int .i64 Y, .slice lo1 n n, .int .i64 0, .int .i64 P] 38 (0, 0)) by rw [← ew17, ← ePB]; exact heap_alloc_new _ _)
  have OPB := Hid.mk (kw17.row ow16 (by simp))
  have Iw17 : Hid (Kept [] w15 w17) := Hid.mk (kw16.trans kw17)
  have GPB : Hid (w15.heap.size ≤ PB) := Hid.mk (by rw [← ePB]; exact kw16.size)
  have LPB : Hid (∀ g, (Value.slice lo1 n n).ownBlock = some g → w15.heap.size ≤ g ∧ g < PB) := Hid.mk (fun g hg => by
    rcases ow16.2 with ⟨h, _⟩ | ⟨g', c, cur, h, hb, h3, _⟩
    · rw [h] at hg; cases hg
    · rw [h] at hg; cases hg; exact ⟨hb, by rw [← ePB]; exact lt_of_block h3⟩)
  have HB17 := Hid.mk (Iw17.out.heap HB15.out (by simp))
  clear ow16 kw16 kw17 b0 b1 b2 b3 b4 b5 b6 b7 b8 b9 b10 b11 b12
  obtain ⟨b0, b1, b2, b3, b4, b5, b6, b7, b8, b9, b10, b11, b12⟩ := cel13 HB17.out
  go_wp2_with (fail)
  clear ew17 ePB
  refine (CP1.out _).mono ?_
  rintro e w18 ⟨lo2, rfl, ow18, kw18⟩
  obtain ⟨w19, ew19⟩ : ∃ x, w18.alloc (.cells #[.int .i64 X, .int .i64 Y, .slice lo2 n n, .int .i64 0, .int .i64 P] 38 (0, 0)) = x := ⟨_, rfl⟩
  obtain ⟨QB, eQB⟩ : ∃ x, w18.heap.size = x := ⟨_, rfl⟩
  have kw19 : Kept [] w18 w19 := by rw [← ew19]; exact (Kept.refl [] w18).alloc _
  have HQB := Hid.mk (show w19.heap[QB]? = some (.cells #[.int .i64 X, .int .i64 Y, .slice lo2 n n, .int .i64 0, .int .i64 P] 38 (0, 0)) by rw [← ew19, ← eQB]; exact heap_alloc_new _ _)
  have OQB := Hid.mk (kw19.row ow18 (by simp))
  have Iw19 : Hid (Kept [] w17 w19) := Hid.mk (kw18.trans kw19)
  have GQB : Hid (w17.heap.size ≤ QB) := Hid.mk (by rw [← eQB]; exact kw18.size)
  have LQB : Hid (∀ g, (Value.slice lo2 n n).ownBlock = some g → w17.heap.size ≤ g ∧ g < QB) := Hid.mk (fun g hg => by
    rcases ow18.2 with ⟨h, _⟩ | ⟨g', c, cur, h, hb, h3, _⟩
    · rw [h] at hg; cases hg
    · rw [h] at hg; cases hg; exact ⟨hb, by rw [← eQB]; exact lt_of_block h3⟩)
  have HB19 := Hid.mk (Iw19.out.heap HB17.out (by simp))
  clear ow18 kw18 kw19 b0 b1 b2 b3 b4 b5 b6 b7 b8 b9 b10 b11 b12
  obtain ⟨b0, b1, b2, b3, b4, b5, b6, b7, b8, b9, b10, b11, b12⟩ := cel13 HB19.out
  go_wp2_with (fail)
  clear ew19 eQB
  refine (CP2.out _).mono ?_
  rintro e w20 ⟨lo3, rfl, ow20, kw20⟩
  obtain ⟨w21, ew21⟩ : ∃ x, w20.alloc (.cells #[.int .i64 X, .int .i64 Y, .slice lo3 n n, .int .i64 0, .int .i64 P] 38 (0, 0)) = x := ⟨_, rfl⟩
  obtain ⟨RB, eRB⟩ : ∃ x, w20.heap.size = x := ⟨_, rfl⟩
  have kw21 : Kept [] w20 w21 := by rw [← ew21]; exact (Kept.refl [] w20).alloc _
  have HRB := Hid.mk (show w21.heap[RB]? = some (.cells #[.int .i64 X, .int .i64 Y, .slice lo3 n n, .int .i64 0, .int .i64 P] 38 (0, 0)) by rw [← ew21, ← eRB]; exact heap_alloc_new _ _)
  have ORB := Hid.mk (kw21.row ow20 (by simp))
  have Iw21 : Hid (Kept [] w19 w21) := Hid.mk (kw20.trans kw21)
  have GRB : Hid (w19.heap.size ≤ RB) := Hid.mk (by rw [← eRB]; exact kw20.size)
  have LRB : Hid (∀ g, (Value.slice lo3 n n).ownBlock = some g → w19.heap.size ≤ g ∧ g < RB) := Hid.mk (fun g hg => by
    rcases ow20.2 with ⟨h, _⟩ | ⟨g', c, cur, h, hb, h3, _⟩
    · rw [h] at hg; cases hg
    · rw [h] at hg; cases hg; exact ⟨hb, by rw [← eRB]; exact lt_of_block h3⟩)
  have HB21 := Hid.mk (Iw21.out.heap HB19.out (by simp))
  clear ow20 kw20 kw21 b0 b1 b2 b3 b4 b5 b6 b7 b8 b9 b10 b11 b12
  obtain ⟨b0, b1, b2, b3, b4, b5, b6, b7, b8, b9, b10, b11, b12⟩ := cel13 HB21.out
  clear b0 b1 b2 b3 b4 b5 b6 b7 b8 b9 b10 b11 b12
  have I21 := Hid.mk (Iw19.out.trans Iw21.out)
  have HP21 := Hid.mk (I21.out.heap HPB.out (by simp))
  have HQ21 := Hid.mk (Iw21.out.heap HQB.out (by simp))
  have OP21 := Hid.mk (I21.out.row OPB.out (by simp))
  have OQ21 := Hid.mk (Iw21.out.row OQB.out (by simp))
  have K21 := Hid.mk ((K15.out.trans Iw17.out).trans I21.out)
  obtain ⟨p0, p1, p2, p3, p4⟩ := cel5 HP21.out
  obtain ⟨q0, q1, q2, q3, q4⟩ := cel5 HQ21.out
  obtain ⟨c0, c1, c2, c3, c4⟩ := cel5 HRB.out
  have CSC := Hid.mk (fun u (hu : Kept [] w21 u) => sameConfig_any X Y lo1 lo3 n n n (fun _ j => r j) 0 P u ((rgC_ldr OP21.out hn1).keep hu) ((rgC_ldr ORB.out hn1).keep hu) (by omega))
  have CSD := Hid.mk (fun u (hu : Kept [] w21 u) => sameConfig_any X Y lo2 lo3 n n n (fun _ j => r j) 0 P u ((rgC_ldr OQ21.out hn1).keep hu) ((rgC_ldr ORB.out hn1).keep hu) (by omega))
  go_wp2_with (fail)
  clear ew21 eRB
  refine (CSC.out _ (Kept.refl _ _)).mono ?_
  rintro e w22 ⟨rfl, k22⟩
  have K22 := Hid.mk k22
  clear p0 p1 p2 p3 p4 q0 q1 q2 q3 q4 c0 c1 c2 c3 c4
  obtain ⟨q0, q1, q2, q3, q4⟩ := cel5 (k22.heap HQ21.out (by simp))
  obtain ⟨c0, c1, c2, c3, c4⟩ := cel5 (k22.heap HRB.out (by simp))
  clear k22
  go_wp2_with (fail)
  refine (CSD.out _ K22.out).mono ?_
  rintro e w23 ⟨rfl, k23⟩
  have I23 := Hid.mk (K22.out.trans k23)
  clear q0 q1 q2 q3 q4 c0 c1 c2 c3 c4 k23 CSC CSD
  have HP23 := Hid.mk (I23.out.heap HP21.out (by simp))
  have HQ23 := Hid.mk (I23.out.heap HQ21.out (by simp))
  have HR23 := Hid.mk (I23.out.heap HRB.out (by simp))
  have OP23 := Hid.mk (I23.out.row OP21.out (by simp))
  have OQ23 := Hid.mk (I23.out.row OQ21.out (by simp))
  have OR23 := Hid.mk (I23.out.row ORB.out (by simp))
  have K23 := Hid.mk (K21.out.trans I23.out)
  have KB : Hid (w.heap.size ≤ w15.heap.size) := Hid.mk K15.out.size
  have HZ : Hid (PB < w17.heap.size ∧ w17.heap.size ≤ QB ∧ w17.heap.size ≤ w19.heap.size ∧ w19.heap.size ≤ RB ∧ PB < w23.heap.size) := Hid.mk ⟨lt_of_block HPB.out, GQB.out, Iw19.out.size, GRB.out, lt_of_block HP23.out⟩
  obtain ⟨G1, HG1⟩ : ∃ G1, Hid ((∀ g, (Value.slice lo1 n n).ownBlock = some g → g = G1 ∧ g < PB) ∧ w15.heap.size ≤ G1 ∧ G1 ≤ PB) := by
    cases h : (Value.slice lo1 n n).ownBlock with
    | none => exact ⟨PB, Hid.mk ⟨(fun g hg => by cases hg), GPB.out, Nat.le_refl _⟩⟩
    | some g => exact ⟨g, Hid.mk ⟨(fun g' hg' => by cases hg'; exact ⟨rfl, (LPB.out g h).2⟩), (LPB.out g h).1, Nat.le_of_lt (LPB.out g h).2⟩⟩
  clear HP21 HQ21 OP21 OQ21 K21 I21 I23 HPB HQB HRB OPB OQB ORB HB17 HB19 HB21 HB15 K22 Iw17 Iw19 Iw21 K15 GPB GQB GRB LPB CP1 CP2
  go_wp2_with (fail)
  go_loopw [22] (fun i wr => ∃ k : Nat, k ≤ n ∧ i = .int .i64 (k : Int) ∧ Hid (∃ xs, wr.ownsRow 0 26 4 (.slice lo1 n n) n xs ∧ wr.heap[PB]? = some (.cells #[.int .i64 X, .int .i64 Y, .slice lo1 n n, .int .i64 0, .int .i64 P] 38 (0, 0)) ∧ Kept [PB, G1] w23 wr)) (fun i _ => n - (intOf i).toNat)
  case atStart => exact ⟨0, Nat.zero_le _, rfl, Hid.mk ⟨_, own_lower OP23.out (Nat.zero_le _), HP23.out, Kept.refl _ _⟩⟩
  case round =>
    obtain ⟨k, hk, rfl, HI⟩ := hrel
    obtain ⟨xs, hO, hP, hK⟩ := HI.out
    obtain ⟨p0, p1, p2, p3, p4⟩ := cel5 hP
    by_cases hlt : k < n
    · have ik : (k : Int) < (n : Int) := by omega
      obtain ⟨g, cap, cur, hV, _, h3, h4, h6⟩ := own_some4 hO (by omega)
      have hlo : lo1 = some ⟨g, 0, none⟩ := by cases hV; rfl
      have hob : (Value.slice lo1 n n).ownBlock = some g := by rw [hlo]; rfl
      have hg1 := HG1.out.1 g hob
      obtain ⟨c0, c1, c2, c3, hc⟩ : ∃ c0 c1 c2 c3, cur[k * 4]? = some c0 ∧ cur[k * 4 + 1]? = some c1 ∧ cur[k * 4 + 2]? = some c2 ∧ cur[k * 4 + 3]? = some c3 :=
        ⟨_, _, _, _, Array.getElem?_eq_getElem (by omega), Array.getElem?_eq_getElem (by omega), Array.getElem?_eq_getElem (by omega), Array.getElem?_eq_getElem (by omega)⟩
      have y0 : wr.cell? ⟨g, k * 4, none⟩ = some c0 := cellAt h3 hc.1
      have y1 : wr.cell? ⟨g, k * 4 + 1, none⟩ = some c1 := cellAt h3 hc.2.1
      have y2 : wr.cell? ⟨g, k * 4 + 2, none⟩ = some c2 := cellAt h3 hc.2.2.1
      have y3 : wr.cell? ⟨g, k * 4 + 3, none⟩ = some c3 := cellAt h3 hc.2.2.2
      have zz := row_fz h3
      have HPP : Hid (∀ u, Kept [g] wr u → u.heap[PB]? = some (.cells #[.int .i64 X, .int .i64 Y, .slice lo1 n n, .int .i64 0, .int .i64 P] 38 (0, 0))) := Hid.mk (fun u hu => hu.heap hP (by have := hg1.2; simp; omega))
      obtain ⟨xs1, o1⟩ := own_set (i := k * 4) (v := .int .i64 9) hO hob
      obtain ⟨xs2, o2⟩ := own_set (i := k * 4 + 1) (v := .int .i64 9) o1 hob
      obtain ⟨xs3, o3⟩ := own_set (i := k * 4 + 2) (v := .int .i64 9) o2 hob
      obtain ⟨xs4, o4⟩ := own_set (i := k * 4 + 3) (v := .int .i64 9) o3 hob
      have O4 := Hid.mk o4
      have KG : Hid (∀ ks a, Kept ks a wr → (g ∈ ks) → Kept ks a ((((wr.setCell ⟨g, k * 4, none⟩ (.int .i64 9)).setCell ⟨g, k * 4 + 1, none⟩ (.int .i64 9)).setCell ⟨g, k * 4 + 2, none⟩ (.int .i64 9)).setCell ⟨g, k * 4 + 3, none⟩ (.int .i64 9))) := Hid.mk (fun ks a h hg => (((h.setCell (p := ⟨g, k * 4, none⟩) (.inl hg) _).setCell (p := ⟨g, k * 4 + 1, none⟩) (.inl hg) _).setCell (p := ⟨g, k * 4 + 2, none⟩) (.inl hg) _).setCell (p := ⟨g, k * 4 + 3, none⟩) (.inl hg) _)
      have HKK := Hid.mk hK
      have HG9 := Hid.mk hg1
      subst hlo
      clear hO hP hK HI hV h3 h4 h6 hob hg1 hc o1 o2 o3 o4
      go_wp2
      go_roundw
      case rel => exact ⟨k + 1, by omega, by go_num, Hid.mk ⟨_, O4.out, HPP.out _ (KG.out [g] wr (Kept.refl _ _) (by simp)), KG.out _ _ HKK.out (by rw [HG9.out.1]; simp)⟩⟩
      case measure => simp [intOf]; omega
    · obtain rfl : n = k := by omega
      have HS : Hid (wr.ownsRow 0 26 4 (.slice lo1 n n) n xs ∧ wr.heap[PB]? = some (.cells #[.int .i64 X, .int .i64 Y, .slice lo1 n n, .int .i64 0, .int .i64 P] 38 (0, 0)) ∧ Kept [PB, G1] w23 wr) := Hid.mk ⟨hO, hP, hK⟩
      clear hlt hk hO hP hK HI
      go_wp2_with (fail)
      clear p0 p1 p2 p3 p4
      go_loopw [23] (fun i wr => ∃ k : Nat, k ≤ 20 ∧ i = .int .i64 (k : Int) ∧ Hid (∃ V xs, wr.heap[PB]? = some (.cells #[.int .i64 X, .int .i64 Y, V, .int .i64 0, .int .i64 P] 38 (0, 0)) ∧ wr.ownsRow 0 26 4 V (n + k) xs ∧ (∀ g, V.ownBlock = some g → (g = G1 ∧ g < PB) ∨ w23.heap.size ≤ g) ∧ Kept [PB, G1] w23 wr)) (fun i _ => 20 - (intOf i).toNat)
      case atStart => exact ⟨0, by omega, rfl, Hid.mk ⟨_, _, HS.out.2.1, HS.out.1, fun g hg => .inl (HG1.out.1 g hg), HS.out.2.2⟩⟩
      case round =>
        obtain ⟨k, hk, rfl, HI⟩ := hrel
        obtain ⟨V, xs, hP, hO, hL, hK⟩ := HI.out
        clear HI HS
        by_cases hlt : k < 20
        · have ik : (k : Int) < 20 := by omega
          obtain ⟨ao, cap, rfl⟩ := row_form hO
          obtain ⟨p0, p1, p2, p3, p4⟩ := cel5 hP
          obtain ⟨w5, e5⟩ : ∃ x, wr.alloc (.cells #[.int .i64 9, .int .i64 9, .int .i64 9, .int .i64 9] 26 (0, 0)) = x := ⟨_, rfl⟩
          obtain ⟨T9, eT9⟩ : ∃ x, wr.heap.size = x := ⟨_, rfl⟩
          have k5 : Kept [] wr w5 := by rw [← e5]; exact (Kept.refl [] wr).alloc _
          have HT9 := Hid.mk (show w5.heap[T9]? = some (.cells #[.int .i64 9, .int .i64 9, .int .i64 9, .int .i64 9] 26 (0, 0)) by rw [← e5, ← eT9]; exact heap_alloc_new _ _)
          have O5 := Hid.mk (k5.row hO (by simp))
          have P5 := Hid.mk (k5.heap hP (by simp))
          have K5 := Hid.mk (hK.trans (k5.mono (by simp)))
          have LL := Hid.mk hL
          have hnk : n + k ≤ 1000 := by omega
          have H9 : Hid (∀ v ∈ ([.int .i64 9, .int .i64 9, .int .i64 9, .int .i64 9] : List Value), v.oneCell' = true) := Hid.mk (by simp [Value.oneCell'])
          have W5 : Hid (w23.heap.size ≤ w5.heap.size) := Hid.mk (Nat.le_trans hK.size k5.size)
          clear hP hO hL hK k5
          go_wp2_with (at_builtin; refine wpList_rg _ rfl _ _ rfl _ (n + k) _ rfl O5.out T9 (.int .i64 9) (.int .i64 9) (.int .i64 9) (.int .i64 9) rfl HT9.out H9.out hnk ?_)
          intro g c w6 h6 h7 h8
          clear e5 eT9 p0 p1 p2 p3 p4
          have hPB : ∀ x, x ∈ (Value.slice ao (n + k) cap).ownBlock.toList → x ≠ PB ∧ (x ∈ [PB, G1] ∨ w23.heap.size ≤ x) := fun x hx => by
            have hx' : (Value.slice ao (n + k) cap).ownBlock = some x := by simpa using hx
            have hz := HZ.out
            rcases LL.out x hx' with h | h
            · exact ⟨by omega, .inl (by simp [h.1])⟩
            · exact ⟨by omega, .inr h⟩
          have P6 := h7.heap P5.out (fun hm => (hPB PB hm).1 rfl)
          have hgP : g ≠ PB := by
            rcases h8 with h | h
            · exact (hPB g (by simp [h])).1
            · have := HZ.out; have := W5.out; omega
          have K6 : Kept [PB, G1] w23 w6 := K5.out.step h7 (fun x hx => (hPB x hx).2)
          have L6 : Hid ((g = G1 ∧ g < PB) ∨ w23.heap.size ≤ g) := Hid.mk (by
            rcases h8 with h | h
            · exact LL.out g h
            · exact .inr (by have := W5.out; omega))
          have S6 := Hid.mk (heap_setCell_at (i := 2) (u := .slice (some ⟨g, 0, none⟩) (n + k + 1) c) P6)
          have O6 := Hid.mk (((Kept.refl [PB] w6).setCell (p := ⟨PB, 2, none⟩) (.inl (by simp)) (.slice (some ⟨g, 0, none⟩) (n + k + 1) c)).row h6 (fun x hx hm => by
            have hx' : some g = some x := hx
            cases hx'
            simp at hm
            exact hgP hm))
          have K7 : Hid (Kept [PB, G1] w23 (w6.setCell ⟨PB, 2, none⟩ (.slice (some ⟨g, 0, none⟩) (n + k + 1) c))) := Hid.mk (K6.setCell (p := ⟨PB, 2, none⟩) (.inl (by simp)) _)
          obtain ⟨p0, p1, p2, p3, p4⟩ := cel5 P6
          have zz := row_fz P6
          clear h6 h7 h8 hPB P6 hgP K6 O5 P5 K5 LL hnk H9 W5 HT9
          go_wp2
          go_roundw
          case rel => exact ⟨k + 1, by omega, by go_num, Hid.mk ⟨_, _, S6.out, O6.out, fun x hx => by
            have hx' : some g = some x := hx
            cases hx'
            exact L6.out, K7.out⟩⟩
          case measure => simp [intOf]; omega
        · have ik : ¬ (k : Int) < 20 := by omega
          have hz := HZ.out
          have hg1 := HG1.out
          obtain ⟨q0, q1, q2, q3, q4⟩ := cel5 (hK.heap HQ23.out (by simp; omega))
          obtain ⟨c0, c1, c2, c3, c4⟩ := cel5 (hK.heap HR23.out (by simp; omega))
          have CE := Hid.mk (sameConfig_any X Y lo2 lo3 n n n (fun _ j => r j) 0 P wr (rgC_ldr (hK.row OQ23.out (fun x hx hm => by
            have h9 := LQB.out x hx
            simp at hm
            omega)) hn1) (rgC_ldr (hK.row OR23.out (fun x hx hm => by
            have h9 := LRB.out x hx
            simp at hm
            omega)) hn1) (by omega))
          have KF : Hid (Kept [] w wr) := Hid.mk (K23.out.step hK (fun x hx => by
            have := KB.out
            simp at hx
            exact .inr (by omega)))
          clear hP hO hL hK hz hg1 hlt hk HZ HG1 HQ23 HR23 OQ23 OR23 LQB LRB KB K23
          go_wp2_with (fail)
          refine CE.out.mono ?_
          rintro e w25 ⟨rfl, k25⟩
          have K25 := Hid.mk (KF.out.trans k25)
          clear q0 q1 q2 q3 q4 c0 c1 c2 c3 c4 k25
          go_wp2
          go_ret
          exact ⟨rfl, K25.out⟩
end Go.Proofs.YtiganmmacmhndaaGreatDoor.Pc
